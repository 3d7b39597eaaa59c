import PyProof.Rows.All
import Wide.All
import OpenK.AllK
import Wide.FinOn
import Lean
import PyProof.EqAt
import PyProof.EqKinds
import PyProof.TupleCall
import KE.KUnpack
import PySem.Challenge.RW_sackloads_k61_stows
open PySem renaming wpAny_bind→yaa,Shared→yab,starEach→yae,wpAny_pure→yaf,mainGlobals→yah,Program→yap,Around→yar,sizeLine→yas,wpAny_field→yaz,bootBuiltins→yaA,Env→yaG,compareOp→yaI,mem_of_lookup→yaL,wpAny_newObj_type→yaM,FuncData→yaN,backTo→yaO,IsPair→yaT,wpAny_mono→yaV,wpAny_holding→yaZ,binaryOp→ya3,wpAny_call_entry→ya6,wpAny_seqItems→ya8,wpAny_truthy_bool→ya9,foldedSetIterable→yba,wpAny_setField_rec→ybf,assignEach→ybj,wpAny_loadPart'→ybk,codeAny→ybp,behindInMarks→ybs,sizeLine_eq→ybz,rawInt→ybA,call_meets→ybK,wpAny_binaryOp_repeat_ref→ybL,Builtin→ybM,builtinsNs→ybS,pyNext→ybT,wpAny_Call_Name_kw→ybW,typeIs_int→ybX,NameKind→ybZ,wpAny_setField→yb3,sysModules→yb4,sliceBounds→yb9,wpAny_execs_nil→ycd,letOwnedTupleGo→yce,wpAny_passesOwn→ycf,cellsFrom→ycj,wpAny_comprehension_free→ycl,wpAny_rule→ycq,IsRangeIter→ycz,codeAny_compStart_list→ycE,swapsWithSole→ycF,swappedStores→ycG,wpAny_onRaise→ycI,wpAny_attempt→ycJ,compEnvC→ycM,wpAny_isInstance→ycP,setFlight→ycV,IsPart→ycZ,codeAny_builtin→yc3,wpAny_updateSeq_pair→yc5,holding→ydb,recursionLimit→ydc,leaving→ydd,firstArgMember→ydf,isSubtype_stop→ydg,assign→ydh,noteFrame→ydk,wpAny_pyIter_tuple→ydl,wpAny_standAt→ydr,wpAny_newFunctionEnv_cells→ydu,codeAny_handlers_suite_as→ydG,BindsTo→ydJ,getItem→ydK,callerA→ydL,wpAny_eqBool_int→ydM,Result→ydN,codeAny_mono→ydO,noFill_tuple_add→ydP,wpAny_typeOf→ydQ,compPost→ydR,wpAny_pyIter_zip→ydT,swapsWith→yd2,Arguments→yd4,wpAny_updateSeq→yd8,wpAny_pyIter_rangeiter→yeb,wpAny_letGo→yef,wpAny_isTrue_Compare1→yei,wpAny_bindName→yej,codeAny_call_function→yem,wpAny_newTuple→yep,codeAny_handlers_test→yes,builtinLookup_eq_fast→yeu,bindName→yey,codeAny_call_builtin→yeC,wpAny_newFunctionEnv→yeD,unbindBehindTheSuite→yeE,assignInOrder→yeG,seq_tuple_add→yeH,eval_ListComp→yeI,wpAny_isSubtype_exc→yeN,wpAny_handleBy_cons→yeO,wpAny_Constant_int→yeT,pyIter→yeV,wpAny_pyIter_range→yeW,concat_meets→ye2,seqIndex_neg→ye4,Fin→ye8,intKind→yfe,Keyword→yff,wpAny_sequenceKey→yfl,wpAny_pyIter_list→yfm,sizeLine_eq→yfo,wpAny_loadPart_at→yfp,seqIndex_of→yfr,excClassObj→yft,GenState→yfu,ReadsAll→yfv,wpAny_Name→yfw,typeLookup→yfy,call→yfz
open PySem.Heap renaming lt_size→yac,SameBut→ybi,size_push→yby,size_update→ycR,MadeExcOf→yer
open PySem.Value renaming ref→yad,none→yau,type→yaR,bool→yaY,int→yci,builtin→ycH
open List renaming replicate→yag,mem_cons→yao,lookup_cons→yay,length_replicate→yaK,append_nil→ya4,zip_cons_cons→ya5,range→ybd,length_singleton→ybe,set_cons_zero→ybg,length_zip→ybo,flatten_cons→ybr,all_cons→ybt,filterMap_cons→ybv,length_take→ybx,of_mem_zip→ybD,nil_append→ybF,drop_of_length_le→yb0,forIn_cons→ych,forIn_nil→ycs,reverse_cons→ycv,take_of_length_le→ycD,length_drop→ycK,mem_iff_getElem?→ycU,mem_append_left→ycW,mem_of_getElem?→ycY,map_nil→yc0,set_cons_succ→ydp,append_assoc→ydB,length_range→ydF,map_append→yea,lookup→yed,drop_eq_nil_of_le→yeh,singleton_append→yex,foldl→yeB,all_map→yfb,take_sublist→yfk
open PySem.W renaming Frag→yai,keepIn→yam,nsIn→yan,fnOf→yav,codeIn→yaw,mg_of→yax,mg_none_of→yaE,kia_one→yaQ,findIn→ybw,cellsFrom_some→ycB,methodObj→ydz,kitx_list→ydA,kat_cons→ydW,instObj→yd1,OpenLaw→yd5,kat_yes→yd7,lookIn→yek,kitOne→yel,CodeHd→yen,tabObj→yeo,kat_no→yet,kitx_tuple→yeX,callWith_K→yeZ,codeRec_of→ye0,specialIn→yfh,kitx_dict→yfi
open Bool renaming and_eq_true→yaj,false_ne_true→yal,false_eq_true→yaU,true_and→ybu,and_self→ybH,eq_iff_iff→ybU,false_and→yb1,or_eq_true→yc2,not_eq_true'→ydE,true_or→ydY,or_true→ye6
open Nat renaming le_refl→yak,ne_of_lt→yaq,lt_of_lt_of_le→yat,le_trans→yaJ,zero_le→yaP,lt_irrefl→ybc,le_of_lt→ybN,le_add_right→ybR,le_of_not_lt→yb5,zero_add→ycp,lt_succ_of_lt→ycy,ne_of_gt→ycX,min_eq_left→yc6,min_eq_right→ydS,not_lt_zero→yd6,le_succ→yeg,mul_le_mul_right→yeF,reduceAdd→yeL,mul_comm→ye5,lt_of_le_of_lt→yfa
open PySem.Builtin.SmallTypes renaming nextOf→yaB,ownedTupleIsFree→yaD,ownedTupleHandOut→ycm
open PySem.NameKind renaming free→yaC,cell→ya1
open Option.some renaming inj→yaF
open PySem.Obj renaming mapSeq→yaH,data_mapFields→ybC,isFreed_of_fields→ycT,mapFields→yeJ,cls_mapFields→yfn
open False renaming elim→yaS
open PySem.PyData renaming hasDictAll→yaW,showableAll→ybY,eqv→yb6,canLay0→ycr,showable→yc4,canLayAll0→ydC,leavesShortAll→yev,hasDict→yew,leavesShort→yfc,shown→yfd
open PyProof.Rows renaming callWith_type1→yaX,envOfC→ya0,slot_tuple_getitem→ybh,IntsAre→ybE,kindOf→yb2,tuples'→yb7,AllBare→yb8,seqObj→ycn,assignInOrder_cons→ydi,subscriptTail_builtinR→yec,boot_zip→yeq,listUpdate_at→yeK,entry_tuple_getitem→yeM,keyLt'→yeP,args_tuple_getitem→ye3,assignInOrder_nil→yfg
open Ne renaming symm→ya2
open Or renaming inr→ya7,inl→ybI
open PySem.Str renaming ofString→ybb
open PySem.F renaming slot_int_rmul→ybl,slot_zip_next→ybn,slot_tuple_iterator_next→ybG,plain_extend_loop→ycc,args_tuple_add_2→yck,entry_tuple_add→yct,args_int_rmul_2→ycw,args_zip_next_1→ycx,slot_tuple_add→ycC,entry_int_rmul→ycL,entry_zip_next→ycO,slot_range_iterator_next→ycQ,typeOf_object_class→ycS,fills_int_mul→yc1,args_tuple_iterator_next_1→yde,entry_tuple_iterator_next→ydm,args_tuple_mul_2→ydn,entry_tuple_mul→ydD,slot_tuple_mul→ydV,entry_extend_loop→yeQ
open ForInStep renaming yield→ybm
open Int renaming toNat_natCast→ybq,emod_lt_of_pos→yco,eq_ofNat_of_zero_le→ycu,emod_nonneg→yc8,fdiv_eq_ediv_of_nonneg→yds,fmod_eq_emod_of_nonneg→ydt,mul_one→yfq
open LawfulBEq renaming eq_of_beq→ybB
open PySem.Builtin.Slice renaming slicePlaces→ybJ,sliceAdjust→ycg,sliceApplied→ydv
open PySem.AutoSeq1 renaming sub_tuple_tuple→ybO,idx_int→ydU
open PySem.Builtin.Tuple renaming tupleExact→ybP,tupleItemsOf→ydw,tupleIsExact→ydy
open PySem.Builtin.List renaming listTooLong→ybQ,listExtendWith→ydo,listSameRef→ydX,listUpdate→yd0
open True renaming intro→ybV
open Array renaming length_toList→yca,forIn_toList→ye9
open PySem.Heap.SameBut renaming update→ycb
open PySem.Data renaming fields→ycA,seq→ycN,cell→yd3
open PySem.Around renaming under_plainId→yc7,frames_deeper→yez
open PySem.PassesOwn renaming never→yc9
open PySem.EntryCells renaming newEntry→yda
open PyProof.Rows.IsTup renaming new→ydj
open PySem.Calls renaming Name_function_global→ydq,evalArgs_plain→yeA,Constant_str→yeU,spliced_cons→yeY,spliced_nil→yfj
open PySem.Value.ref renaming inj→ydx
open Sum renaming inl→ydH,inr→ydI
open PySem.Builtin.Range renaming rangeSize→ydZ
open Option renaming map_some→yd9,isSome_some→ye7
open PySem.SeqAt renaming compareEq_shaped→yee,EqAt→yfx
open PySem.SeqAt.EqAt renaming int_str→yeR,str_int→yeS,int_int→ye1
def PySem.W.Fast.tw2462922229191341828 : Nat := 0
def PySem.W.Fast.tw14041104730169744680 : Nat := 0
def PySem.W.Fast.tw5798151817961155320 : Nat := 0
def PySem.W.Fast.tw3535847517951012713 : Nat := 0
def PySem.W.Fast.tw1558340197250246527 : Nat := 0
def PySem.W.Fast.tw16389718098742206643 : Nat := 0
def PySem.W.Fast.tw5953258066374654162 : Nat := 0
set_option linter.all false
set_option Elab.async false
set_option maxRecDepth 100000
open List renaming mem_cons_of_mem → mM, mem_cons_self → mS_, getElem?_eq_getElem → gG, length_cons → lC_, length_map → lM_, length_append → lA_, getElem?_map → gM_, map_cons → mC_, mem_append → mA_, length_nil → lN_, size_toArray → sT_, mem_range → mR_, mem_map → mP_, replicate_succ → rS_, length_set → lS_, not_mem_nil → nN_, getElem?_eq_some_iff → gI_, mem_singleton → ms_, mem_append_right → mr_, filter_cons → ft_
namespace L2
open PySem PySem.Spec PyProof.Rows
abbrev Key:=Sum Int Str
def qcN:Key->Value->Bool
 |.inl k,v=>Value.isInt k v
 |.inr x,v=>Value.isStrOf x v
def qmn (w:World):Key->Int
 |.inl k=>hashInt k
 |.inr x=>hashStr w x
theorem qQ:∀{k:Key}{v:Value},qcN k v=true->(∃i t,k=ydH i/\v=yci i t)\/(∃x t,k=ydI x/\v=Value.str x t)
 |.inl i,v,h=>by
  obtain⟨t,e⟩:=Value.isInt_shape (k:=i) (v:=v) h
  exact .inl ⟨i,t,rfl,e⟩
 |.inr x,v,h=>by
  obtain⟨t,e⟩:=Value.isStrOf_shape (x:=x) (v:=v) h
  exact .inr ⟨x,t,rfl,e⟩
theorem qdv(x:Str)(t:Tok):qcN (.inr x) (.str x t)=true:=by simp[qcN,Value.isStrOf]
theorem qix (a b:Int):decide ((ydH a:Key)=ydH b)=(a==b):=by
 by_cases e:a=b
 ·subst e;simp
 ·have h:¬(ydH a:Key)=ydH b:=λq=>e (Sum.inl.inj q)
  rw[decide_eq_false h]
  exact(beq_eq_false_iff_ne.mpr e).symm
theorem qiy (a b:Str):decide ((ydI a:Key)=ydI b)=decide (a=b):=by
 by_cases e:a=b
 ·subst e;simp
 ·have h:¬(ydI a:Key)=ydI b:=λq=>e (Sum.inr.inj q)
  rw[decide_eq_false h,decide_eq_false e]
theorem qiz(a:Int)(b:Str):decide ((ydH a:Key)=ydI b)=false:=decide_eq_false (λq=>nomatch q)
theorem qiA(a:Str)(b:Int):decide ((ydI a:Key)=ydH b)=false:=decide_eq_false (λq=>nomatch q)
def vM (prog:yap) (w:World):PySem.KeyKind prog w Key where
 is:=qcN
 hash:=qmn w
 inj:=λv a b ha hb=>by
  rcases qQ ha with⟨i,t,rfl,rfl⟩|⟨x,t,rfl,rfl⟩
  ·rcases qQ hb with⟨j,u,rfl,e⟩|⟨y,u,rfl,e⟩
   ·injection e with e1 _;rw[e1]
   ·exact nomatch e
  ·rcases qQ hb with⟨j,u,rfl,e⟩|⟨y,u,rfl,e⟩
   ·exact nomatch e
   ·injection e with e1 _;rw[e1]
 byValue:=λk v h=>by
  rcases qQ h with⟨i,t,rfl,rfl⟩|⟨x,t,rfl,rfl⟩<;>rfl
 pyHash:=λhv h=>by
  rcases qQ hv with⟨i,t,rfl,rfl⟩|⟨x,t,rfl,rfl⟩
  ·exact wpAny_pyHash_int h
  ·exact wpAny_pyHash_str h
 eqBool:=λhu hv h=>by
  rcases qQ hu with⟨i,t,rfl,rfl⟩|⟨x,t,rfl,rfl⟩
  ·rcases qQ hv with⟨j,u,rfl,rfl⟩|⟨y,u,rfl,rfl⟩
   ·rw[qix]at h;exact ydM h
   ·rw[qiz]at h;exact yeR i t y u _ _ _ _ h
  ·rcases qQ hv with⟨j,u,rfl,rfl⟩|⟨y,u,rfl,rfl⟩
   ·rw[qiA]at h;exact yeS x t j u _ _ _ _ h
   ·rw[qiy]at h;exact wpAny_eqBool_str h
 «strs»:=λk x t v h=>by
  rcases qQ h with⟨i,u,rfl,e⟩|⟨y,u,rfl,e⟩
  ·exact nomatch e
  ·injection e with e1 _
   subst e1
   cases v<;>rfl
end L2
namespace L2
open PySem PySem.Spec PyProof.Rows
inductive V where
 |non|bl (b:Bool)|int (i:Int)|str (x:Str)|byt (b:Array UInt8)|flt (b:UInt64)|ref (a:Addr)|ty (n:String)
 deriving DecidableEq
def zU:V->Value->Prop
 |.non,u=>u=yau
 |.bl b,u=>u=yaY b
 |.int i,u=>∃t,u=yci i t
 |.str x,u=>∃t,u=Value.str x t
 |.byt b,u=>∃t,u=Value.bytes b t
 |.flt b,u=>∃t,u=Value.float b t
 |.ref a,u=>u=yad a
 |.ty n,u=>u=yaR n
abbrev qK:List V->List Value->Prop:=Paired zU
theorem qK.length{xs:List V}{us:List Value}(r:qK xs us):xs.length=us.length:=Paired.length r
theorem qK.get:∀{xs:List V}{us:List Value}{i:Nat}{x:V},qK xs us->xs[i]? = some x->∃u,us[i]? = some u/\zU x u
 |_,_,_,_,.nil,e=>by simp at e
 |_,_,0,_,.cons r _,e=>by simp at e;subst e;exact⟨_,rfl,r⟩
 |_,_,i+1,x,.cons _ t,e=>by
  obtain⟨u,h1,h2⟩:=qK.get (i:=i) (x:=x) t (by simpa using e)
  exact⟨u,by simpa using h1,h2⟩
theorem qK.set {x:V} {u:Value} (r:zU x u):∀{xs:List V}{us:List Value}(i:Nat),qK xs us->qK (xs.set i x) (us.set i u)
 |_,_,_,.nil => .nil
 |_,_,0,.cons _ t => .cons r t
 |_,_,i+1,.cons q t => .cons q (qK.set r i t)
theorem qK.append:∀{xs ys:List V}{us ws:List Value},qK xs us->qK ys ws->qK (xs++ys) (us++ws)
 |_,_,_,_,.nil,s=>s
 |_,_,_,_,.cons r t,s => .cons r (qK.append t s)
theorem qK.take:∀{xs:List V}{us:List Value}(n:Nat),qK xs us->qK (xs.take n) (us.take n)
 |_,_,0,_ => .nil
 |_,_,_+1,.nil => .nil
 |_,_,n+1,.cons r t => .cons r (qK.take n t)
theorem qK.drop:∀{xs:List V}{us:List Value}(n:Nat),qK xs us->qK (xs.drop n) (us.drop n)
 |_,_,0,r=>r
 |_,_,_+1,.nil => .nil
 |_,_,n+1,.cons _ t=>qK.drop n t
def qkP:Option V->Option Value->Prop
 |some v,some u=>zU v u
 |none,none=>True
 |_,_=>False
def KV{κ:Type}:List (κ×V)->List (κ×Value)->Prop:=Paired λ(p:κ×V) (q:κ×Value)=>p.1=q.1/\zU p.2 q.2
def kV:Key->V
 |.inl i => .int i
 |.inr x => .str x
inductive HO where
 /-- a list -/
 |lst (xs:List V)
 /-- a tuple (never changes) -/
 |tup (xs:List V)
 /-- a dict whose keys are ints and texts;one whose keys are tuples of ints and texts (the empty one is both) -/
 |dK (kvs:List (Key×V))|dT (kvs:List (List Key×V))
 /-- a set of ints: its members,its size -/
 |set (S:Int->Bool) (n:Nat)
 /-- an instance of the class at C,its dict at dx,its attributes -/
 |ins (C dx:Addr) (fs:List (Str×V))
 /-- the dict of the instance at x -/
 |own (x:Addr)
 /-- the dict of an exception -/
 |xd (fs:List (Str×V))
 /-- a bound method,f of x -/
 |met (f x:Addr)
 /-- a range object lo,lo+1,.. below hi -/
 |rng (lo hi:Int)
 /-- a thing that is known to the object (the script;a dict while a loop walks it): read,never written while it is so -/
 |frz (o:Obj) (u:HO)
 /-- a code object's table -/
 |tbl (ps:Array Value)
 /-- any other thing,by what is true of its one object (a def of one's own: SetO a S n:=HO.ext λh => ..) -/
 |ext (φ:Heap->Prop)
 /-- the table of a code object in which at most one lambda's code stands -/
 |lam (pos:Pos) (q:Str)
abbrev Hp:=Addr->Option HO
def upd(H:Hp)(a:Addr)(o:HO):Hp:=λb=>if b=a then some o else H b
theorem qi{H:Hp}{a:Addr}{o:HO}:upd H a o a=some o:=by unfold upd;rw[if_pos rfl]
theorem qm{H:Hp}{a b:Addr}{o:HO}(h:b≠a):upd H a o b=H b:=by unfold upd;rw[if_neg h]
theorem ux {H:Hp} {a b:Addr} {o u:HO} (h:H a=some o) (h':H b=some u) (d:o≠u):a≠b:=by
 intro e;subst e;rw[h]at h';exact d (yaF h')
theorem qA {H:Hp} {a b:Addr} {o:HO} (h:H a=some o) (h':H b=none):a≠b:=by
 intro e;subst e;rw[h]at h';cases h'
section
variable(P:yap)(w:World)
def jx (H:Hp) (h:Heap) (a:Addr):HO->Prop
 |.lst xs=>xs.length<=yas/\∃(its:List Value)(n:Nat),qK xs its/\h.get? a=some {cls:=.type "list",data:=.seq its.toArray n}
 |.tup xs=>xs.length<=yas/\∃its:List Value,qK xs its/\IsTup h a its.toArray
 |.dK kvs=>kvs.length<=yas/\(a==yb4)=false/\∃vs,KV kvs vs/\h.DictOf (vM P w) a vs
 | .dT kvs=>kvs.length<=yas/\(a==yb4)=false/\∃xs:List (List Key×Addr×Value),
   Paired (λ(p:List Key×V) (q:List Key×Addr×Value)=>p.1=q.1/\H q.2.1=some (.tup (p.1.map kV))/\zU p.2 q.2.2) kvs xs /\
   ∃o es ep,h.get? a=some o/\o.ExactDict/\o.data=.dict es ep/\es.toList=xs.map (entryOfKey (tupleKind (vM P w)))/\(xs.map (·.1)).Nodup
 |.set S n=>h.SetOf (yfe P w) a S n
 | .ins C dx fs=>H dx=some (.own a)/\fs.length<=1000/\dx≠a/\h.get? a=some (yd1 C dx) /\
   ∃mA,h.Ns1 dx mA/\(∀f,qkP (fs.lookup f) (mA f))/\PySem.Within mA (fs.map (·.1))
 |.own _=>∃o,h.get? a=some o
 |.xd fs=>∃mA,h.Ns1 a mA/\∀f,qkP (fs.lookup f) (mA f)
 |.rng lo hi=>∃t u v,h.get? a=some {cls:=.type "range",data:=.fields #[.int lo t,.int hi u,.int 1 v]}
 |.frz o u=>h.get? a=some o/\jx H h a u
 |.tbl ps=>h.get? a=some {cls:=.none,data:=.fields ps}
 |.met f x=>h.get? a=some (ydz (.ref f) (.ref x))
 | .lam pos q=>h.get? a=some {cls:=.none,data:=.fields #[]}\/∃(c:Addr)(oc:Obj)(vs:Array Value)(t:Tok),H c=some (.frz oc (.own c))/\oc.data=.fields vs/\vs[1]? = some (.str q t) /\
   h.get? a=some {cls:=.none,data:=.fields #[ybA pos.line,ybA pos.col,.ref c]}
 |.ext φ=>φ h/\(∃o,h.get? a=some o)/\∀h1 h2:Heap,φ h1->(∀o,h1.get? a=some o->h2.get? a=some o)->φ h2
def HOk(H:Hp)(h:Heap):Prop:=∀a o,H a=some o->jx P w H h a o
end
section
variable{P:yap}{w:World}{H H':Hp}{h h':Heap}{a:Addr}{o:HO}
theorem jx.lt (x:jx P w H h a o):a<h.objs.size:=by
 cases o with
 |lst xs=>obtain⟨_,_,_,_,e⟩:=x;exact yac e
 |tup xs=>obtain⟨_,_,_,p⟩:=x;exact p.lt
 |dK kvs=>obtain⟨_,_,_,_,o,_,_,e,_⟩:=x;exact yac e
 |dT kvs=>obtain⟨_,_,_,_,o,_,_,e,_⟩:=x;exact yac e
 |set S n=>obtain⟨o,_,_,_,e,_⟩:=x;exact yac e
 |ins C dx fs=>obtain⟨_,_,_,e,_⟩:=x;exact yac e
 |own y=>obtain⟨_,e⟩:=x;exact yac e
 |xd fs=>obtain⟨_,⟨_,_,_,e,_⟩,_⟩:=x;exact yac e
 |rng lo hi=>obtain⟨_,_,_,e⟩:=x;exact yac e
 |frz ob u=>obtain⟨e,_⟩:=x;exact yac e
 |tbl ps=>exact yac (show h.get? a=some _ from x)
 |met f y=>exact yac (show h.get? a=some _ from x)
 |ext φ=>obtain⟨_,⟨_,e⟩,_⟩:=x;exact yac e
 |lam pos q=>
  rcases x with e|⟨_,_,_,_,_,_,_,e⟩
  ·exact yac e
  ·exact yac e
theorem Paired.mapP {α β:Type} {F G:α->β->Prop}:∀{lK:List α}{lQ:List β},Paired F lK lQ->(∀a b,F a b->G a b)->Paired G lK lQ
 |_,_,.nil,_ => .nil
 |_,_,.cons r t,f => .cons (f _ _ r) (Paired.mapP t f)
theorem jx.stay (x:jx P w H h a o) (k:∀b u,(b=a\/H b=some (.own a))->h.get? b=some u->h'.get? b=some u)
  (ho:∀b,H b=some (.own a)->H' b=some (.own a)) (ht:∀b xs,H b=some (.tup xs)->H' b=some (.tup xs)) (hz:∀b ob u,H b=some (.frz ob u)->H' b=some (.frz ob u):=by exact λ_ _ _ q=>q):jx P w H' h' a o:=by
 induction o with
 |lst xs=>obtain⟨z,its,n,r,e⟩:=x;exact⟨z,its,n,r,k _ _ (.inl rfl) e⟩
 |tup xs=>obtain⟨z,its,r,ob,e,c⟩:=x;exact⟨z,its,r,ob,k _ _ (.inl rfl) e,c⟩
 |dK kvs=>obtain⟨z,y,vs,r,ob,es,ep,e,c⟩:=x;exact⟨z,y,vs,r,ob,es,ep,k _ _ (.inl rfl) e,c⟩
 |dT kvs=>
  obtain⟨z,y,xs,r,ob,es,ep,e,c⟩:=x
  exact⟨z,y,xs,Paired.mapP r λp q z=>⟨z.1,ht _ _ z.2.1,z.2.2⟩,ob,es,ep,k _ _ (.inl rfl) e,c⟩
 |set S n=>obtain⟨ob,es,ep,t,e,c⟩:=x;exact⟨ob,es,ep,t,k _ _ (.inl rfl) e,c⟩
 |ins C dx fs=>
  obtain⟨d,z,ne,e,mA,⟨od,es,ep,e2,c⟩,r⟩:=x
  exact⟨ho _ d,z,ne,k _ _ (.inl rfl) e,mA,⟨od,es,ep,k _ _ (.inr d) e2,c⟩,r⟩
 |own y=>obtain⟨ob,e⟩:=x;exact⟨ob,k _ _ (.inl rfl) e⟩
 |xd fs=>obtain⟨mA,⟨od,es,ep,e,c⟩,r⟩:=x;exact⟨mA,⟨od,es,ep,k _ _ (.inl rfl) e,c⟩,r⟩
 |rng lo hi=>obtain⟨t,u,v,e⟩:=x;exact⟨t,u,v,k _ _ (.inl rfl) e⟩
 |frz ob u ih=>obtain⟨e,q⟩:=x;exact⟨k _ _ (.inl rfl) e,ih q⟩
 |tbl ps=>
  have e:h.get? a=some {cls:=.none,data:=.fields ps}:=x
  show h'.get? a=some {cls:=.none,data:=.fields ps}
  exact k a _ (.inl rfl) e
 |met f y=>
  have e:h.get? a=some (ydz (.ref f) (.ref y)):=x
  show h'.get? a=some (ydz (.ref f) (.ref y))
  exact k a _ (.inl rfl) e
 |ext φ=>obtain⟨p,⟨o,e⟩,st⟩:=x;exact⟨st _ _ p λo q=>k _ _ (.inl rfl) q,⟨o,k _ _ (.inl rfl) e⟩,st⟩
 |lam pos q=>
  rcases x with e|⟨c,oc,vs,t,h1,h2,h3,e⟩
  ·exact .inl (k _ _ (.inl rfl) e)
  ·exact .inr ⟨c,oc,vs,t,hz _ _ _ h1,h2,h3,k _ _ (.inl rfl) e⟩
theorem HOk.lt(x:HOk P w H h)(e:H a=some o):a<h.objs.size:=(x a o e).lt
theorem HOk.fresh (x:HOk P w H h) (e:h.objs.size<=a):H a=none:=by
 cases q:H a with
 |none=>rfl
 |some u=>exact absurd (yat (x.lt q) e) (ybc _)
theorem HOk.kept (x:HOk P w H h) (k:∀b u,h.get? b=some u->h'.get? b=some u):HOk P w H h':=λa o e=>
 (x a o e).stay (λb u _ q=>k b u q) (λ_ q=>q) λ_ _ q=>q
theorem HOk.laid (x:HOk P w H h) (k:∀b u,h.get? b=some u->h'.get? b=some u) (hp:h.objs.size<=a) (new:jx P w (upd H a o) h' a o):HOk P w (upd H a o) h':=λb u e=>by
 have hn:=x.fresh hp
 by_cases hb:b=a
 ·subst hb;rw[qi]at e;cases e;exact new
 ·rw[qm hb]at e
  exact(x b u e).stay (λc v _ q=>k c v q) (λc q=>by rw[qm (qA q hn)];exact q) (λc xs q=>by rw[qm (qA q hn)];exact q) λc ob z q=>by rw[qm (qA q hn)];exact q
end
def Rd(H:Hp)(a:Addr)(u:HO):Prop:=H a=some u\/∃o,H a=some (.frz o u)
theorem Rd.ok {P:yap} {w:World} {H:Hp} {h:Heap} {a:Addr} {u:HO} (r:Rd H a u) (x:HOk P w H h):jx P w H h a u:=by
 rcases r with r|⟨o,r⟩
 ·exact x a u r
 ·obtain⟨_,q⟩:=x a _ r
  exact q
def Mut:Option HO->Prop
 |some (.lst _)=>True
 |some (.dK _)=>True
 |some (.dT _)=>True
 |some (.set _ _)=>True
 |some (.ins _ _ _)=>True
 |some (.ext _)=>True
 |_=>False
section
variable{P:yap}{w:World}{H:Hp}{h h':Heap}{x e:Addr}{o':HO}
theorem HOk.write (ok:HOk P w H h) (mu:Mut (H x)) (he:e=x\/H e=some (.own x)) (k:∀b u,b≠e->h.get? b=some u->h'.get? b=some u) (heo:∃u,h'.get? e=some u)
  (new:jx P w (upd H x o') h' x o'):HOk P w (upd H x o') h':=λb u q=>by
 have nown:∀c y,H c=some (.own y)->c≠x:=λc y r z=>by subst z;rw[r]at mu;exact mu
 have ntup:∀c xs,H c=some (.tup xs)->c≠x:=λc xs r z=>by subst z;rw[r]at mu;exact mu
 have nfrz:∀c ob y,H c=some (.frz ob y)->c≠x:=λc ob y r z=>by subst z;rw[r]at mu;exact mu
 by_cases hb:b=x
 ·subst hb;rw[qi]at q;cases q;exact new
 ·rw [qm hb]at q
  by_cases hbe:b=e
  ·have q':H b=some (.own x):=by
    rcases he with z|z
    ·exact absurd (hbe.trans z) hb
    ·rw[hbe];exact z
   rw[q]at q';cases q'
   obtain⟨v,hv⟩:=heo
   exact⟨v,by rw[hbe];exact hv⟩
  ·refine (ok b u q).stay (λc v hc r=>k c v ?_ r) (λc r=>by rw[qm (nown c b r)];exact r) (λc xs r=>by rw[qm (ntup c xs r)];exact r) λc ob z r=>by rw[qm (nfrz c ob z r)];exact r
   rcases hc with rfl|hc
   ·exact hbe
   ·rintro rfl
    rcases he with z|z
    ·exact nown c b hc z
    ·rw[hc]at z;cases z;exact hb rfl
end
structure Un (fs ex:List Addr) (H H':Hp) (h h':Heap):Prop where
 keep:∀b o,h.get? b=some o->H b=none->b ∉ fs->b ∉ ex->h'.get? b=some o
 slot:∀b o,h.get? b=some o->H b=none->b∈fs->b ∉ ex->∃sl,h'.get? b=some {o with slots:=sl}
 free:∀b o,h.get? b=some o->H b=none->b ∉ ex->H' b=none
 there:∀b o,h.get? b=some o->b ∉ ex->∃o',h'.get? b=some o'
 tups:∀b xs,H b=some (.tup xs)->H' b=some (.tup xs)
 frzs:∀b o u,H b=some (.frz o u)->H' b=some (.frz o u)
 tbls:∀b pos q,H b=some (.lam pos q)->H' b=some (.lam pos q)
section
variable{fs fs' ex ex':List Addr}{H H1 H2:Hp}{h h1 h2 h':Heap}{a x e:Addr}{o:HO}
theorem Un.any (u:Un fs ex H H1 h h1) {b:Addr} {ob:Obj} (q:h.get? b=some ob) (n:H b=none) (hx:b ∉ ex):∃sl,h1.get? b=some {ob with slots:=sl}:=by
 by_cases hb:b∈fs
 ·exact u.slot b ob q n hb hx
 ·exact⟨ob.slots,u.keep b ob q n hb hx⟩
theorem Un.trans (a:Un fs ex H H1 h h1) (b:Un fs ex H1 H2 h1 h2):Un fs ex H H2 h h2 where
 keep:=λc ob q n hc hx=>b.keep c ob (a.keep c ob q n hc hx) (a.free c ob q n hx) hc hx
 slot:=λc ob q n hc hx=>by
  obtain⟨sl,e1⟩:=a.slot c ob q n hc hx
  obtain⟨sl',e2⟩:=b.slot c _ e1 (a.free c ob q n hx) hc hx
  exact⟨sl',e2⟩
 free:=λc ob q n hx=>by
  obtain⟨o',e1⟩:=a.there c ob q hx
  exact b.free c o' e1 (a.free c ob q n hx) hx
 there:=λc ob q hx=>by
  obtain⟨o',e1⟩:=a.there c ob q hx
  exact b.there c o' e1 hx
 tups:=λc xs q=>b.tups c xs (a.tups c xs q)
 frzs:=λc ob xs q=>b.frzs c ob xs (a.frzs c ob xs q)
 tbls:=λc ps x q=>b.tbls c ps x (a.tbls c ps x q)
theorem Un.kept (k:∀b u,h.get? b=some u->h'.get? b=some u):Un fs ex H H h h' :=
 ⟨λb ob q _ _ _=>k b ob q,λb ob q _ _ _=>⟨ob.slots,k b ob q⟩,λ_ _ _ n _=>n,λb ob q _=>⟨ob,k b ob q⟩,λ_ _ q=>q,λ_ _ _ q=>q,λ_ _ _ q=>q⟩
theorem Un.refl:Un fs ex H H h h:=Un.kept λ_ _ q=>q
theorem Un.laid (k:∀b u,h.get? b=some u->h'.get? b=some u) (hp:h.objs.size<=a) (hn:H a=none):Un fs ex H (upd H a o) h h' where
 keep:=λb u q _ _ _=>k b u q
 slot:=λb u q _ _ _=>⟨u.slots,k b u q⟩
 free:=λb u q n _=>by rw[qm (yaq (yat (yac q) hp))];exact n
 there:=λb u q _=>⟨u,k b u q⟩
 tups:=λb xs q=>by rw[qm (qA q hn)];exact q
 frzs:=λb u xs q=>by rw[qm (qA q hn)];exact q
 tbls:=λb ps x q=>by rw[qm (qA q hn)];exact q
theorem Un.write (mu:Mut (H x)) (he:e=x\/H e=some (.own x)) (k:∀b u,b≠e->h.get? b=some u->h'.get? b=some u) (heo:∃u,h'.get? e=some u):Un fs ex H (upd H x o) h h':=by
 have hx:∀b,H b=none->b≠x:=λb n z=>by subst z;rw[n]at mu;exact mu
 have hb:∀b,H b=none->b≠e:=λb n z=>by
  subst z
  rcases he with r|r
  ·exact hx b n r
  ·rw[n]at r;cases r
 have hm:∀b u,H b=some u->¬Mut (some u)->b≠x:=λb u q nm z=>by subst z;rw[q]at mu;exact nm mu
 refine ⟨λb u q n _ _=>k b u (hb b n) q,λb u q n _ _=>⟨u.slots,k b u (hb b n) q⟩,λb u q n _=>by rw[qm (hx b n)];exact n,λb u q _=>?_,
  λb xs q=>by rw[qm (hm b _ q λz=>z)];exact q,λb u xs q=>by rw[qm (hm b _ q λz=>z)];exact q,λb ps x q=>by rw[qm (hm b _ q λz=>z)];exact q⟩
 by_cases hbe:b=e
 ·subst hbe;exact heo
 ·exact⟨u,k b u hbe q⟩
end
def trk(h:Heap)(H:Hp):List Addr:=(ybd h.objs.size).filter λa=>(H a).isSome
def qe5(h:Heap)(H:Hp):Heap:=PySem.W.hideAll h (trk h H)
theorem qdw(h:Heap)(H:Hp):(qe5 h H).objs.size=h.objs.size:=PySem.W.hideAll_size _ _
theorem qe6 {h:Heap} {H:Hp} {b:Addr} {o:Obj} (e:h.get? b=some o) (n:H b=none):(qe5 h H).get? b=some o :=
 PySem.W.hideAll_get _ e λhm=>by
  have q:(H b).isSome=true:=(List.mem_filter.mp hm).2
  rw[n]at q;simp at q
theorem qgU {h:Heap} {H:Hp} {b:Addr} {o:Obj} (e:(qe5 h H).get? b=some o):h.get? b=some o/\H b=none:=by
 have e':h.get? b=some o:=PySem.W.of_hideAll (trk h H) e
 refine⟨e',?_⟩
 cases q:H b with
 |none=>rfl
 |some x=>
  have hm:b∈trk h H:=List.mem_filter.mpr ⟨mR_.mpr (yac e'),by simp[q]⟩
  have z:(qe5 h H).get? b=none:=PySem.W.hideAll_none (trk h H) hm
  rw[z]at e;cases e
def qgV(g h:Heap)(L:Addr):List (Addr×Obj):=(ybd h.objs.size).filterMap λa=>if a=L\/(g.get? a).isSome=true then none else(h.get? a).map λo=>(a,o)
def wZ(g h:Heap)(L d:Addr):List (Addr×Obj):=(qgV g h L).filter λp=>decide (p.1≠d)
end L2
namespace L2
open PySem PySem.Spec PyProof.Rows
structure Mod (K:yai) (mg:Str->Option Value) (base:Heap):Prop where
 kin:K.In base
 glob:base.Ns yah mg
 blt:∃mb,base.Ns ybS mb/\∀x:Str,x≠"__name__"->mb x=yaA x
 nolimit:base.NoLimit
 bm:∃bm ob,mg "__builtins__"=some (.ref bm)/\bm≠ybS/\base.get? bm=some ob/\ob.cls=.type "module"/\ob.dict=some ybS/\ob.data=.plain
structure Cx where
 prog:yap
 w:World
 K:yai
 mg:Str->Option Value
 base:Heap
 A:yar
 N:List Str
 s₀:yab
 H₀:Hp
 env:Env
 outer:List Env
 stack:List Env
 ex:List Addr
 fn:Str->Bool
 calm:Bool
 pn:List (Addr×Obj)
 xe:Value->yab->Prop
def frs(l:List Env):List Addr:=l.filterMap (·.frame)
abbrev Cx.fs(X:Cx):List Addr:=frs X.outer
def Vis(sc:Scope)(x:Str):Prop:=sc.names.lookup x=some .local\/sc.names.lookup x=some .cell\/sc.names.lookup x=some .free
def Loc(sc:Scope)(x:Str):Prop:=sc.names.lookup x=some .local\/sc.names.lookup x=some .cell
def qmo (env:Env) (h:Heap) (m:Str->Option Value) (x:Str) (u:Value):Prop :=
 (env.kindOf x=some .local/\m x=some u)\/((env.kindOf x=some .cell\/env.kindOf x=some .free)/\∃c,env.cells.lookup x=some c/\h.IsCell c (some u))
structure Cx.Ok (X:Cx):Prop where
 mod:Mod X.K X.mg X.base
 kind:X.env.scope.kind=.function
 glob:X.env.globals=yah
 blt:X.env.builtins=ybS
 above:X.s₀.heap.objs.size<=X.env.locals
 inj:∀x y c,X.env.cells.lookup x=some c->X.env.cells.lookup y=some c->x=y
 has:∀x,(X.env.kindOf x=some .cell\/X.env.kindOf x=some .free)->∃c,X.env.cells.lookup x=some c
 cab:∀x c,X.fn x=true->X.env.cells.lookup x=some c->X.s₀.heap.objs.size<=c
 hd:X.calm=true->X.A.handled=none
 frames:X.A.frames=some X.stack
 stk:X.stack=X.outer\/(X.stack=X.env::X.outer/\X.env.frame=some X.env.locals)
 exf:∀b∈X.ex,b≠X.env.locals/\∀x c,X.env.cells.lookup x=some c->c≠b
 bs:∀b o,X.base.get? b=some o->X.s₀.heap.get? b=some o/\X.H₀ b=none
 bsz:X.base.objs.size<=X.s₀.heap.objs.size
 noex:∀b o,X.base.get? b=some o->b ∉ X.ex
 exfs:∀b∈X.ex,b ∉ X.fs
 funs:X.s₀.heap.FunFrames X.base X.outer
 frf:∀b∈X.fs,X.H₀ b=none
structure Inv (X:Cx) (pins:List (Addr×Obj)) (σ:List (Option V)) (H:Hp) (s:yab):Prop where
 ok:X.Ok
 os:s.os=X.s₀.os
 bare:yb8 s.gens
 base:Un X.fs X.ex X.H₀ H X.s₀.heap s.heap
 loc:∃m,s.heap.Ns X.env.locals m/\∀(i:Nat)(x:Str)(v:V),X.N[i]? = some x->σ[i]? = some (some v)->Vis X.env.scope x->∃u,zU v u/\qmo X.env s.heap m x u
 cell:∀x c,X.env.cells.lookup x=some c->∃v,s.heap.IsCell c v
 free:H X.env.locals=none
 freeC:∀x c,X.env.cells.lookup x=some c->H c=none
 pin:∀p∈X.pn++pins,s.heap.get? p.1=some p.2/\H p.1=none/\p.1≠X.env.locals/\p.1 ∉ X.fs/\∀v,p.2.data ≠ .cell v
 hok:HOk X.prog X.w H s.heap
 len:σ.length=X.N.length
section
variable{X:Cx}{pins:List (Addr×Obj)}{σ:List (Option V)}{H H':Hp}{s:yab}{h':Heap}
theorem Cx.Ok.nofr (ok:X.Ok) {b:Addr} {o:Obj} (e:X.base.get? b=some o):b ∉ X.fs:=λhb=>by
 have:=(ok.funs.mem hb).1
 rw[e]at this;cases this
theorem Inv.bs (I:Inv X pins σ H s):∀b o,X.base.get? b=some o->s.heap.get? b=some o/\H b=none:=λb o e=>
 ⟨I.base.keep b o (I.ok.bs b o e).1 (I.ok.bs b o e).2 (I.ok.nofr e) (I.ok.noex b o e),I.base.free b o (I.ok.bs b o e).1 (I.ok.bs b o e).2 (I.ok.noex b o e)⟩
theorem Inv.bk(I:Inv X pins σ H s):∀b o,X.base.get? b=some o->s.heap.get? b=some o:=λb o e=>(I.bs b o e).1
theorem Inv.mod(I:Inv X pins σ H s):Mod X.K X.mg X.base:=I.ok.mod
theorem Inv.kIn(I:Inv X pins σ H s):X.K.In s.heap:=I.ok.mod.kin.keeps I.bk
theorem Inv.lt(I:Inv X pins σ H s):X.env.locals<s.heap.objs.size:=let ⟨_,hn,_⟩:=I.loc;hn.lt
theorem Inv.sz(I:Inv X pins σ H s):X.s₀.heap.objs.size<=s.heap.objs.size:=yaJ I.ok.above (ybN I.lt)
theorem Inv.nofs (I:Inv X pins σ H s) {a:Addr} (h:s.heap.objs.size<=a):a ∉ X.fs:=λhb=>by
 obtain⟨_,o,ho,_⟩:=I.ok.funs.mem hb
 exact absurd (yat (yac ho) (yaJ I.sz h)) (ybc _)
theorem Inv.cne (I:Inv X pins σ H s):∀x c,X.env.cells.lookup x=some c->c≠X.env.locals:=λx c e z=>by
 obtain⟨v,o,ho,hd⟩:=I.cell x c e
 obtain⟨m,⟨o',es,ep,ho',hd',_⟩,_⟩:=I.loc
 rw[z,ho']at ho;cases ho;rw[hd']at hd;cases hd
theorem Inv.funs (I:Inv X pins σ H s):s.heap.FunFrames X.base X.outer:=by
 have all:∀(l:List Env),(∀b∈frs l,b∈X.fs)->X.s₀.heap.FunFrames X.base l->s.heap.FunFrames X.base l:=by
  intro l
  induction l with
  |nil=>intro _ _;trivial
  |cons env r ih=>
   intro hs hl
   obtain⟨hk,⟨L,o,hf,hn,ho,hd⟩,hr⟩:=hl
   have hL:L∈X.fs:=hs L (by unfold frs;rw[ybv,hf];exact mS_)
   obtain⟨sl,e⟩:=I.base.slot L o ho (I.ok.frf L hL) hL λz=>I.ok.exfs L z hL
   exact⟨hk,⟨L,_,hf,hn,e,hd⟩,ih (λb hb=>hs b (by unfold frs;rw[ybv,hf];exact mM _ hb)) hr⟩
 exact all X.outer (λ_ hb=>hb) I.ok.funs
theorem Inv.stack (I:Inv X pins σ H s):s.heap.FunFrames X.base X.stack:=by
 rcases I.ok.stk with e|⟨e,hf⟩
 ·rw[e];exact I.funs
 ·rw[e]
  obtain⟨m,hn,_⟩:=I.loc
  refine .cons (by rw[I.ok.kind];decide) hf hn ?_ I.funs
  exact Heap.get?_none_of_le (yaJ I.ok.bsz I.ok.above)
theorem Inv.stkSub (I:Inv X pins σ H s):∀b∈frs X.stack,b∈X.env.locals::X.fs:=λb hb=>by
 rcases I.ok.stk with e|⟨e,hf⟩
 ·rw[e]at hb;exact mM _ hb
 ·rw[e]at hb
  unfold frs at hb
  rw[ybv,hf]at hb
  exact hb
theorem Inv.stkFree (I:Inv X pins σ H s):∀b∈frs X.stack,H b=none:=λb hb=>by
 rcases List.mem_cons.mp (I.stkSub b hb)with e|hb
 ·rw[e];exact I.free
 ·obtain⟨_,o,ho,_⟩:=I.ok.funs.mem hb
  exact I.base.free b o ho (I.ok.frf b hb) λz=>I.ok.exfs b z hb
theorem Inv.step {g':Array yfu} {t':Nat} {d':Drawn} {ch:List Addr} (I:Inv X pins σ H s)
  (hch:∀b∈ch,(b∈X.ex\/X.s₀.heap.objs.size<=b)/\b≠X.env.locals/\(∀x c,X.env.cells.lookup x=some c->c≠b)/\∀p∈X.pn++pins,p.1≠b)
  (keep:∀b o,b≠X.env.locals->b ∉ X.fs->b ∉ ch->s.heap.get? b=some o->H b=none->h'.get? b=some o)
  (slot:∀b o,b≠X.env.locals->b∈X.fs->b ∉ ch->s.heap.get? b=some o->H b=none->∃sl,h'.get? b=some {o with slots:=sl}) (free:∀b o,b ∉ ch->s.heap.get? b=some o->H b=none->H' b=none)
  (there:∀b o,b ∉ ch->s.heap.get? b=some o->∃o',h'.get? b=some o')
  (tups:∀b xs,H b=some (.tup xs)->H' b=some (.tup xs)) (frzs:∀b o u,H b=some (.frz o u)->H' b=some (.frz o u)) (tbls:∀b pos q,H b=some (.lam pos q)->H' b=some (.lam pos q))
  (ns:∀m,s.heap.Ns X.env.locals m->h'.Ns X.env.locals m) (hok:HOk X.prog X.w H' h') (hg:yb8 g') :
  Inv X pins σ H' {s with heap:=h',gens:=g',drawn:=d',toks:=t' }:=by
 have neL:∀b o,X.s₀.heap.get? b=some o->b≠X.env.locals:=λb o e=>yaq (yat (yac e) I.ok.above)
 have neC:∀b o,X.s₀.heap.get? b=some o->b ∉ X.ex->b ∉ ch:=λb o e hx hb=>by
  rcases(hch b hb).1 with z|z
  ·exact hx z
  ·exact absurd (yat (yac e) z) (ybc _)
 have cellK:∀x c,X.env.cells.lookup x=some c->∀v,s.heap.IsCell c v->h'.IsCell c v:=λx c e v ⟨o,ho,hd⟩=>by
  have nch:c ∉ ch:=λz=>(hch c z).2.2.1 x c e rfl
  by_cases hc:c∈X.fs
  ·obtain⟨sl,q⟩:=slot c o (I.cne x c e) hc nch ho (I.freeC x c e)
   exact⟨_,q,hd⟩
  ·exact⟨o,keep c o (I.cne x c e) hc nch ho (I.freeC x c e),hd⟩
 refine⟨I.ok,I.os,hg,⟨λb o e n hb hx=>?_,λb o e n hb hx=>?_,λb o e n hx=>?_,λb o e hx=>?_,λb xs e=>tups b xs (I.base.tups b xs e),λb o xs e=>frzs b o xs (I.base.frzs b o xs e),λb ps x e=>tbls b ps x (I.base.tbls b ps x e)⟩,?_,λx c e=>?_,?_,λx c e=>?_,λp hp=>?_,hok,I.len⟩
 ·exact keep b o (neL b o e) hb (neC b o e hx) (I.base.keep b o e n hb hx) (I.base.free b o e n hx)
 ·obtain⟨sl,e1⟩:=I.base.slot b o e n hb hx
  obtain⟨sl',e2⟩:=slot b _ (neL b o e) hb (neC b o e hx) e1 (I.base.free b o e n hx)
  exact⟨sl',e2⟩
 ·obtain⟨o',e1⟩:=I.base.there b o e hx
  exact free b o' (neC b o e hx) e1 (I.base.free b o e n hx)
 ·obtain⟨o',e1⟩:=I.base.there b o e hx
  exact there b o' (neC b o e hx) e1
 ·obtain⟨m,hn,hl⟩:=I.loc
  refine⟨m,ns m hn,λi x v e1 e2 e3=>?_⟩
  obtain⟨u,r,l⟩:=hl i x v e1 e2 e3
  refine⟨u,r,?_⟩
  rcases l with l|⟨k,c,e,z⟩
  ·exact .inl l
  ·exact .inr ⟨k,c,e,cellK x c e _ z⟩
 ·obtain⟨v,z⟩:=I.cell x c e
  exact⟨v,cellK x c e v z⟩
 ·obtain⟨m,⟨o,_,_,ho,_⟩,_⟩:=I.loc
  exact free _ o (λz=>(hch _ z).2.1 rfl) ho I.free
 ·obtain⟨v,o,ho,hd⟩:=I.cell x c e
  exact free c o (λz=>(hch c z).2.2.1 x c e rfl) ho (I.freeC x c e)
 ·obtain⟨e,n,ne,nf,d⟩:=I.pin p hp
  have nch:p.1 ∉ ch:=λz=>(hch p.1 z).2.2.2 p hp rfl
  exact⟨keep p.1 p.2 ne nf nch e n,free p.1 p.2 nch e n,ne,nf,d⟩
theorem Inv.un {t':Nat} (I:Inv X pins σ H s) (u:Un X.fs [] H H' s.heap h') (hok:HOk X.prog X.w H' h'):Inv X pins σ H' {s with heap:=h',toks:=t' }:=by
 obtain⟨m,⟨o,es,ep,ho,r⟩,_⟩:=id I.loc
 obtain⟨sl,hL⟩:=u.any ho I.free (by simp)
 exact I.step (g':=s.gens) (d':=s.drawn) (ch:=[]) (λ_ z=>nomatch z) (λb o _ hb _ e n=>u.keep b o e n hb (by simp)) (λb o _ hb _ e n=>u.slot b o e n hb (by simp)) (λb o _ e n=>u.free b o e n (by simp)) (λb o _ e=>u.there b o e (by simp)) u.tups u.frzs u.tbls (λm' hm=>by
  obtain⟨o',es',ep',ho',r'⟩:=hm
  rw[ho]at ho';cases ho'
  exact⟨_,es',ep',hL,r'⟩) hok I.bare
theorem Inv.call {g':Array yfu} {t':Nat} {d':Drawn} {ch:List Addr} (I:Inv X pins σ H s) (u:Un (frs X.stack) ch H H' s.heap h') (hok:HOk X.prog X.w H' h') (hg:yb8 g')
  (hch:∀b∈ch,(b∈X.ex\/X.s₀.heap.objs.size<=b)/\b≠X.env.locals/\(∀x c,X.env.cells.lookup x=some c->c≠b)/\∀p∈X.pn++pins,p.1≠b) :
  Inv X pins σ H' {s with heap:=h',gens:=g',drawn:=d',toks:=t' }:=by
 obtain⟨m,⟨o,es,ep,ho,r⟩,_⟩:=id I.loc
 obtain⟨sl,hL⟩:=u.any ho I.free λz=>(hch _ z).2.1 rfl
 exact I.step (ch:=ch) hch (λb o hL hb hc e n=>u.keep b o e n (λz=>(List.mem_cons.mp (I.stkSub b z)).elim hL hb) hc) (λb o _ _ hc e n=>u.any e n hc) (λb o hc e n=>u.free b o e n hc) (λb o hc e=>u.there b o e hc) u.tups u.frzs u.tbls (λm' hm=>by
  obtain⟨o',es',ep',ho',r'⟩:=hm
  rw[ho]at ho';cases ho'
  exact⟨_,es',ep',hL,r'⟩) hok hg
theorem Inv.turned {t':Nat} {it:Addr} (I:Inv X pins σ H s) (k:∀b o,b≠it->s.heap.get? b=some o->h'.get? b=some o) (hn:H it=none) (hL:it≠X.env.locals)
  (h1:it∈X.ex\/X.s₀.heap.objs.size<=it) (h2:∀x c,X.env.cells.lookup x=some c->c≠it) (h3:∀p∈X.pn++pins,p.1≠it):Inv X pins σ H {s with heap:=h',toks:=t' }:=by
 have nit:∀b u,H b=some u->b≠it:=λb u e z=>by rw[z,hn]at e;cases e
 refine I.step (g':=s.gens) (d':=s.drawn) (ch:=[it]) (λb hb=>?_) (λb o _ _ hc e _=>k b o (λz=>hc (by simp[z])) e) (λb o _ _ hc e _=>⟨o.slots,k b o (λz=>hc (by simp[z])) e⟩) (λ_ _ _ _ n=>n)
  (λb o hc e=>⟨o,k b o (λz=>hc (by simp[z])) e⟩) (λ_ _ e=>e) (λ_ _ _ e=>e) (λ_ _ _ e=>e) (λm hm=>?_) (λb u e=>?_) I.bare
 ·have e:b=it:=by simpa using hb
  subst e
  exact⟨h1,hL,h2,h3⟩
 ·obtain⟨o,es,ep,ho,r⟩:=hm
  exact⟨o,es,ep,k _ o (ya2 hL) ho,r⟩
 ·refine(I.hok b u e).stay (λc v hc q=>k c v ?_ q) (λ_ q=>q) λ_ _ q=>q
  rcases hc with z|z
  ·rw[z];exact nit b u e
  ·exact nit c _ z
theorem Inv.tok(I:Inv X pins σ H s)(t:Nat):Inv X pins σ H {s with toks:=t}:=I.un (h':=s.heap) (t':=t) Un.refl I.hok
theorem Inv.kept{t':Nat}(I:Inv X pins σ H s)(k:∀b u,s.heap.get? b=some u->h'.get? b=some u):Inv X pins σ H {s with heap:=h',toks:=t' }:=I.un (Un.kept k) (I.hok.kept k)
theorem Inv.laid {a:Addr} {o:HO} {t':Nat} (I:Inv X pins σ H s) (k:∀b u,s.heap.get? b=some u->h'.get? b=some u) (hp:s.heap.objs.size<=a) (new:jx X.prog X.w (upd H a o) h' a o) :
  Inv X pins σ (upd H a o) {s with heap:=h',toks:=t' }:=I.un (Un.laid k hp (I.hok.fresh hp)) (I.hok.laid k hp new)
theorem Inv.write {x e:Addr} {o:HO} {t':Nat} (I:Inv X pins σ H s) (mu:Mut (H x)) (he:e=x\/H e=some (.own x)) (k:∀b u,b≠e->s.heap.get? b=some u->h'.get? b=some u) (heo:∃u,h'.get? e=some u)
  (new:jx X.prog X.w (upd H x o) h' x o):Inv X pins σ (upd H x o) {s with heap:=h',toks:=t' }:=I.un (Un.write mu he k heo) (I.hok.write mu he k heo new)
theorem Inv.pins_of {pins':List (Addr×Obj)} (I:Inv X pins σ H s) (h:∀p∈pins',s.heap.get? p.1=some p.2/\H p.1=none/\p.1≠X.env.locals/\p.1 ∉ X.fs/\∀v,p.2.data ≠ .cell v):Inv X pins' σ H s :=
 ⟨I.ok,I.os,I.bare,I.base,I.loc,I.cell,I.free,I.freeC,λp hp=>(mA_.mp hp).elim (λz=>I.pin p (ycW _ z)) (h p),I.hok,I.len⟩
theorem qb3 {N:List Str} (hN:N.Nodup) {i j:Nat} {x:Str} (a:N[i]? = some x) (b:N[j]? = some x):i=j:=by
 obtain⟨h1,e1⟩:=gI_.mp a
 obtain⟨h2,e2⟩:=gI_.mp b
 exact(List.getElem_inj hN).mp (e1.trans e2.symm)
theorem qdx {M:Model} {A:yar} {E:Value->yab->Prop} {i:Nat} {x:Str} {v:V} {u:Value} {Q:Unit->yab->Prop} (I:Inv X pins σ H s) (hN:X.N.Nodup) (hi:X.N[i]? = some x) (hx:Loc X.env.scope x) (r:zU v u)
  (h:∀s',Inv X pins (σ.set i (some v)) H s'->(∃a,ybi a s.heap s'.heap/\(a=X.env.locals\/X.env.cells.lookup x=some a))->Q () s') (hf:X.fn x=true\/X.env.scope.names.lookup x=some .local:=by first|exact .inl rfl|exact .inr rfl|assumption):wpAny M A (storeName X.env x u) Q E s:=by
 obtain⟨m,hn,hl⟩:=id I.loc
 have hcls:(X.env.scope.kind == .class||(X.env.scope.kind == .module&&X.env.locals != X.env.globals))=false:=by rw[I.ok.kind];rfl
 have hiσ:i<σ.length:=by rw[I.len];exact(gI_.mp hi).1
 have cne:=I.cne
 have tracked:∀{a:Addr}{h':Heap},(∃o,s.heap.get? a=some o/\H a=none)->ybi a s.heap h'->HOk X.prog X.w H h':=λ{a h'} ha hs b ob e=>by
  obtain⟨_,_,hfree⟩:=ha
  refine(I.hok b ob e).stay (λc w' hc q=>(hs.2 c ?_).trans q) (λ_ q=>q) λ_ _ q=>q
  rintro rfl
  rcases hc with rfl|hc
  ·rw[hfree]at e;cases e
  ·rw[hfree]at hc;cases hc
 rcases hx with hk|hk
 ·refine wpAny_storeName_local hk hn (λh' hn' hs=>?_) hcls
  obtain⟨oL,_,_,hoL,_⟩:=id hn
  refine h _ ⟨I.ok,I.os,I.bare,⟨λb o e n hb hx=>?_,λb o e n hb hx=>?_,I.base.free,λb o e hx=>?_,I.base.tups,I.base.frzs,I.base.tbls⟩,⟨_,hn',λj y v' e1 e2 e3=>?_⟩,λy c e=>?_,I.free,I.freeC,λp hp=>?_,tracked ⟨oL,hoL,I.free⟩ hs,by simpa using I.len⟩ ⟨_,hs,.inl rfl⟩
  ·exact(hs.2 b (yaq (yat (yac e) I.ok.above))).trans (I.base.keep b o e n hb hx)
  ·obtain⟨sl,e1⟩:=I.base.slot b o e n hb hx
   exact⟨sl,(hs.2 b (yaq (yat (yac e) I.ok.above))).trans e1⟩
  ·obtain⟨o',e1⟩:=I.base.there b o e hx
   exact⟨o',(hs.2 b (yaq (yat (yac e) I.ok.above))).trans e1⟩
  ·by_cases hj:j=i
   ·subst hj
    rw[hi]at e1;cases e1
    rw[List.getElem?_set_self hiσ]at e2
    cases e2
    exact⟨u,r,.inl ⟨hk,by simp⟩⟩
   ·rw [List.getElem?_set_ne (ya2 hj)]at e2
    obtain⟨u',r',q⟩:=hl j y v' e1 e2 e3
    refine⟨u',r',?_⟩
    rcases q with⟨k,e⟩|⟨k,c,e,z⟩
    ·refine .inl ⟨k,?_⟩
     have:y≠x:=λe=>hj (qb3 hN e1 (e▸hi))
     simp[this,e]
    ·exact .inr ⟨k,c,e,z.sameBut hs (cne y c e)⟩
  ·obtain⟨w',z⟩:=I.cell y c e
   exact⟨w',z.sameBut hs (cne y c e)⟩
  ·obtain⟨e,n,ne,nf,d⟩:=I.pin p hp
   exact⟨(hs.2 p.1 ne).trans e,n,ne,nf,d⟩
 ·have hfn:X.fn x=true:=by
   rcases hf with z|z
   ·exact z
   ·rw[z]at hk;cases hk
  obtain⟨c,hc⟩:=I.ok.has x (.inl hk)
  obtain⟨w',z⟩:=I.cell x c hc
  refine wpAny_storeName_cell I.ok.kind hk hc z (λh' hc' hs=>?_)
  obtain⟨oc,hoc,hocd⟩:=id z
  refine h {s with heap:=h' } ⟨I.ok,I.os,I.bare,⟨λb o e n hb hx=>?_,λb o e n hb hx=>?_,I.base.free,λb o e hx=>?_,I.base.tups,I.base.frzs,I.base.tbls⟩,⟨m,hn.sameBut hs (ya2 (cne x c hc)),λj y v' e1 e2 e3=>?_⟩,λy c' e=>?_,I.free,I.freeC,λp hp=>?_,tracked ⟨oc,hoc,I.freeC x c hc⟩ hs,by simpa using I.len⟩ ⟨c,hs,.inr hc⟩
  ·exact(hs.2 b (yaq (yat (yac e) (I.ok.cab x c hfn hc)))).trans (I.base.keep b o e n hb hx)
  ·obtain⟨sl,e1⟩:=I.base.slot b o e n hb hx
   exact⟨sl,(hs.2 b (yaq (yat (yac e) (I.ok.cab x c hfn hc)))).trans e1⟩
  ·obtain⟨o',e1⟩:=I.base.there b o e hx
   exact⟨o',(hs.2 b (yaq (yat (yac e) (I.ok.cab x c hfn hc)))).trans e1⟩
  ·by_cases hj:j=i
   ·subst hj
    rw[hi]at e1;cases e1
    rw[List.getElem?_set_self hiσ]at e2
    cases e2
    exact⟨u,r,.inr ⟨.inl hk,c,hc,hc'⟩⟩
   ·rw [List.getElem?_set_ne (ya2 hj)]at e2
    obtain⟨u',r',q⟩:=hl j y v' e1 e2 e3
    refine⟨u',r',?_⟩
    rcases q with q|⟨k,c',e,z'⟩
    ·exact .inl q
    ·refine .inr ⟨k,c',e,z'.sameBut hs ?_⟩
     rintro rfl
     exact hj (qb3 hN e1 (I.ok.inj _ _ _ e hc▸hi))
  ·by_cases hcc:c'=c
   ·subst hcc;exact⟨_,hc'⟩
   ·obtain⟨w2,z2⟩:=I.cell y c' e
    exact⟨w2,z2.sameBut hs hcc⟩
  ·obtain⟨e,n,ne,nf,d⟩:=I.pin p hp
   refine⟨(hs.2 p.1 ?_).trans e,n,ne,nf,d⟩
   intro q
   rw[q,hoc]at e
   have q':oc=p.2:=yaF e
   exact d w' (by rw[<-q'];exact hocd)
theorem ym {M:Model} {A:yar} {E:Value->yab->Prop} {i:Nat} {x:Str} {v:V} {u:Value} {Q:Unit->yab->Prop} (I:Inv X pins σ H s) (hN:X.N.Nodup) (hi:X.N[i]? = some x) (hx:Loc X.env.scope x) (r:zU v u)
  (h:∀s',Inv X pins (σ.set i (some v)) H s'->Q () s') (hf:X.fn x=true\/X.env.scope.names.lookup x=some .local:=by first|exact .inl rfl|exact .inr rfl|assumption):wpAny M A (storeName X.env x u) Q E s :=
 qdx I hN hi hx r (λs' I' _=>h s' I') hf
theorem Inv.call' {s':yab} {ch:List Addr} (I:Inv X pins σ H s) (ho:s'.os=s.os) (u:Un (frs X.stack) ch H H' s.heap s'.heap) (hok:HOk X.prog X.w H' s'.heap) (hg:yb8 s'.gens)
  (hch:∀b∈ch,(b∈X.ex\/X.s₀.heap.objs.size<=b)/\b≠X.env.locals/\(∀x c,X.env.cells.lookup x=some c->c≠b)/\∀p∈X.pn++pins,p.1≠b):Inv X pins σ H' s':=by
 obtain⟨h',g',d',t',o'⟩:=s'
 have e:o'=s.os:=ho
 subst e
 exact I.call (g':=g') (t':=t') (d':=d') u hok hg hch
end
abbrev XK:=Value->Option Addr->Hp->Prop
abbrev St:=List (Option V)
abbrev VK:=V->Hp->Prop
abbrev TE:=St->Hp->VK->Prop
abbrev TT:=St->Hp->(Bool->Hp->Prop)->Prop
abbrev TA:=St->Hp->(List V->Hp->Prop)->Prop
structure qdr where
 nx:St->Hp->Prop
 rt:VK
 bk:St->Hp->Prop:=λ_ _=>False
 ct:St->Hp->Prop:=λ_ _=>False
abbrev TS:=qdr->St->Hp->Prop
def EP(X:Cx)(pins:List (Addr×Obj))(σ:St)(Q:VK)(u:Value)(s':yab):Prop:=∃v H',Inv X pins σ H' s'/\zU v u/\Q v H'
def TP(X:Cx)(pins:List (Addr×Obj))(σ:St)(Q:Bool->Hp->Prop)(b:Bool)(s':yab):Prop:=∃H',Inv X pins σ H' s'/\Q b H'
def AP(X:Cx)(pins:List (Addr×Obj))(σ:St)(Q:List V->Hp->Prop)(us:List Value)(s':yab):Prop:=∃vs H',Inv X pins σ H' s'/\qK vs us/\Q vs H'
def SP (X:Cx) (pins:List (Addr×Obj)) (D:qdr) (f:Flow) (s':yab):Prop :=
 match f with
 |.next=>∃σ' H',Inv X pins σ' H' s'/\D.nx σ' H'
 |.brk=>∃σ' H',Inv X pins σ' H' s'/\D.bk σ' H'
 |.cont=>∃σ' H',Inv X pins σ' H' s'/\D.ct σ' H'
 |.ret u=>∃v σ' H',Inv X pins σ' H' s'/\zU v u/\D.rt v H'
def PE (X:Cx) (e:Expr) (t:TE):Prop :=
 ∀(pins:List (Addr×Obj))(s:yab)(σ:St)(H:Hp)(Q:VK),Inv X pins σ H s->t σ H Q->wpAny (model X.prog X.w) X.A (eval e X.env) (EP X pins σ Q) X.xe s
def PT (X:Cx) (e:Expr) (t:TT):Prop :=
 ∀(pins:List (Addr×Obj))(s:yab)(σ:St)(H:Hp)(Q:Bool->Hp->Prop),Inv X pins σ H s->t σ H Q->wpAny (model X.prog X.w) X.A (isTrue e X.env (eval e X.env)) (TP X pins σ Q) X.xe s
def PW (X:Cx) (e:Expr) (t:TT):Prop :=
 ∀(whole:Sem Value)(pins:List (Addr×Obj))(s:yab)(σ:St)(H:Hp)(Q:Bool->Hp->Prop),Inv X pins σ H s->t σ H Q->wpAny (model X.prog X.w) X.A (isTrue e X.env whole) (TP X pins σ Q) X.xe s
theorem PW.pt{X:Cx}{e:Expr}{t:TT}(h:PW X e t):PT X e t:=h _
def PA (X:Cx) (es:List Expr) (t:TA):Prop :=
 ∀(pos:Pos)(pins:List (Addr×Obj))(s:yab)(σ:St)(H:Hp)(Q:List V->Hp->Prop),Inv X pins σ H s->t σ H Q->wpAny (model X.prog X.w) X.A (spliced (yaO pos (yae es X.env))) (AP X pins σ Q) X.xe s
def PS (X:Cx) (st:Stmt) (t:TS):Prop :=
 ∀(pins:List (Addr×Obj))(s:yab)(σ:St)(H:Hp)(D:qdr),Inv X pins σ H s->t D σ H->wpAny (model X.prog X.w) X.A (exec st X.env) (SP X pins D) X.xe s
def PSs (X:Cx) (st:List Stmt) (t:TS):Prop :=
 ∀(pins:List (Addr×Obj))(s:yab)(σ:St)(H:Hp)(D:qdr),Inv X pins σ H s->t D σ H->wpAny (model X.prog X.w) X.A (execs st X.env) (SP X pins D) X.xe s
theorem thn{α:Type}{t:Sem α}{Q Q':α->yab->Prop}{M:Model}{A:yar}{E:Value->yab->Prop}{s:yab}(h:wpAny M A t Q E s)(hQ:∀a s,Q a s->Q' a s):wpAny M A t Q' E s:=yaV h hQ λ_ _ x=>x
end L2
namespace L2
open PySem PySem.Spec PyProof.Rows
section
variable{X:Cx}
theorem bin {a b:Expr} {ta tb:TE} (ha:PE X a ta) (hb:PE X b tb) {pins:List (Addr×Obj)} {s:yab} {σ:St} {H:Hp} {R:V->V->Hp->Prop} (I:Inv X pins σ H s) (h:ta σ H λx H1=>tb σ H1 λy H2=>R x y H2)
  {α:Type} {Q:α->yab->Prop} {f:Value->Value->Sem α}
  (hf:∀v u s2 x y H2,Inv X pins σ H2 s2->zU x v->zU y u->R x y H2->wpAny (model X.prog X.w) X.A (f v u) Q X.xe s2) :
  wpAny (model X.prog X.w) X.A (eval a X.env) (λv sJ=>wpAny (model X.prog X.w) X.A (eval b X.env) (λu sV=>wpAny (model X.prog X.w) X.A (f v u) Q X.xe sV) X.xe sJ) X.xe s:=by
 refine thn (ha pins s σ H _ I h) λv s1 ⟨x,H1,I1,r1,q1⟩=>?_
 refine thn (hb pins s1 σ H1 _ I1 q1) λu s2 ⟨y,H2,I2,r2,q2⟩=>?_
 exact hf v u s2 x y H2 I2 r1 r2 q2
def qmp(i:Nat):TE:=λσ H Q=>∃v,σ[i]? = some (some v)/\Q v H
def tC(v:V):TE:=λ_ H Q=>Q v H
theorem vN {i:Nat} {x:Str} {pos:Pos} (hN:X.N[i]? = some x) (hv:Vis X.env.scope x) (hd:(x==("__debug__":Str))=false:=by decide) (hcd:(x==("__classdict__":Str))=false:=by decide):PE X (.Name x pos) (qmp i):=by
 intro pins s σ H Q I h
 obtain⟨v,e,h⟩:=h
 obtain⟨m,hn,hl⟩:=I.loc
 obtain⟨u,r,l⟩:=hl i x v hN e hv
 have fin:EP X pins σ Q u s:=⟨v,H,I,r,h⟩
 rcases l with⟨hk,hm⟩|⟨hk,c,hc,hcell⟩
 ·exact yfw (wpAny_loadName_local I.ok.kind hk hn hm fin) hd
 ·rcases hk with hk|hk
  ·exact yfw (wpAny_loadName_cell I.ok.kind hk hc hcell fin) hd
  ·exact yfw (wpAny_loadName_free I.ok.kind hk hc hcell fin hcd) hd
theorem qiB{i j pos}:PE X (.Constant (.int i) j pos) (tC (.int i)):=λ_ _ _ H _ I h=>yeT ⟨.int i,H,I.tok _,⟨_,rfl⟩,h⟩
theorem qkQ{b j pos}:PE X (.Constant (.bool b) j pos) (tC (.bl b)):=λ_ _ _ H _ I h=>Constant_bool ⟨.bl b,H,I,rfl,h⟩
theorem qiC{j pos}:PE X (.Constant .none j pos) (tC .non):=λ_ _ _ H _ I h=>Constant_none ⟨.non,H,I,rfl,h⟩
theorem qiD{x j pos}:PE X (.Constant (.str x) j pos) (tC (.str x)):=λ_ _ _ H _ I h=>yeU ⟨.str x,H,I.tok _,⟨_,rfl⟩,h⟩
def Gl(X:Cx)(x:Str):Prop:=X.env.kindOf x=some .globalImplicit
theorem vO {E:Value->yab->Prop} {pins:List (Addr×Obj)} {s:yab} {σ:St} {H:Hp} {x:Str} {u:Value} {pos:Pos} {Q:Value->yab->Prop} (I:Inv X pins σ H s) (hg:Gl X x) (hm:X.mg x=some u) (h:Q u s)
  (hd:(x==("__debug__":Str))=false:=by decide):wpAny (model X.prog X.w) X.A (eval (.Name x pos) X.env) Q E s :=
 ydq I.ok.kind hg (Calls.loadGlobal_global (by rw[I.ok.glob];exact I.mod.glob.keeps I.bk) hm h) hd
theorem vh {E:Value->yab->Prop} {pins:List (Addr×Obj)} {s:yab} {σ:St} {H:Hp} {x:Str} {u:Value} {pos:Pos} {Q:Value->yab->Prop} (I:Inv X pins σ H s) (hg:Gl X x) (hm:X.mg x=none) (hv:yaA x=some u) (h:Q u s)
  (hn:x≠"__name__":=by decide) (hd:(x==("__debug__":Str))=false:=by decide):wpAny (model X.prog X.w) X.A (eval (.Name x pos) X.env) Q E s:=by
 obtain⟨mb,h1,h2⟩:=I.mod.blt
 exact ydq I.ok.kind hg (Calls.loadGlobal_builtin (by rw[I.ok.glob];exact I.mod.glob.keeps I.bk) hm (by rw[I.ok.blt];exact h1.keeps I.bk) ((h2 x hn).trans hv) h) hd
theorem qbw {x:Str} {v:V} {u:Value} {pos:Pos} (hg:Gl X x) (hm:X.mg x=some u) (r:zU v u) (hd:(x==("__debug__":Str))=false:=by decide):PE X (.Name x pos) (tC v) :=
 λ_ _ _ H _ I h=>vO I hg hm ⟨v,H,I,r,h⟩ hd
theorem qdy {x:Str} {v:V} {u:Value} {pos:Pos} (hg:Gl X x) (hm:X.mg x=none) (hv:yaA x=some u) (r:zU v u) (hn:x≠"__name__":=by decide) (hd:(x==("__debug__":Str))=false:=by decide):PE X (.Name x pos) (tC v) :=
 λ_ _ _ H _ I h=>vh I hg hm hv ⟨v,H,I,r,h⟩ hn hd
variable{a b:Expr}{ta tb:TE}{pos:Pos}
def PC (X:Cx) (op:CmpOp) (a b:Expr) (t:TE):Prop :=
 ∀ (pins:List (Addr×Obj)) (s:yab) (σ:St) (H:Hp) (Q:VK),Inv X pins σ H s->t σ H Q ->
  wpAny (model X.prog X.w) X.A (eval a X.env) (λv sJ=>wpAny (model X.prog X.w) X.A (eval b X.env) (λu sV=>wpAny (model X.prog X.w) X.A (yaI op v u) (EP X pins σ Q) X.xe sV) X.xe sJ) X.xe s
theorem qe7 (b:Expr) {op:CmpOp} (h:op ≠ .In) (h2:op ≠ .NotIn):ybs op b=false:=by
 have e1:(op==CmpOp.In)=false:=by cases op<;>first|rfl|exact absurd rfl h
 have e2:(op==CmpOp.NotIn)=false:=by cases op<;>first|rfl|exact absurd rfl h2
 cases b<;>simp[ybs,e1,e2]
def tB(t:TE):TT:=λσ H Q=>t σ H λx H1=>∃c,x=.bl c/\Q c H1
theorem qlN {op:CmpOp} {t:TE} (h:PC X op a b t) (h1:ybs op b=false:=by first|exact qe7 _ (by decide) (by decide)|rfl):PT X (.Compare a [op] [b] pos) (tB t):=by
 intro pins s σ H Q I hw
 refine yei (thn (h pins s σ H _ I hw) λv s1 h1=>thn h1 λu s2 h2=>thn h2 λc s3 ⟨x,H1,I1,r1,q1⟩=>?_) h1
 obtain⟨d,rfl,q⟩:=q1
 cases r1
 exact ya9 ⟨H1,I1,q⟩
theorem qiE {e:Expr} {t:TE} (h:PE X e t) (he:∀whole,isTrue e X.env whole=(do let v <-whole;standAt e.pos;ydb [v] (truthy v)):=by intro _;rfl):PT X e (tB t):=by
 intro pins s σ H Q I hw
 refine isTrue_plain (thn (h pins s σ H _ I hw) λv s1 ⟨x,H1,I1,r1,q1⟩=>?_) (he _)
 obtain⟨d,rfl,q⟩:=q1
 cases r1
 exact ya9 ⟨H1,I1,q⟩
variable{tA tB':TT}{wZ:List Expr}
def tOr(t u:TT):TT:=λσ H Q=>t σ H λc H1=>if c=true then Q true H1 else u σ H1 Q
def qmq(t:TT):TT:=λσ H Q=>t σ H λc H1=>Q (!c) H1
theorem qiF (ha:PT X a tA):PW X (.BoolOp .Or [a] pos) tA:=by
 intro wh pins s σ H Q I h
 refine isTrue_or (thn (ha pins s σ H Q I h) λc s1 e=>?_)
 cases c with
 |false=>exact isTrue_or_nil e
 |true=>exact e
theorem qkR (ha:PT X a tA) (hb:PW X (.BoolOp .Or (b::wZ) pos) tB'):PW X (.BoolOp .Or (a::b::wZ) pos) (tOr tA tB'):=by
 intro wh pins s σ H Q I h
 refine isTrue_or (thn (ha pins s σ H _ I h) λc s1 ⟨H1,I1,q1⟩=>?_)
 cases c with
 |true=>exact⟨H1,I1,q1⟩
 |false=>exact hb wh pins s1 σ H1 Q I1 q1
theorem qiG (ha:PT X a tA):PT X (.UnaryOp .Not a pos) (qmq tA):=by
 intro pins s σ H Q I h
 exact isTrue_not (ha pins s σ H (λc H1=>Q (!c) H1) I h)
def qkS(ta tb:TE):TE:=λσ H Q=>ta σ H λx H1=>∃c,x=.bl c/\if c=true then tb σ H1 Q else Q (.bl false) H1
def qmr(ta tb:TE):TE:=λσ H Q=>ta σ H λx H1=>∃c,x=.bl c/\if c=true then Q (.bl true) H1 else tb σ H1 Q
def qkT(ta:TE):TE:=λσ H Q=>ta σ H λx H1=>∃c,x=.bl c/\Q (.bl (!c)) H1
theorem qiH{op}{t:TE}(h:PE X a t):PE X (.BoolOp op [a] pos) t:=λpins s σ H Q I hw=>BoolOp_one (h pins s σ H Q I hw)
theorem qiI (ha:PE X a ta) (hb:PE X (.BoolOp .And (b::wZ) pos) tb):PE X (.BoolOp .And (a::b::wZ) pos) (qkS ta tb):=by
 intro pins s σ H Q I h
 refine BoolOp_and (thn (ha pins s σ H _ I h) λv s1 ⟨x,H1,I1,r1,q1⟩=>?_)
 obtain⟨c,rfl,q1⟩:=q1
 cases r1
 refine ya9 ?_
 cases c with
 |true=>exact hb pins s1 σ H1 Q I1 q1
 |false=>exact⟨.bl false,H1,I1,rfl,q1⟩
theorem qkU (ha:PE X a ta) (hb:PE X (.BoolOp .Or (b::wZ) pos) tb):PE X (.BoolOp .Or (a::b::wZ) pos) (qmr ta tb):=by
 intro pins s σ H Q I h
 refine BoolOp_or (thn (ha pins s σ H _ I h) λv s1 ⟨x,H1,I1,r1,q1⟩=>?_)
 obtain⟨c,rfl,q1⟩:=q1
 cases r1
 refine ya9 ?_
 cases c with
 |false=>exact hb pins s1 σ H1 Q I1 q1
 |true=>exact⟨.bl true,H1,I1,rfl,q1⟩
theorem qiJ (ha:PE X a ta):PE X (.UnaryOp .Not a pos) (qkT ta):=by
 intro pins s σ H Q I h
 refine UnaryOp_ (thn (ha pins s σ H _ I h) λv s1 ⟨x,H1,I1,r1,q1⟩=>?_)
 obtain⟨c,rfl,q1⟩:=q1
 cases r1
 exact not_of (ya9 ⟨.bl (!c),H1,I1,rfl,q1⟩)
def tIf(t:TT)(ta tb:TE):TE:=λσ H Q=>t σ H λc H1=>if c=true then ta σ H1 Q else tb σ H1 Q
theorem qe8 {c:Expr} (hc:PT X c tA) (ha:PE X a ta) (hb:PE X b tb):PE X (.IfExp c a b pos) (tIf tA ta tb):=by
 intro pins s σ H Q I h
 refine wpAny_IfExp (thn (hc pins s σ H _ I h) λd s1 ⟨H1,I1,q1⟩=>?_)
 cases d with
 |true=>exact ha pins s1 σ H1 Q I1 q1
 |false=>exact hb pins s1 σ H1 Q I1 q1
end
end L2
namespace L2
open PySem PySem.Spec PyProof.Rows
def SqL (K:yai) (H:Hp) (a:Addr) (xs:List V):Prop :=
 Rd H a (.lst xs) \/
  ∃(o:Obj)(its:Array Value)(n:Nat),K.lookup a=some o/\o.cls=.type "list"/\o.dict=none/\o.data=.seq its n/\its.size<=yas/\qK xs its.toList
def SqT (K:yai) (H:Hp) (a:Addr) (xs:List V):Prop :=
 Rd H a (.tup xs) \/
  ∃(o:Obj)(its:Array Value)(n:Nat),K.lookup a=some o/\o.cls=.type "tuple"/\o.data=.seq its n/\its.size<=yas/\qK xs its.toList
def qms:Value->Option V
 |.none=>some .non
 |.bool b=>some (.bl b)
 |.int i _=>some (.int i)
 |.str x _=>some (.str x)
 |.bytes b _=>some (.byt b)
 |.float b _=>some (.flt b)
 |.ref a=>some (.ref a)
 |.type n=>some (.ty n)
 |_=>none
theorem zU.abs {x:V} {u:Value} (r:zU x u):qms u=some x:=by
 cases x with
 |non=>cases r;rfl
 |bl _=>cases r;rfl
 |int _=>obtain⟨t,rfl⟩:=r;rfl
 |str _=>obtain⟨t,rfl⟩:=r;rfl
 |byt _=>obtain⟨t,rfl⟩:=r;rfl
 |flt _=>obtain⟨t,rfl⟩:=r;rfl
 |ref _=>cases r;rfl
 |ty _=>cases r;rfl
theorem zU.inj{x y:V}{u:Value}(r:zU x u)(q:zU y u):x=y:=yaF (r.abs.symm.trans q.abs)
theorem qK.inj:∀{xs ys:List V}{us:List Value},qK xs us->qK ys us->xs=ys
 |_,_,_,.nil,.nil=>rfl
 |_,_,_,.cons r t,.cons r' t'=>by rw[r.inj r',qK.inj t t']
section
variable{X:Cx}{pins:List (Addr×Obj)}{σ:St}{H:Hp}{s:yab}{a:Addr}{xs ys:List V}
theorem SqL.of{K:yai}(h:H a=some (.lst xs)):SqL K H a xs:=.inl (.inl h)
theorem Inv.list (I:Inv X pins σ H s) (h:SqL X.K H a xs):∃its:List Value,qK xs its/\PlainL s.heap a its.toArray/\xs.length<=yas:=by
 rcases h with h|⟨o,its,n,hk,hc,hd,hs,hz,r⟩
 ·obtain⟨z,its,n,r,e⟩:=h.ok I.hok
  exact⟨its,r,⟨_,n,e,rfl,rfl,rfl⟩,z⟩
 ·refine⟨its.toList,r,⟨o,n,I.kIn a o hk,hc,hd,by simpa using hs⟩,?_⟩
  have e:=r.length
  simp only[yca]at e
  omega
theorem Inv.tuple (I:Inv X pins σ H s) (h:SqT X.K H a xs):∃its:List Value,qK xs its/\IsTup s.heap a its.toArray/\xs.length<=yas:=by
 rcases h with h|⟨o,its,n,hk,hc,hs,hz,r⟩
 ·obtain⟨z,its,r,p⟩:=h.ok I.hok
  exact⟨its,r,p,z⟩
 ·refine⟨its.toList,r,⟨o,I.kIn a o hk,hc,n,by simpa using hs⟩,?_⟩
  have e:=r.length
  simp only[yca]at e
  omega
theorem Inv.list_inj (I:Inv X pins σ H s) (h:SqL X.K H a xs) (h':SqL X.K H a ys):xs=ys:=by
 obtain⟨its,r,⟨o,n,e,_,_,d⟩,_⟩:=I.list h
 obtain⟨its',r',⟨o',n',e',_,_,d'⟩,_⟩:=I.list h'
 rw[e]at e';cases e'
 rw[d]at d'
 injection d' with d1 _
 have:its=its':=by simpa using congrArg Array.toList d1
 subst this
 exact r.inj r'
theorem Inv.tuple_inj (I:Inv X pins σ H s) (h:SqT X.K H a xs) (h':SqT X.K H a ys):xs=ys:=by
 obtain⟨its,r,⟨o,e,_,n,d⟩,_⟩:=I.tuple h
 obtain⟨its',r',⟨o',e',_,n',d'⟩,_⟩:=I.tuple h'
 rw[e]at e';cases e'
 rw[d]at d'
 injection d' with d1 _
 have:its=its':=by simpa using congrArg Array.toList d1
 subst this
 exact r.inj r'
end
abbrev Cx.wish(X:Cx)(E:Value->yab->Prop):Cx:={X with xe:=E}
abbrev Cx.nox(X:Cx):Cx:=X.wish λ_ _=>False
theorem Cx.Ok.wish {X:Cx} (ok:X.Ok) (E:Value->yab->Prop):(X.wish E).Ok :=
 ⟨ok.mod,ok.kind,ok.glob,ok.blt,ok.above,ok.inj,ok.has,ok.cab,ok.hd,ok.frames,ok.stk,ok.exf,ok.bs,ok.bsz,ok.noex,ok.exfs,ok.funs,ok.frf⟩
theorem Cx.Ok.unwish {X:Cx} {E:Value->yab->Prop} (ok:(X.wish E).Ok):X.Ok :=
 ⟨ok.mod,ok.kind,ok.glob,ok.blt,ok.above,ok.inj,ok.has,ok.cab,ok.hd,ok.frames,ok.stk,ok.exf,ok.bs,ok.bsz,ok.noex,ok.exfs,ok.funs,ok.frf⟩
section
variable{X:Cx}{pins:List (Addr×Obj)}{σ:St}{H:Hp}{s:yab}{E:Value->yab->Prop}
theorem Inv.wish(I:Inv X pins σ H s)(E:Value->yab->Prop):Inv (X.wish E) pins σ H s:=⟨I.ok.wish E,I.os,I.bare,I.base,I.loc,I.cell,I.free,I.freeC,I.pin,I.hok,I.len⟩
theorem Inv.unwish(I:Inv (X.wish E) pins σ H s):Inv X pins σ H s:=⟨I.ok.unwish,I.os,I.bare,I.base,I.loc,I.cell,I.free,I.freeC,I.pin,I.hok,I.len⟩
theorem SP.unwish {D:qdr} {f:Flow} {s':yab} (h:SP (X.wish E) pins D f s'):SP X pins D f s':=by
 cases f with
 |next=>obtain⟨σ',H',I,q⟩:=h;exact⟨σ',H',I.unwish,q⟩
 |brk=>obtain⟨σ',H',I,q⟩:=h;exact⟨σ',H',I.unwish,q⟩
 |cont=>obtain⟨σ',H',I,q⟩:=h;exact⟨σ',H',I.unwish,q⟩
 |ret u=>obtain⟨v,σ',H',I,r,q⟩:=h;exact⟨v,σ',H',I.unwish,r,q⟩
theorem PE.nox {e:Expr} {t:TE} (h:PE X.nox e t):PE X e t:=λpins s σ H Q I hw=>
 yaV (h pins s σ H Q (I.wish _) hw) (λ_ _ ⟨v,H',I',r,q⟩=>⟨v,H',I'.unwish,r,q⟩) λ_ _ z=>yaS z
theorem PT.nox {e:Expr} {t:TT} (h:PT X.nox e t):PT X e t:=λpins s σ H Q I hw=>
 yaV (h pins s σ H Q (I.wish _) hw) (λ_ _ ⟨H',I',q⟩=>⟨H',I'.unwish,q⟩) λ_ _ z=>yaS z
theorem PSs.nox {st:List Stmt} {t:TS} (h:PSs X.nox st t):PSs X st t:=λpins s σ H D I hw=>
 yaV (h pins s σ H D (I.wish _) hw) (λ_ _ q=>q.unwish) λ_ _ z=>yaS z
end
section
variable{X:Cx}{st:Stmt}{wZ:List Stmt}{t u:TS}{e:Expr}{te:TE}{pos:Pos}
def qkV:TS:=λD σ H=>D.nx σ H
def qmt(t u:TS):TS:=λD σ H=>t {D with nx:=u D} σ H
theorem qgW:PSs X [] qkV:=λ_ _ σ H _ I h=>ycd ⟨σ,H,I,h⟩
theorem qe9 (h1:PS X st t) (h2:PSs X wZ u):PSs X (st::wZ) (qmt t u):=by
 intro pins s σ H D I h
 refine wpAny_execs_cons (thn (h1 pins s σ H {D with nx:=u D} I h) λf s1 q=>?_)
 cases f with
 |next=>
  obtain⟨σ',H',I',q⟩:=q
  exact h2 pins s1 σ' H' D I' q
 |ret v=>exact q
 |brk=>exact q
 |cont=>exact q
theorem qbx (h1:PS X st t):PSs X [st] t:=by
 intro pins s σ H D I h
 refine wpAny_execs_cons (thn (h1 pins s σ H D I h) λf s1 q=>?_)
 cases f with
 |next=>exact ycd q
 |ret v=>exact q
 |brk=>exact q
 |cont=>exact q
theorem Inv.quiet{pins:List (Addr×Obj)}{σ:St}{H:Hp}{s:yab}(I:Inv X pins σ H s):interactive X.env=false:=by simp[interactive,I.ok.kind]
def qkW(te:TE):TS:=λD σ H=>te σ H λ_ H1=>D.nx σ H1
theorem qgX (he:PE X e te) (hs:yd2 e none pos.line X.env=pure false:=by rfl):PS X (.Expr e pos) (qkW te):=by
 intro pins s σ H D I h
 exact wpAny_Expr_any (thn (he pins s σ H _ I h) λv s1 ⟨x,H1,I1,r1,q1⟩=>⟨σ,H1,I1,q1⟩) I.quiet hs
def qmu(te:TE):TS:=λD σ H=>te σ H D.rt
theorem qdz (he:PE X e te):PS X (.Return (some e) pos) (qmu te):=by
 intro pins s σ H D I h
 exact wpAny_Return_some (thn (he pins s σ H _ I h) λv s1 ⟨x,H1,I1,r1,q1⟩=>⟨x,σ,H1,I1,r1,q1⟩)
def qmv(c:TT)(t u:TS):TS:=λD σ H=>c σ H λb H1=>if b=true then t D σ H1 else u D σ H1
theorem qkX {c:Expr} {a b:List Stmt} {tc:TT} (hc:PT X c tc) (ha:PSs X a t) (hb:PSs X b u):PS X (.If c a b pos) (qmv tc t u):=by
 intro pins s σ H D I h
 refine wpAny_If (thn (hc pins s σ H _ I h) λd s1 ⟨H1,I1,q1⟩=>?_)
 cases d with
 |true=>exact ha pins s1 σ H1 D I1 q1
 |false=>exact hb pins s1 σ H1 D I1 q1
end
abbrev TG:=V->St->Hp->(St->Hp->Prop)->Prop
abbrev TGs:=List V->St->Hp->(St->Hp->Prop)->Prop
def PG (X:Cx) (target:Expr) (t:TG):Prop :=
 ∀ (pins:List (Addr×Obj)) (s:yab) (σ:St) (H:Hp) (v:V) (u:Value) (Q:St->Hp->Prop),Inv X pins σ H s->zU v u->t v σ H Q ->
  wpAny (model X.prog X.w) X.A (ydh target X.env u) (λ_ s'=>∃σ' H',Inv X pins σ' H' s'/\Q σ' H') X.xe s
def PGs (X:Cx) (ts:List Expr) (t:TGs):Prop :=
 ∀ (pins:List (Addr×Obj)) (s:yab) (σ:St) (H:Hp) (vs:List V) (us:List Value) (Q:St->Hp->Prop),Inv X pins σ H s->qK vs us->t vs σ H Q ->
  wpAny (model X.prog X.w) X.A (yeG ((ybj ts X.env).map (·.2)) us) (λ_ s'=>∃σ' H',Inv X pins σ' H' s'/\Q σ' H') X.xe s
abbrev qkY:=V->V->V->Hp->(Hp->Prop)->Prop
def qlO (X:Cx) (t:qkY):Prop :=
 ∀ (pins:List (Addr×Obj)) (s:yab) (σ:St) (H:Hp) (o i v:V) (ov iv u:Value) (Q:Hp->Prop),Inv X pins σ H s->zU o ov->zU i iv->zU v u->t o i v H Q ->
  wpAny (model X.prog X.w) X.A (setItem ov iv u) (λ_ s'=>∃H',Inv X pins σ H' s'/\Q H') X.xe s
section
variable{X:Cx}{pos:Pos}
def qiK(i:Nat):TG:=λv σ H Q=>Q (σ.set i (some v)) H
theorem qgY {i:Nat} {x:Str} (hN:X.N.Nodup) (hi:X.N[i]? = some x) (hx:Loc X.env.scope x) (hf:X.fn x=true\/X.env.scope.names.lookup x=some .local:=by first|exact .inl rfl|exact .inr rfl|assumption):PG X (.Name x pos) (qiK i):=by
 intro pins s σ H v u Q I r h
 exact wpAny_assign_Name (ym I hN hi hx r (λs' I'=>⟨_,H,I',h⟩) hf)
def qmw:TGs:=λvs σ H Q=>vs=[]/\Q σ H
def qkZ(t:TG)(u:TGs):TGs:=λvs σ H Q=>∃v r,vs=v::r/\t v σ H λσ' H'=>u r σ' H' Q
theorem qgZ:PGs X [] qmw:=by
 intro pins s σ H vs us Q I r h
 obtain⟨e,h⟩:=h
 subst e
 cases r
 exact yfg ⟨σ,H,I,h⟩
theorem qfa {e:Expr} {es:List Expr} {t:TG} {u:TGs} (h1:PG X e t) (h2:PGs X es u)
  (hs:(ybj (e::es) X.env).map (·.2)=ydh e X.env::(ybj es X.env).map (·.2):=by rfl):PGs X (e::es) (qkZ t u):=by
 intro pins s σ H vs us Q I r h
 obtain⟨v,vr,e1,h⟩:=h
 subst e1
 cases r with
 |cons r rr=>
  rw[hs]
  refine ydi (thn (h1 pins s σ H _ _ _ I r h) λ_ s1 ⟨σ1,H1,I1,q1⟩=>?_)
  exact h2 pins s1 σ1 H1 _ _ Q I1 rr q1
def qmx(K:yai)(n:Nat)(t:TGs):TG:=λv σ H Q=>∃a xs,v=.ref a/\SqT K H a xs/\xs.length=n/\t xs σ H Q
theorem qiL {es:List Expr} {k:Nat} {t:TGs} {n:Nat} (hc:X.calm=true) (h:PGs X es t)
  (hn:(ybj es X.env).length=n:=by rfl) (hst:(ybj es X.env).findIdx? (·.1)=none:=by rfl):PG X (.Tuple es k pos) (qmx X.K n t):=by
 intro pins s σ H v u Q I r hw
 obtain⟨a,xs,e1,hq,hl,hw⟩:=hw
 subst e1
 cases r
 obtain⟨its,rv,ht,hz⟩:=I.tuple hq
 refine assign_Tuple_tuple (I.ok.hd hc) ht (by simp[hn,<-hl,rv.length]) hst λh' hx=>?_
 have I1:Inv X pins σ H {s with heap:=h' }:=I.kept (t':=s.toks) λb o e=>hx b o (yaq (yac e)) e
 exact h pins _ σ H xs _ Q I1 (by simpa using rv) hw
def qmy(to ti:TE)(t:qkY):TG:=λv σ H Q=>to σ H λo H1=>ti σ H1 λi H2=>t o i v H2 λH3=>Q σ H3
theorem qiM {o i:Expr} {to ti:TE} {t:qkY} (ho:PE X o to) (hi:PE X i ti) (hs:qlO X t)
  (ha:∀v,ydh (.Subscript o i pos) X.env v=(do
   let ov <-ydb [v] (eval o X.env)
   let iv <-ydb [v,ov] (eval i X.env)
   standAt pos
   ydb [v,ov,iv] (setItem ov iv v)
   release [v,ov,iv] []):=by intro _;rfl):PG X (.Subscript o i pos) (qmy to ti t):=by
 intro pins s σ H v u Q I r h
 rw[ha]
 refine yaa (yaZ (thn (ho pins s σ H _ I h) λov s1 ⟨x,H1,I1,r1,q1⟩=>?_))
 refine yaa (yaZ (thn (hi pins s1 σ H1 _ I1 q1) λiv s2 ⟨y,H2,I2,r2,q2⟩=>?_))
 refine yaa (ydr (yaa (yaZ (thn (hs pins s2 σ H2 x y v ov iv u _ I2 r1 r2 r q2) λ_ s3 ⟨H3,I3,q3⟩=>?_))))
 exact wpAny_release ⟨σ,H3,I3,q3⟩
def qlP(te:TE)(g:TG):TS:=λD σ H=>te σ H λx H1=>g x σ H1 D.nx
theorem qgd {tg e:Expr} {te:TE} {g:TG} (he:PE X e te) (hg:PG X tg g) (hs:ycF [tg] e pos.line X.env=pure false:=by rfl) (hw:ycG [tg] e X.env=pure none:=by rfl)
  (h1:(ybj [tg] X.env).map (·.2)=[ydh tg X.env]:=by rfl):PS X (.Assign [tg] e pos) (qlP te g):=by
 intro pins s σ H D I h
 refine wpAny_Assign_stores (thn (he pins s σ H _ I h) λv s1 ⟨x,H1,I1,r1,q1⟩=>?_) hs hw
 rw[h1]
 exact thn (hg pins s1 σ H1 x v _ I1 r1 q1) λ_ s2 q=>q
theorem qge {i:Nat} {x:Str} {e:Expr} {te:TE} {pos':Pos} (hN:X.N.Nodup) (hi:X.N[i]? = some x) (hx:Loc X.env.scope x) (he:PE X e te) (hs:yd2 e (some (.Name x pos')) pos.line X.env=pure false:=by rfl) (hf:X.fn x=true\/X.env.scope.names.lookup x=some .local:=by first|exact .inl rfl|exact .inr rfl|assumption) :
  PS X (.Assign [.Name x pos'] e pos) (qlP te (qiK i)):=by
 intro pins s σ H D I h
 refine wpAny_Assign_Name (thn (he pins s σ H _ I h) λv s1 ⟨y,H1,I1,r1,q1⟩=>?_) hs
 exact ym I1 hN hi hx r1 (λs2 I2=>⟨_,H1,I2,q1⟩) hf
def qmz(i j:Nat)(ta:TA):TS:=λD σ H=>ta σ H λvs H1=>∃v w,vs=[v,w]/\D.nx ((σ.set i (some v)).set j (some w)) H1
theorem qiN {i j:Nat} {x y:Str} {a b:Expr} {ta:TA} {px py pt:Pos} {kt k2 pt2} (hc:X.calm=true) (hN:X.N.Nodup) (hi:X.N[i]? = some x) (hj:X.N[j]? = some y) (hij:i≠j)
  (hx:X.env.scope.names.lookup x=some .local) (hy:X.env.scope.names.lookup y=some .local) (ha:PA X [a,b] ta)
  (hw:ycG [.Tuple [.Name x px,.Name y py] kt pt] (.Tuple [a,b] k2 pt2) X.env=pure (some [x,y]))
  (hs:ycF [.Tuple [.Name x px,.Name y py] kt pt] (.Tuple [a,b] k2 pt2) pos.line X.env=pure false:=by rfl) :
  PS X (.Assign [.Tuple [.Name x px,.Name y py] kt pt] (.Tuple [a,b] k2 pt2) pos) (qmz i j ta):=by
 intro pins s σ H D I h
 rw[exec_Assign_arm]
 refine yaa (ydr ?_)
 rw[hs]
 refine yaa (yaf ?_)
 rw[if_neg (by decide)]
 refine yaa (Tuple_ (thn (ha _ pins s σ H _ I h) λus s1 ⟨vs,H1,I1,r1,q1⟩=>?_))
 obtain⟨v,w,e1,q1⟩:=q1
 subst e1
 obtain ⟨u1,u2,rfl,rv,rw'⟩:∃u1 u2,us=[u1,u2]/\zU v u1/\zU w u2:=by
  cases r1 with
  | cons p q=>
   cases q with
   |cons p' q'=>
    cases q'
    exact⟨_,_,rfl,p,p'⟩
 refine yaM ?_ (by show 2<=yas;decide)
 have I2:Inv X pins σ H1 {s1 with heap:=s1.heap.push {cls:=.type "tuple",data:=.seq [u1,u2].toArray} }:=I1.kept (t':=s1.toks) λb o e=>Heap.get?_push_of_some _ e
 rw[hw]
 refine yaa (yaf ?_)
 show wpAny (model X.prog X.w) X.A (do rule "assign.swapped-stores";let items <-unpackItems (.ref s1.heap.objs.size) 2 none;yeG [λv=>yey X.env y v,λv=>yey X.env x v] items.reverse;pure Flow.next) _ _ _
 refine yaa (ycq (yaa (unpackItems_tuple (items := #[u1,u2]) (I.ok.hd hc) (ydj s1.heap _) λh' hx'=>?_)))
 have I3:=I2.kept (h':=h') (t':=s1.toks) λb o e=>hx' b o (yaq (yac e)) e
 show wpAny _ _ (yeG [λv=>yey X.env y v,λv=>yey X.env x v] [u2,u1] >>= λ_=>pure Flow.next) _ _ _
 refine yaa (ydi (yej (ym I3 hN hj (.inl hy) rw' (λs2 I4=>?_) (.inr hy))))
 refine ydi (yej (ym I4 hN hi (.inl hx) rv (λs3 I5=>yfg (yaf ?_)) (.inr hx)))
 rw[List.set_comm _ _ (ya2 hij)]at I5
 exact⟨_,H1,I5,q1⟩
end
section
variable{X:Cx}{pos:Pos}
end
structure It where
 go:Nat->Hp->Prop
 yld:Nat->Hp->V->Hp->Prop
 stop:Nat->Hp->Prop
def wT (X:Cx) (pins:List (Addr×Obj)) (H:Hp) (b:Addr):Prop :=
 H b=none/\b≠X.env.locals/\b ∉ X.fs/\(b∈X.ex\/X.s₀.heap.objs.size<=b)/\(∀x c,X.env.cells.lookup x=some c->c≠b)/\∀p∈X.pn++pins,p.1≠b
theorem Inv.fpOk {X:Cx} {pins:List (Addr×Obj)} {σ:St} {H H':Hp} {s:yab} {b:Addr} (I:Inv X pins σ H s) (hb:s.heap.objs.size<=b) (hn:H' b=none):wT X pins H' b:=by
 refine⟨hn,ycX (yat I.lt hb),I.nofs hb,.inr (yaJ I.sz hb),λx c e z=>?_,λp hp z=>?_⟩
 ·obtain⟨v,q⟩:=I.cell x c e
  exact absurd (yat q.lt (by rw[z];exact hb)) (ybc _)
 ·exact absurd (yat (yac (I.pin p hp).1) (by rw[z];exact hb)) (ybc _)
structure qiO (P:yap) (w:World) (K:yai) (tg:Expr) (J:It) (fp:List Addr) (it:Addr) (tn:Nat->Heap->Prop):Prop where
 mem:it∈fp
 obj:∀i h,tn i h->∀b∈fp,∃o,h.get? b=some o/\∀v,o.data ≠ .cell v
 keep:∀i h h',tn i h->(∀b∈fp,∀o,h.get? b=some o->h'.get? b=some o)->tn i h'
 item:∀(X:Cx),X.prog=P->X.w=w->X.K=K->X.calm=true->∀(i:Nat)(pins:List (Addr×Obj))(s:yab)(σ:St)(H:Hp)(E:Value->yab->Prop),Inv X pins σ H s->(∀b∈fp,wT X pins H b)->tn i s.heap->J.go i H ->
  wpAny (model P w) X.A (ybT (.ref it)) (λr s1=>∃u,r=some u /\
   wpAny (model P w) X.A (yce tg (.ref it) u) (λ_ s2=>∃x H',Inv X pins σ H' s2/\zU x u/\J.yld i H x H'/\tn (i+1) s2.heap/\∀b∈fp,H' b=none) E s1) E s
 done:∀(X:Cx),X.prog=P->X.w=w->X.K=K->X.calm=true->∀(i:Nat)(pins:List (Addr×Obj))(s:yab)(σ:St)(H:Hp)(E:Value->yab->Prop),Inv X pins σ H s->(∀b∈fp,wT X pins H b)->tn i s.heap->J.stop i H ->
  wpAny (model P w) X.A (ybT (.ref it)) (λr s1=>r=none/\Inv X pins σ H s1) E s
 self:∀(A:yar)(i:Nat)(s:yab)(Q:Value->yab->Prop)(E:Value->yab->Prop),tn i s.heap->Q (.ref it) s->wpAny (model P w) A (yeV (.ref it)) Q E s
abbrev TI:=St->Hp->(It->Hp->Prop)->Prop
def PIE (X:Cx) (pins:List (Addr×Obj)) (σ:St) (tg:Expr) (R:It->Hp->Prop) (itv:Value) (s2:yab):Prop :=
 ∃(it:Addr)(fp:List Addr)(tn:Nat->Heap->Prop)(J:It)(H':Hp),itv=.ref it/\Inv X pins σ H' s2/\qiO X.prog X.w X.K tg J fp it tn/\tn 0 s2.heap/\(∀b∈fp,wT X pins H' b)/\R J H'
def PI (X:Cx) (tg iter:Expr) (wi:TI):Prop :=
 ∀ (pins:List (Addr×Obj)) (s:yab) (σ:St) (H:Hp) (R:It->Hp->Prop),Inv X pins σ H s->wi σ H R ->
  wpAny (model X.prog X.w) X.A (eval iter X.env) (λv s1=>wpAny (model X.prog X.w) X.A (yeV v) (PIE X pins σ tg R) X.xe s1) X.xe s
theorem qfb {M:Model} {A:yar} {E:Value->yab->Prop} {s:yab} {tg:Expr} {it:Addr} {u:Value} {o:Obj} {n:String} {vs:Array Value} {Q:Unit->yab->Prop} (ho:s.heap.get? it=some o) (hc:o.cls=.type n) (hd:o.data=.fields vs)
  (hn:["enumerate","zip","dict_itemiterator","dict_reverseitemiterator","odict_iterator","itertools.zip_longest","itertools.pairwise"].contains n=false) (hQ:Q () s):wpAny M A (yce tg (.ref it) u) Q E s:=by
 unfold yce
 cases tg<;>first
  |exact yaf hQ
  | (cases u<;>first
    |exact yaf hQ
    | (refine yaa (wpAny_load ho ?_)
       rw[hc,hd]
       show wpAny M A (if(["enumerate","zip","dict_itemiterator","dict_reverseitemiterator","odict_iterator","itertools.zip_longest","itertools.pairwise"].contains n&&vs[0]? == some (ybA _))=true then _ else _) Q E s
       rw[if_neg (by intro h;rw[hn,yb1]at h;cases h)]
       exact yaf hQ))
def Itl (K:yai) (a:Addr):It :=
 ⟨λi H=>∃xs x,SqL K H a xs/\xs[i]? = some x,λi H x H'=>H'=H/\∀xs,SqL K H a xs->xs[i]? = some x,λi H=>∃xs,SqL K H a xs/\xs.length<=i⟩
def Itt (K:yai) (a:Addr):It :=
 ⟨λi H=>∃xs x,SqT K H a xs/\xs[i]? = some x,λi H x H'=>H'=H/\∀xs,SqT K H a xs->xs[i]? = some x,λi H=>∃xs,SqT K H a xs/\xs.length<=i⟩
def Itr(lo:Int)(n:Nat):It:=⟨λi _=>i<n,λi H x H'=>H'=H/\x=.int (lo+i),λi _=>n<=i⟩
theorem qdA {P:yap} {w:World} {K:yai} {tg:Expr} (a it:Addr):qiO P w K tg (Itl K a) [it] it (λi h=>h.IsListIter it a i) where
 mem:=by simp
 obj:=λi h st b hb=>by
  have e:b=it:=by simpa using hb
  subst e
  obtain⟨o,e,c,d⟩:=st
  exact⟨o,e,λv z=>by rw[d]at z;cases z⟩
 keep:=λi h h' st k=>st.at λo e=>k it (by simp) o e
 item:=by
  intro X hP hw hK hc i pins s σ H E I hf st hg
  subst hP hw hK
  obtain⟨xs,x,hq,hx⟩:=hg
  obtain⟨its,rv,p,hz⟩:=I.list hq
  obtain⟨u,hu,ru⟩:=rv.get hx
  obtain⟨f0,f1,f2,f3,f4,f5⟩:=hf it (by simp)
  refine wpAny_pyNext_list_item st p.isList (x:=u) (by simpa using hu) λh' st' sb=>?_
  have I1:Inv X pins σ H {s with heap:=h' }:=I.turned (t':=s.toks) (λb o hb e=>(sb.2 b hb).trans e) f0 f1 f3 f4 f5
  obtain⟨o,e,c,d⟩:=id st'
  exact⟨u,rfl,qfb (s:={s with heap:=h' }) e c d (by decide) ⟨x,H,I1,ru,⟨rfl,λys hy=>by rw[I.list_inj hy hq];exact hx⟩,st',λb hb=>(hf b hb).1⟩⟩
 done:=by
  intro X hP hw hK hc i pins s σ H E I hf st hg
  subst hP hw hK
  obtain⟨xs,hq,hx⟩:=hg
  obtain⟨its,rv,p,hz⟩:=I.list hq
  obtain⟨f0,f1,f2,f3,f4,f5⟩:=hf it (by simp)
  have hl:=rv.length
  exact wpAny_pyNext_list_end (I.ok.hd hc) st p.isList (by simp;omega) λh' eb=>⟨rfl,I.turned (t':=s.toks) (λb o hb e=>eb b o hb e) f0 f1 f3 f4 f5⟩
 self:=λ_ _ _ _ _ st h=>wpAny_pyIter_listiter st h
theorem qcO {P:yap} {w:World} {K:yai} {tg:Expr} (a it:Addr):qiO P w K tg (Itt K a) [it] it (λi h=>h.IsTupleIter it a i) where
 mem:=by simp
 obj:=λi h st b hb=>by
  have e:b=it:=by simpa using hb
  subst e
  obtain⟨o,e,c,d⟩:=st
  exact⟨o,e,λv z=>by rw[d]at z;cases z⟩
 keep:=λi h h' st k=>st.at λo e=>k it (by simp) o e
 item:=by
  intro X hP hw hK hc i pins s σ H E I hf st hg
  subst hP hw hK
  obtain⟨xs,x,hq,hx⟩:=hg
  obtain⟨its,rv,p,hz⟩:=I.tuple hq
  obtain⟨u,hu,ru⟩:=rv.get hx
  obtain⟨f0,f1,f2,f3,f4,f5⟩:=hf it (by simp)
  refine wpAny_pyNext_tuple_item st (show s.heap.IsTuple a its.toArray from p) (x:=u) (by simpa using hu) λh' st' sb=>?_
  have I1:Inv X pins σ H {s with heap:=h' }:=I.turned (t':=s.toks) (λb o hb e=>(sb.2 b hb).trans e) f0 f1 f3 f4 f5
  obtain⟨o,e,c,d⟩:=id st'
  exact⟨u,rfl,qfb (s:={s with heap:=h' }) e c d (by decide) ⟨x,H,I1,ru,⟨rfl,λys hy=>by rw[I.tuple_inj hy hq];exact hx⟩,st',λb hb=>(hf b hb).1⟩⟩
 done:=by
  intro X hP hw hK hc i pins s σ H E I hf st hg
  subst hP hw hK
  obtain⟨xs,hq,hx⟩:=hg
  obtain⟨its,rv,p,hz⟩:=I.tuple hq
  obtain⟨f0,f1,f2,f3,f4,f5⟩:=hf it (by simp)
  have hl:=rv.length
  exact wpAny_pyNext_tuple_end (I.ok.hd hc) st (show s.heap.IsTuple a its.toArray from p) (by simp;omega) λh' eb=>⟨rfl,I.turned (t':=s.toks) (λb o hb e=>eb b o hb e) f0 f1 f3 f4 f5⟩
 self:=λ_ _ _ _ _ st h=>wpAny_pyIter_tupleiter st h
theorem qcP {P:yap} {w:World} {K:yai} {tg:Expr} (it:Addr) (lo:Int) (n:Nat):qiO P w K tg (Itr lo n) [it] it (λi h=>ycz h it (lo+(i:Nat)*1) ((n:Int)-(i:Nat)) 1) where
 mem:=by simp
 obj:=λi h st b hb=>by
  have e:b=it:=by simpa using hb
  subst e
  exact ⟨_,st,λv z=>by
   have z':ycA _=yd3 v:=z
   cases z'⟩
 keep:=λi h h' st k=>k it (by simp) _ st
 item:=by
  intro X hP hw hK hc i pins s σ H E I hf st hg
  subst hP hw hK
  obtain⟨f0,f1,f2,f3,f4,f5⟩:=hf it (by simp)
  have W:=Walks.range (prog:=X.prog) (w:=X.w) (I.ok.hd hc) it lo 1 n
  refine W.item i s _ _ hg st λv h' tk hv st' kk=>?_
  obtain⟨t,rfl⟩:=hv
  have I1:Inv X pins σ H {s with heap:=h',toks:=tk}:=I.turned (λb o hb e=>kk b o (by simpa using hb) e) f0 f1 f3 f4 f5
  refine⟨_,rfl,qfb (s:={s with heap:=h',toks:=tk}) (n:="range_iterator") st' rfl rfl (by decide) ⟨.int (lo+i),H,I1,⟨t,?_⟩,⟨rfl,rfl⟩,st',λb hb=>(hf b hb).1⟩⟩
  rw[yfq]
 done:=by
  intro X hP hw hK hc i pins s σ H E I hf st hg
  subst hP hw hK
  obtain⟨f0,f1,f2,f3,f4,f5⟩:=hf it (by simp)
  exact wpAny_pyNext_range_end (I.ok.hd hc) st (by have:n<=i:=hg;omega) λh' eb=>⟨rfl,I.turned (t':=s.toks) (λb o hb e=>eb b o hb e) f0 f1 f3 f4 f5⟩
 self:=λ_ _ _ _ _ st h=>yeb st h
end L2
namespace L2
open PySem PySem.Spec PyProof.Rows
section
variable{X:Cx}{tg:Expr}
theorem qfc {pins:List (Addr×Obj)} {σ:St} {H:Hp} {s:yab} {R:It->Hp->Prop} {E:Value->yab->Prop} {lo hi:Int} {t u v:Tok} {tk:Nat} (I:Inv X pins σ H s) (h1 : -(2 ^ 62)<=lo) (h2:lo<2 ^ 62) (h3 : -(2 ^ 62)<=hi) (h4:hi<2 ^ 62)
  (q:R (Itr lo (hi-lo).toNat) H):wpAny (model X.prog X.w) X.A (yeV (.ref s.heap.objs.size)) (PIE X pins σ tg R) E {s with heap:=s.heap.push {cls:=.type "range",data:=.fields #[.int lo t,.int hi u,.int 1 v]},toks:=tk}:=by
 refine yeW (IsRange.new ..) (small_one h1 h2 h3 h4) ?_
 have I1:Inv X pins σ H {s with heap:=s.heap.push {cls:=.type "range",data:=.fields #[.int lo t,.int hi u,.int 1 v]},toks:=tk}:=I.kept λb o e=>Heap.get?_push_of_some _ e
 refine ⟨(s.heap.push {cls:=.type "range",data:=.fields #[.int lo t,.int hi u,.int 1 v]}).objs.size,[(s.heap.push {cls:=.type "range",data:=.fields #[.int lo t,.int hi u,.int 1 v]}).objs.size],_,_,H,rfl,
  I1.kept (t':=tk) λb o e=>Heap.get?_push_of_some _ e,qcP _ lo (hi-lo).toNat,?_,λb hb=>?_,q⟩
 ·have e1:lo+((0:Nat):Int)*1=lo:=by simp
  have e2:(((hi-lo).toNat:Nat):Int)-((0:Nat):Int)=ydZ lo hi 1:=by rw[rangeSize_one];split<;>omega
  show ycz _ _ (lo+((0:Nat):Int)*1) ((((hi-lo).toNat:Nat):Int)-((0:Nat):Int)) 1
  rw[e1,e2]
  exact Heap.get?_push_size _ rfl
 ·have e:b=(s.heap.push {cls:=.type "range",data:=.fields #[.int lo t,.int hi u,.int 1 v]}).objs.size:=by simpa using hb
  subst e
  exact I1.fpOk (yak _) (I1.hok.fresh (yak _))
def qiP(ta:TA):TI:=λσ H R=>ta σ H λvs H1=>∃j:Int,vs=[.int j] /\ -(2 ^ 62)<=j/\j<2 ^ 62/\R (Itr 0 j.toNat) H1
theorem qdB {a:Expr} {ta:TA} {p pos:Pos} (hg:Gl X "range") (hm:X.mg "range"=none) (ha:PA X [a] ta) (hs:yae [a] X.env=[(false,eval a X.env)]:=by rfl):PI X tg (.Call (.Name "range" p) [a] [] pos) (qiP ta):=by
 intro pins s σ H R I h
 refine Call_ (vh I hg hm boot_range (yaX (thn (ha pos pins s σ H _ I h) λus s1 ⟨vs,H1,I1,r1,q1⟩=>?_) hs rfl))
 obtain⟨j,e,q1,q2,q⟩:=q1
 subst e
 cases r1 with
 |cons r rr=>
  cases rr
  obtain⟨t,rfl⟩:=r
  exact call_range_1 (qfc I1 (by omega) (by omega) q1 q2 (by simpa using q))
def qmA (wi:TI) (g:TG) (tb:TS):TS:=λD σ H=>wi σ H λJ H1=>∃W:Nat->Nat->St->Hp->Prop,(∃m,W 0 m σ H1)/\∀i m σ H,W i m σ H ->
 (J.stop i H/\D.nx σ H)\/(J.go i H/\∃N:St->Hp->Prop,(∀σ' H',N σ' H'->∃m',m'<m/\W (i+1) m' σ' H')/\∀x H',J.yld i H x H'->g x σ H' λσ2 H2=>tb {D with nx:=N,ct:=N,bk:=D.nx} σ2 H2)
def vP(fp:List Addr)(h:Heap):List (Addr×Obj):=fp.filterMap λb=>(h.get? b).map λo=>(b,o)
theorem zN{fp:List Addr}{h:Heap}{b:Addr}{o:Obj}(hb:b∈fp)(e:h.get? b=some o):(b,o)∈vP fp h:=List.mem_filterMap.mpr ⟨b,hb,by rw[e];rfl⟩
theorem qdC {fp:List Addr} {h:Heap} {p:Addr×Obj} (hp:p∈vP fp h):p.1∈fp/\h.get? p.1=some p.2:=by
 obtain⟨b,hb,e⟩:=List.mem_filterMap.mp hp
 cases q:h.get? b with
 |none=>rw[q]at e;cases e
 |some o=>
  rw[q]at e
  have e':(b,o)=p:=yaF e
  subst e'
  exact⟨hb,q⟩
theorem Inv.pinned {pins:List (Addr×Obj)} {σ:St} {H:Hp} {s:yab} {fp:List Addr} (I:Inv X pins σ H s) (hf:∀b∈fp,wT X pins H b) (ho:∀b∈fp,∃o,s.heap.get? b=some o/\∀v,o.data ≠ .cell v):Inv X (pins++vP fp s.heap) σ H s :=
 I.pins_of λp hp=>(mA_.mp hp).elim (λz=>I.pin p (mr_ _ z)) λz=>by
  obtain⟨hb,e⟩:=qdC z
  obtain⟨f0,f1,f2,_⟩:=hf p.1 hb
  obtain⟨o,e',d⟩:=ho p.1 hb
  rw[e]at e';cases e'
  exact⟨e,f0,f1,f2,d⟩
theorem Inv.unpinned{pins pl:List (Addr×Obj)}{σ:St}{H:Hp}{s:yab}(I:Inv X (pins++pl) σ H s):Inv X pins σ H s:=I.pins_of λp hp=>I.pin p (mr_ _ (ycW _ hp))
theorem qiQ {iter:Expr} {body:List Stmt} {wi:TI} {g:TG} {tb:TS} {pos:Pos} (hp:PassesOwn (model X.prog X.w) X.A X.env X.xe) (hc:X.calm=true) (hi:PI X tg iter wi) (hg:PG X tg g) (hb:PSs X body tb)
  (hs:∀x,yba iter X.env x=pure x:=by intro _;rfl):PS X (.For tg iter body [] pos) (qmA wi g tb):=by
 intro pins s σ H D I h
 refine wpAny_For (thn (hi pins s σ H _ I h) λv s1 h1=>thn h1 λitv s2 h2=>?_) hs
 obtain⟨it,fp,tn,J,H2,e,I2,T,st2,f2,W,⟨m0,w0⟩,turn⟩:=h2
 subst e
 have stat:∀{H':Hp},(∀b∈fp,H' b=none)->∀b∈fp,wT X pins H' b:=λhn b hb=>⟨hn b hb,(f2 b hb).2⟩
 refine codeAny_forLoop_any (λn s'=>∃i σ' H',Inv X pins σ' H' s'/\tn i s'.heap/\(∀b∈fp,H' b=none)/\W i n σ' H') ?_ m0 ⟨0,σ,H2,I2,st2,λb hb=>(f2 b hb).1,w0⟩
 rintro n s3 ⟨i,σ3,H3,I3,st3,fr3,w3⟩
 rcases turn i n σ3 H3 w3 with⟨stop,qn⟩|⟨go,N,hN,step⟩
 ·refine ycf hp (thn (T.done X rfl rfl rfl hc i pins s3 σ3 H3 X.xe I3 (stat fr3) st3 stop) λr s4 ⟨hr,I4⟩=>?_)
  subst hr
  exact ycd ⟨σ3,H3,I4,qn⟩
 ·refine ycf hp (thn (T.item X rfl rfl rfl hc i pins s3 σ3 H3 X.xe I3 (stat fr3) st3 go) λr s4 ⟨u,hr,h4⟩=>?_)
  subst hr
  refine ycf hp (thn h4 λ_ s5 ⟨x,H5,I5,r5,y5,st5,fr5⟩=>?_)
  have I5':=I5.pinned (stat fr5) (T.obj _ _ st5)
  refine ycf hp (thn (hg _ s5 σ3 H5 x u _ I5' r5 (step x H5 y5)) λ_ s6 ⟨σ6,H6,I6,q6⟩=>?_)
  refine ycf hp (thn (hb _ s6 σ6 H6 _ I6 q6) λf s7 q7=>?_)
  have again:∀{σ7:St}{H7:Hp},Inv X (pins++vP fp s5.heap) σ7 H7 s7->N σ7 H7->∃m,m<n/\∃i σ' H',Inv X pins σ' H' s7/\tn i s7.heap/\(∀b∈fp,H' b=none)/\W i m σ' H':=λ{σ7 H7} I7 n7=>by
   obtain⟨m',hm,w7⟩:=hN σ7 H7 n7
   refine⟨m',hm,i+1,σ7,H7,I7.unpinned,T.keep _ _ _ st5 λb hb o e=>(I7.pin (b,o) (mr_ _ (mr_ _ (zN hb e)))).1,λb hb=>?_,w7⟩
   obtain⟨o,e,d⟩:=T.obj _ _ st5 b hb
   exact(I7.pin (b,o) (mr_ _ (mr_ _ (zN hb e)))).2.1
  cases f with
  |next=>obtain⟨σ7,H7,I7,n7⟩:=q7;exact again I7 n7
  |cont=>obtain⟨σ7,H7,I7,n7⟩:=q7;exact again I7 n7
  |brk=>obtain⟨σ7,H7,I7,q7⟩:=q7;exact⟨σ7,H7,I7.unpinned,q7⟩
  |ret v=>obtain⟨x7,σ7,H7,I7,r7,q7⟩:=q7;exact⟨x7,σ7,H7,I7.unpinned,r7,q7⟩
end
end L2
namespace L2
open PySem PySem.Spec PyProof.Rows
abbrev R2:=V->V->Hp->VK->Prop
def OpR (X:Cx) (f:Value->Value->Sem Value) (r:R2):Prop :=
 ∀ (pins:List (Addr×Obj)) (s:yab) (σ:St) (H:Hp) (x y:V) (v u:Value) (Q:VK),Inv X pins σ H s->zU x v->zU y u->r x y H Q ->
  wpAny (model X.prog X.w) X.A (f v u) (EP X pins σ Q) X.xe s
def UnR (X:Cx) (f:Value->Sem Value) (r:V->Hp->VK->Prop):Prop :=
 ∀ (pins:List (Addr×Obj)) (s:yab) (σ:St) (H:Hp) (x:V) (v:Value) (Q:VK),Inv X pins σ H s->zU x v->r x H Q ->
  wpAny (model X.prog X.w) X.A (f v) (EP X pins σ Q) X.xe s
def jO (X:Cx) (f:Value) (r:List V->Hp->VK->Prop):Prop :=
 ∀ (pins:List (Addr×Obj)) (s:yab) (σ:St) (H:Hp) (xs:List V) (us:List Value) (Q:VK),Inv X pins σ H s->qK xs us->r xs H Q ->
  wpAny (model X.prog X.w) X.A (call f us) (EP X pins σ Q) X.xe s
def tOp(r:R2)(ta tb:TE):TE:=λσ H Q=>ta σ H λx H1=>tb σ H1 λy H2=>r x y H2 Q
def tUn(r:V->Hp->VK->Prop)(ta:TE):TE:=λσ H Q=>ta σ H λx H1=>r x H1 Q
def rI(C:Int->Int->Prop)(g:Int->Int->V):R2:=λx y H Q=>∃i j,x=.int i/\y=.int j/\C i j/\Q (g i j) H
def rI0(g:Int->Int->V):R2:=λx y H Q=>∃i j,x=.int i/\y=.int j/\Q (g i j) H
def rU(g:Int->V):V->Hp->VK->Prop:=λx H Q=>∃i,x=.int i/\Q (g i) H
section
variable{X:Cx}{a b c:Expr}{ta tb tc:TE}{pos:Pos}
theorem qk0 (ha:PE X a ta) (hb:PE X b tb) {pins:List (Addr×Obj)} {s:yab} {σ:St} {H:Hp} {R:V->V->Hp->Prop} (I:Inv X pins σ H s)
  (h:ta σ H λx H1=>tb σ H1 λy H2=>R x y H2) {Q:Value->yab->Prop} {f:Value->Value->Sem Value}
  (hf:∀v u s2 x y H2,Inv X pins σ H2 s2->zU x v->zU y u->R x y H2->wpAny (model X.prog X.w) X.A (f v u) Q X.xe s2) :
  wpAny (model X.prog X.w) X.A (eval a X.env) (λv sJ=>wpAny (model X.prog X.w) X.A (eval b X.env) (λu sV=>wpAny (model X.prog X.w) X.A (f v u) Q X.xe sV) X.xe sJ) X.xe s:=by
 refine thn (ha pins s σ H _ I h) λv s1 ⟨x,H1,I1,r1,q1⟩=>?_
 refine thn (hb pins s1 σ H1 _ I1 q1) λu s2 ⟨y,H2,I2,r2,q2⟩=>?_
 exact hf v u s2 x y H2 I2 r1 r2 q2
theorem qk1 {op:Operator} {r:R2} (ho:OpR X (ya3 op) r) (ha:PE X a ta) (hb:PE X b tb):PE X (.BinOp a op b pos) (tOp r ta tb):=by
 intro pins s σ H Q I h
 exact wpAny_BinOp (qk0 ha hb I h λv u s2 x y H2 I2 rx ry q=>ho pins s2 σ H2 x y v u Q I2 rx ry q)
theorem qk2 {op:UnaryOp} {r:V->Hp->VK->Prop} (ho:UnR X (unaryOp op) r) (ha:PE X a ta):PE X (.UnaryOp op a pos) (tUn r ta):=by
 intro pins s σ H Q I h
 exact UnaryOp_ (thn (ha pins s σ H _ I h) λv s1 ⟨x,H1,I1,r1,q1⟩=>ho pins s1 σ H1 x v Q I1 r1 q1)
theorem opI {f:Value->Value->Sem Value} {C:Int->Int->Prop} {g:Int->Int->Int}
  (rule:∀(i j:Int)(t u:Tok)(s:yab)(Q:Value->yab->Prop)(E:Value->yab->Prop),C i j->Q (.int (g i j) s.toks) {s with toks:=s.toks+1}->wpAny (model X.prog X.w) X.A (f (.int i t) (.int j u)) Q E s) :
  OpR X f (rI C λi j => .int (g i j)):=by
 intro pins s σ H x y v u Q I rx ry h
 obtain⟨i,j,rfl,rfl,hc,q⟩:=h
 obtain⟨t,rfl⟩:=rx
 obtain⟨t',rfl⟩:=ry
 exact rule i j t t' s _ _ hc ⟨.int (g i j),H,I.tok _,⟨_,rfl⟩,q⟩
theorem qlQ {f:Value->Value->Sem Value} {g:Int->Int->Int}
  (rule:∀(i j:Int)(t u:Tok)(s:yab)(Q:Value->yab->Prop)(E:Value->yab->Prop),Q (.int (g i j) s.toks) {s with toks:=s.toks+1}->wpAny (model X.prog X.w) X.A (f (.int i t) (.int j u)) Q E s) :
  OpR X f (rI0 λi j => .int (g i j)):=by
 intro pins s σ H x y v u Q I rx ry h
 obtain⟨i,j,rfl,rfl,q⟩:=h
 obtain⟨t,rfl⟩:=rx
 obtain⟨t',rfl⟩:=ry
 exact rule i j t t' s _ _ ⟨.int (g i j),H,I.tok _,⟨_,rfl⟩,q⟩
theorem qkE {f:Value->Value->Sem Value} {g:Int->Int->Bool}
  (rule:∀(i j:Int)(t u:Tok)(s:yab)(Q:Value->yab->Prop)(E:Value->yab->Prop),Q (.bool (g i j)) s->wpAny (model X.prog X.w) X.A (f (.int i t) (.int j u)) Q E s) :
  OpR X f (rI0 λi j => .bl (g i j)):=by
 intro pins s σ H x y v u Q I rx ry h
 obtain⟨i,j,rfl,rfl,q⟩:=h
 obtain⟨t,rfl⟩:=rx
 obtain⟨t',rfl⟩:=ry
 exact rule i j t t' s _ _ ⟨.bl (g i j),H,I,rfl,q⟩
def qiR(i j:Int):Prop:=0<j/\j<1606938044258990275541962092341162602522202993782792835301376
theorem qlR {i j:Int} (h1:0<j) (h2:j<1606938044258990275541962092341162602522202993782792835301376):Builtin.divisionGoesByPylong i j=false:=by
 refine PyProof.noPylong_of_log2 ?_
 have h0:j.natAbs≠0:=by omega
 have h3:j.natAbs<2 ^ 200:=by
   have:(2:Nat) ^ 200=1606938044258990275541962092341162602522202993782792835301376:=by decide +kernel
   omega
 have:=(Nat.log2_lt h0).mpr h3
 omega
def qlS(i j:Int):Prop:=0<=j/\j<=1000000/\i.natAbs<2 ^ 64
def qiS(i j:Int):Prop:=(-(2 ^ 64)<i/\i<2 ^ 64)\/(-(2 ^ 64)<j/\j<2 ^ 64)
theorem qiS.ok {i j:Int} (h:qiS i j):IntMulOk i j:=by
 rcases h with⟨h1,h2⟩|⟨h1,h2⟩
 ·exact .of_left (intBits_le_64 h1 h2)
 ·exact .of_right (intBits_le_64 h1 h2)
theorem qiT:OpR X (ya3 .Add) (rI0 λi j => .int (i+j)):=qlQ λ_ _ _ _ _ _ _ q=>add_int q
theorem qgf:OpR X (ya3 .Sub) (rI0 λi j => .int (i-j)):=qlQ λ_ _ _ _ _ _ _ q=>sub_int q
theorem qiU:OpR X (ya3 .Mult) (rI qiS λi j => .int (i*j)):=opI λ_ _ _ _ _ _ _ hc q=>mul_int q hc.ok
theorem qg0:OpR X (ya3 .FloorDiv) (rI qiR λi j => .int (i/j)):=opI λi j _ _ _ _ _ hc q=>by
 have h1:(0:Int)<j:=hc.1
 have h2:j<1606938044258990275541962092341162602522202993782792835301376:=hc.2
 exact floordiv_int (by omega) (by rw[yds i (by omega)];exact q) (.inl (qlR h1 h2))
theorem qaS:OpR X (ya3 .Mod) (rI (λ_ j=>0<j) λi j => .int (i%j)):=opI λi j _ _ _ _ _ hc q=>by
 have h1:(0:Int)<j:=hc
 exact mod_int' (by omega) (by rw[ydt i (by omega)];exact q)
theorem qgg:OpR X (ya3 .Pow) (rI qlS λi j => .int (i ^ j.toNat)):=opI λ_ _ _ _ _ _ _ hc q=>pow_int_small hc.1 hc.2.1 hc.2.2 q
theorem unI {f:Value->Sem Value} {g:Int->Int}
  (rule:∀(i:Int)(t:Tok)(s:yab)(Q:Value->yab->Prop)(E:Value->yab->Prop),Q (.int (g i) s.toks) {s with toks:=s.toks+1}->wpAny (model X.prog X.w) X.A (f (.int i t)) Q E s) :
  UnR X f (rU λi => .int (g i)):=by
 intro pins s σ H x v Q I rx h
 obtain⟨i,rfl,q⟩:=h
 obtain⟨t,rfl⟩:=rx
 exact rule i t s _ _ ⟨.int (g i),H,I.tok _,⟨_,rfl⟩,q⟩
theorem qiV:UnR X (unaryOp .USub) (rU λi => .int (-i)):=unI λ_ _ _ _ _ q=>neg_int q
end
def qk3:V->V->Bool
 |.non,.non=>true|.non,.int _=>true|.int _,.non=>true|.non,.bl _=>true|.bl _,.non=>true|.non,.str _=>true|.str _,.non=>true
 |.int _,.int _=>true|.bl _,.bl _=>true|.str _,.str _=>true|.byt _,.byt _=>true
 |.int _,.str _=>true|.str _,.int _=>true|.bl _,.str _=>true|.str _,.bl _=>true
 |_,_=>false
def rEq:R2:=λx y H Q=>qk3 x y=true/\Q (.bl (decide (x=y))) H
def rNe:R2:=λx y H Q=>qk3 x y=true/\Q (.bl (!decide (x=y))) H
theorem qdD {i j:Int}:decide (V.int i=V.int j)=(i==j):=by
 rw[ybU]
 simp
theorem qgh {i j:Bool}:decide (V.bl i=V.bl j)=(i==j):=by
 rw[ybU]
 simp
theorem qdE {i j:Str}:decide (V.str i=V.str j)=(i==j):=by
 rw[ybU]
 simp
theorem qdF {i j:Array UInt8}:decide (V.byt i=V.byt j)=(i.toList==j.toList):=by
 rw[ybU]
 cases i
 cases j
 simp
section
variable{X:Cx}{a b c:Expr}{ta tb tc:TE}{pos:Pos}
theorem qM {pins:List (Addr×Obj)} {σ:St} {H:Hp} {s:yab} {Q:VK} {k k':Bool} (I:Inv X pins σ H s) (q:Q (.bl k) H) (e:k=k'):EP X pins σ Q (.bool k') s:=by
 subst e
 exact⟨.bl k,H,I,rfl,q⟩
theorem qiW:OpR X (yaI .Eq) rEq:=by
 intro pins s σ H x y v u Q I rx ry h
 obtain⟨hs,q⟩:=h
 cases x with
 |non=>
  cases rx
  cases y with
  |non=>cases ry;exact PySem.EqNone.eq_none_none (qM I q (by simp))
  |bl j=>cases ry;exact PySem.EqNone.eq_none_bool (qM I q (by simp))
  |int j=>obtain⟨t',rfl⟩:=ry;exact PySem.EqNone.eq_none_int (qM I q (by simp))
  |str j=>obtain⟨t',rfl⟩:=ry;exact PySem.EqNone.eq_none_str (qM I q (by simp))
  |_=>exact absurd (show false=true from hs) yal
 |bl i=>
  cases rx
  cases y with
  |non=>cases ry;exact PySem.EqNone.eq_bool_none (qM I q (by simp))
  |bl j=>cases ry;exact eq_bool (qM I q qgh)
  |str j=>obtain⟨t',rfl⟩:=ry;exact PySem.EqMixed.eq_bool_str (qM I q (by simp))
  |_=>exact absurd (show false=true from hs) yal
 |int i=>
  obtain⟨t,rfl⟩:=rx
  cases y with
  |non=>cases ry;exact PySem.EqNone.eq_int_none (qM I q (by simp))
  |int j=>obtain⟨t',rfl⟩:=ry;exact eq_int (qM I q qdD)
  |str j=>obtain⟨t',rfl⟩:=ry;exact PySem.EqMixed.eq_int_str (qM I q (by simp))
  |_=>exact absurd (show false=true from hs) yal
 |str i=>
  obtain⟨t,rfl⟩:=rx
  cases y with
  |non=>cases ry;exact PySem.EqNone.eq_str_none (qM I q (by simp))
  |bl j=>cases ry;exact PySem.EqMixed.eq_str_bool (qM I q (by simp))
  |int j=>obtain⟨t',rfl⟩:=ry;exact PySem.EqMixed.eq_str_int (qM I q (by simp))
  |str j=>obtain⟨t',rfl⟩:=ry;exact eq_str (qM I q qdE)
  |_=>exact absurd (show false=true from hs) yal
 |byt i=>
  obtain⟨t,rfl⟩:=rx
  cases y with
  |byt j=>obtain⟨t',rfl⟩:=ry;exact PySem.W.eq_bytes (qM I q qdF)
  |_=>exact absurd (show false=true from hs) yal
 |_=>cases y<;>exact absurd (show false=true from hs) yal
theorem qk4:OpR X (yaI .NotEq) rNe:=by
 intro pins s σ H x y v u Q I rx ry h
 obtain⟨hs,q⟩:=h
 cases x with
 |non=>
  cases rx
  cases y with
  |non=>cases ry;exact PySem.EqNone.ne_none_none (qM I q (by simp))
  |bl j=>cases ry;exact PySem.EqNone.ne_none_bool (qM I q (by simp))
  |int j=>obtain⟨t',rfl⟩:=ry;exact PySem.EqNone.ne_none_int (qM I q (by simp))
  |str j=>obtain⟨t',rfl⟩:=ry;exact PySem.EqNone.ne_none_str (qM I q (by simp))
  |_=>exact absurd (show false=true from hs) yal
 |bl i=>
  cases rx
  cases y with
  |non=>cases ry;exact PySem.EqNone.ne_bool_none (qM I q (by simp))
  |bl j=>cases ry;exact ne_bool (qM I q (congrArg not qgh))
  |str j=>obtain⟨t',rfl⟩:=ry;exact PySem.EqMixed.ne_bool_str (qM I q (by simp))
  |_=>exact absurd (show false=true from hs) yal
 |int i=>
  obtain⟨t,rfl⟩:=rx
  cases y with
  |non=>cases ry;exact PySem.EqNone.ne_int_none (qM I q (by simp))
  |int j=>obtain⟨t',rfl⟩:=ry;exact ne_int (qM I q (congrArg not qdD))
  |str j=>obtain⟨t',rfl⟩:=ry;exact PySem.EqMixed.ne_int_str (qM I q (by simp))
  |_=>exact absurd (show false=true from hs) yal
 |str i=>
  obtain⟨t,rfl⟩:=rx
  cases y with
  |non=>cases ry;exact PySem.EqNone.ne_str_none (qM I q (by simp))
  |bl j=>cases ry;exact PySem.EqMixed.ne_str_bool (qM I q (by simp))
  |int j=>obtain⟨t',rfl⟩:=ry;exact PySem.EqMixed.ne_str_int (qM I q (by simp))
  |str j=>obtain⟨t',rfl⟩:=ry;exact ne_str (qM I q (congrArg not qdE))
  |_=>exact absurd (show false=true from hs) yal
 |byt i=>
  obtain⟨t,rfl⟩:=rx
  cases y with
  |byt j=>obtain⟨t',rfl⟩:=ry;exact PySem.W.ne_bytes (qM I q (congrArg not qdF))
  |_=>exact absurd (show false=true from hs) yal
 |_=>cases y<;>exact absurd (show false=true from hs) yal
theorem qiX:OpR X (yaI .Lt) (rI0 λi j => .bl (decide (i<j))):=qkE λ_ _ _ _ _ _ _ q=>lt_int q
theorem qg1:OpR X (yaI .LtE) (rI0 λi j => .bl (decide (i<=j))):=qkE λ_ _ _ _ _ _ _ q=>le_int q
theorem qcQ:OpR X (yaI .Gt) (rI0 λi j => .bl (decide (j<i))):=qkE λ_ _ _ _ _ _ _ q=>gt_int q
theorem qk5:OpR X (yaI .GtE) (rI0 λi j => .bl (decide (j<=i))):=qkE λ_ _ _ _ _ _ _ q=>ge_int q
theorem qgi:OpR X (yaI .Is) (λx y H Q=>y=.non/\Q (.bl (decide (x=.non))) H):=by
 intro pins s σ H x y v u Q I rx ry h
 obtain⟨rfl,q⟩:=h
 cases ry
 refine is_none_gen (qM I q ?_)
 cases x<;>first
  |(cases rx;rfl)
  |(obtain⟨t,rfl⟩:=rx;rfl)
theorem OpR.or {f:Value->Value->Sem Value} {r r':R2} (h:OpR X f r) (h':OpR X f r'):OpR X f (λx y H Q=>r x y H Q\/r' x y H Q):=by
 intro pins s σ H x y v u Q I rx ry q
 rcases q with q|q
 ·exact h pins s σ H x y v u Q I rx ry q
 ·exact h' pins s σ H x y v u Q I rx ry q
theorem qW (b:Expr) {op:CmpOp} (h:op ≠ .In:=by decide) (h2:op ≠ .NotIn:=by decide):ybs op b=false:=by
 have e1:(op==CmpOp.In)=false:=by cases op<;>first|rfl|exact absurd rfl h
 have e2:(op==CmpOp.NotIn)=false:=by cases op<;>first|rfl|exact absurd rfl h2
 cases b<;>simp[ybs,e1,e2]
theorem qg2 {op:CmpOp} {r:R2} (ho:OpR X (yaI op) r) (ha:PE X a ta) (hb:PE X b tb) (hm:ybs op b=false):PE X (.Compare a [op] [b] pos) (tOp r ta tb):=by
 intro pins s σ H Q I h
 exact wpAny_Compare1 (qk0 ha hb I h λv u s2 x y H2 I2 rx ry q=>ho pins s2 σ H2 x y v u Q I2 rx ry q) hm
def qk6(t:TE):TT:=λσ H Q=>t σ H λx H'=>∃k,x=.bl k/\Q k H'
theorem qg3 {op:CmpOp} {r:R2} (ho:OpR X (yaI op) r) (ha:PE X a ta) (hb:PE X b tb) (hm:ybs op b=false):PT X (.Compare a [op] [b] pos) (qk6 (tOp r ta tb)):=by
 intro pins s σ H Q I h
 refine yei (thn (ha pins s σ H _ I h) λv s1 ⟨x,H1,I1,r1,q1⟩=>thn (hb pins s1 σ H1 _ I1 q1) λu s2 ⟨y,H2,I2,r2,q2⟩=>
  thn (ho pins s2 σ H2 x y v u _ I2 r1 r2 q2) λc s3 ⟨z,H3,I3,r3,k,e,q3⟩=>?_) hm
 subst e
 cases r3
 exact ya9 ⟨H3,I3,q3⟩
def qgj (r r':R2) (ta tb tc:TE):TE:=λσ H Q=>ta σ H λx H1=>tb σ H1 λy H2=>r x y H2 λz H3=>∃k,z=.bl k /\
 (if k=true then tc σ H3 λw' H4=>r' y w' H4 Q else Q (.bl false) H3)
theorem qfd {op op':CmpOp} {r r':R2} (ho:OpR X (yaI op) r) (ho':OpR X (yaI op') r') (ha:PE X a ta) (hb:PE X b tb) (hc:PE X c tc)
  (hm:lastMarks [op,op'] [b,c]=false:=by with_unfolding_all rfl):PE X (.Compare a [op,op'] [b,c] pos) (qgj r r' ta tb tc):=by
 intro pins s σ H Q I h
 refine Compare_chain (thn (ha pins s σ H _ I h) λv s1 ⟨x,H1,I1,r1,q1⟩=>chain_link (thn (hb pins s1 σ H1 _ I1 q1) λu s2 ⟨y,H2,I2,r2,q2⟩=>
  thn (ho pins s2 σ H2 x y v u _ I2 r1 r2 q2) λd s3 ⟨z,H3,I3,r3,k,e,q3⟩=>?_)) hm
 subst e
 cases r3
 refine ya9 ?_
 cases k with
 |false=>exact ite_ff ⟨.bl false,H3,I3,rfl,q3⟩
 |true=>exact ite_tt (chain_last (thn (hc pins s3 σ H3 _ I3 q3) λw' s4 ⟨z',H4,I4,r4,q4⟩=>ho' pins s4 σ H4 y z' u w' Q I4 r2 r4 q4))
theorem qaT:(yas:Nat)<2 ^ 63:=by rw[ybz];decide
theorem qcR:OpR X (ya3 .Add) (λx y H Q=>∃i j,x=.str i/\y=.str j/\i.length+j.length<=yas/\Q (.str (i++j)) H):=by
 intro pins s σ H x y v u Q I rx ry h
 obtain⟨i,j,rfl,rfl,hz,q⟩:=h
 obtain⟨t,rfl⟩:=rx
 obtain⟨t',rfl⟩:=ry
 exact add_str (λt' tk=>⟨.str (i++j),H,I.tok _,⟨_,rfl⟩,q⟩) hz
theorem qcS {x:V} {us:List Value} (r:qK [x] us):∃u,us=[u]/\zU x u:=by
 cases r with
 |cons r1 r2=>cases r2;exact⟨_,rfl,r1⟩
theorem qg4 {x y:V} {us:List Value} (r:qK [x,y] us):∃u w',us=[u,w']/\zU x u/\zU y w':=by
 cases r with
 |cons r1 r2=>
  cases r2 with
  |cons r3 r4=>cases r4;exact⟨_,_,rfl,r1,r3⟩
theorem qdG (hc:X.calm=true):jO X (.builtin "max") (λxs H Q=>∃i j,xs=[.int i,.int j]/\Q (.int (if j>i then j else i)) H):=by
 intro pins s σ H xs us Q I r h
 obtain⟨i,j,rfl,q⟩:=h
 obtain⟨u,w',rfl,⟨t,rfl⟩,⟨t',rfl⟩⟩:=qg4 r
 refine max_two_ints (I.ok.hd hc) λh' tk k=>⟨_,H,I.kept k,?_,q⟩
 by_cases hj:j>i
 ·rw[if_pos hj,if_pos hj];exact⟨_,rfl⟩
 ·rw[if_neg hj,if_neg hj];exact⟨_,rfl⟩
theorem qdH (hc:X.calm=true):jO X (.builtin "min") (λxs H Q=>∃i j,xs=[.int i,.int j]/\Q (.int (if j<i then j else i)) H):=by
 intro pins s σ H xs us Q I r h
 obtain⟨i,j,rfl,q⟩:=h
 obtain⟨u,w',rfl,⟨t,rfl⟩,⟨t',rfl⟩⟩:=qg4 r
 refine min_two_ints (I.ok.hd hc) λh' tk k=>⟨_,H,I.kept k,?_,q⟩
 by_cases hj:j<i
 ·rw[if_pos hj,if_pos hj];exact⟨_,rfl⟩
 ·rw[if_neg hj,if_neg hj];exact⟨_,rfl⟩
theorem qdI:jO X (.type "int") (λxs H Q=>(∃i,xs=[.int i]/\Q (.int i) H)\/∃k,xs=[.bl k]/\Q (.int (if k then 1 else 0)) H):=by
 intro pins s σ H xs us Q I r h
 rcases h with⟨i,rfl,q⟩|⟨k,rfl,q⟩
 ·obtain⟨u,rfl,t,rfl⟩:=qcS r
  exact call_int_int ⟨.int i,H,I,⟨_,rfl⟩,q⟩
 ·obtain⟨u,rfl,r1⟩:=qcS r
  cases r1
  exact call_int_bool ⟨.int (if k then 1 else 0),H,I.tok _,⟨_,rfl⟩,q⟩
theorem qby:jO X (.builtin "divmod") (λxs H Q=>∃i j,xs=[.int i,.int j]/\qiR i j/\∀p,H p=none->Q (.ref p) (upd H p (.tup [.int (i/j),.int (i%j)]))):=by
 intro pins s σ H xs us Q I r h
 obtain⟨i,j,rfl,⟨h1,h2⟩,q⟩:=h
 obtain⟨u,w',rfl,⟨t,rfl⟩,⟨t',rfl⟩⟩:=qg4 r
 refine divmod_int (by omega) ?_ (.inl (qlR h1 h2))
 rw[yds i (by omega),ydt i (by omega)]
 have hn:H s.heap.objs.size=none:=I.hok.fresh (yak _)
 refine⟨.ref s.heap.objs.size,_,?_,rfl,q _ hn⟩
 refine I.laid (λb o e=>Heap.get?_push_of_some _ e) (yak _) ⟨by simp only[lC_,lN_];rw[ybz];decide,[.int (i/j) s.toks,.int (i%j) (s.toks+1)],.cons ⟨_,rfl⟩ (.cons ⟨_,rfl⟩ .nil),?_⟩
 exact⟨_,Heap.get?_push_size s.heap rfl,rfl,0,rfl⟩
end
end L2
namespace L2
open PySem PySem.Spec PyProof.Rows
structure qk7 (h:Heap) (x dx C:Addr) (mA:Str->Option Value):Prop where
 obj:h.get? x=some (yd1 C dx)
 ns:h.Ns1 dx mA
 ne:dx≠x
theorem qdJ {h:Heap} {dx:Addr} {mA:Str->Option Value} (n:h.Ns1 dx mA):∃od,h.get? dx=some od/\∀name,yek name od=some (mA name):=by
 obtain⟨o,es,ep,ho,hd,hk,_,hm⟩:=n
 refine⟨o,ho,λname=>?_⟩
 have e:=hm name
 unfold nsFind findBy at e
 rw[<-Array.find?_toList]at e
 unfold yek
 rw[hd]
 dsimp only
 split
 ·rename_i y q
  rw[q]at e
  exact congrArg some e
 ·rename_i q
  rw[q]at e
  have a:es.toList.any (·.refKey)=false:=by
   rw[List.any_eq_false]
   intro y hy
   obtain⟨z,t,hkey⟩:=hk y (Array.mem_toList_iff.mp hy)
   simp[DictEntry.refKey,hkey]
  have a':¬es.toList.any (·.refKey)=true:=by rw[a];exact yal
  rw[if_neg a']
  exact congrArg some e
theorem qk7.look {h:Heap} {x dx C:Addr} {mA:Str->Option Value} (I:qk7 h x dx C mA):∃od,PySem.W.InstAt h x (yd1 C dx) C (some od)/\∀name,yek name od=some (mA name) :=
 let ⟨od,ho,hl⟩:=qdJ I.ns
 ⟨od,⟨I.obj,rfl,rfl,ho⟩,hl⟩
section
variable{prog:yap}{w:World}{A:yar}{E:Value->yab->Prop}{s:yab}{K:yai}{x dx C f:Addr}{mA:Str->Option Value}{name:Str}{v:Value}
end
def qmB (f:Str) (v:V):List (Str×V)->List (Str×V)
 | []=>[(f,v)]
 |(g,x)::r=>if g=f then(g,v)::r else(g,x)::qmB f v r
section
variable{P:yap}{w:World}{H H':Hp}{h h':Heap}{a C dx:Addr}{fs fs':List (Str×V)}
theorem qg5 (hok:HOk P w H h) (e:H a=some (.ins C dx fs)):∃mA,qk7 h a dx C mA/\(∀f,qkP (fs.lookup f) (mA f))/\PySem.Within mA (fs.map (·.1))/\fs.length<=1000/\H dx=some (.own a):=by
 obtain⟨d,z,ne,ob,mA,n,r,q⟩:=(show jx P w H h a (.ins C dx fs)from hok a _ e)
 exact⟨mA,⟨ob,n,ne⟩,r,q,z,d⟩
end
structure Cls (K:yai) (C:Addr):Prop where
 pg:PySem.W.plainGet K C Str.empty=true
 hd:PySem.W.hasDictIn K C=true
 po:PySem.W.plainOver K C=true
 sa:ybw K (.ref C) "__setattr__"=some (some (.builtin "object.__setattr__"))
theorem Cls.get{K:yai}{C:Addr}(c:Cls K C)(f:Str):PySem.W.plainGet K C f=true:=c.pg
structure Con (K:yai) (C:Addr) (f:Str) (v:V) (u:Value):Prop where
 at_:ybw K (.ref C) f=some (some u)
 rel:zU v u
 get:yfh K u "__get__"=some none
 cp:PySem.W.copiedNames.contains f=false
structure qmT (K:yai) (C:Addr) (m:Str) (f:Addr):Prop where
 at_:ybw K (.ref C) m=some (some (.ref f))
 fn:PySem.W.isFn K (.ref f)=true
 kp:yam K (.ref f)=true
section
variable{X:Cx}{pins:List (Addr×Obj)}{σ:St}{H:Hp}{s:yab}{a C dx:Addr}{fs:List (Str×V)}{f:Str}{v:V}{A:yar}{E:Value->yab->Prop}
end
section
variable{X:Cx}{o e value:Expr}{f:Str}{pos pos' tpos:Pos}{ta tv:TE}
end
section
variable{X:Cx}{pins:List (Addr×Obj)}{σ:St}{H:Hp}{s:yab}{A:yar}{E:Value->yab->Prop}{Q:Value->yab->Prop}{c:Value}{b:Bool}
inductive qds (K:yai) (H:Hp):V->Value->Prop where
 |non:qds K H .non (.type "NoneType")
 |bl (x:Bool):qds K H (.bl x) (.type "bool")
 |int (i:Int):qds K H (.int i) (.type "int")
 |str (x:Str):qds K H (.str x) (.type "str")
 |flt (x:UInt64):qds K H (.flt x) (.type "float")
 |lst {a:Addr} {xs:List V} (e:H a=some (.lst xs)):qds K H (.ref a) (.type "list")
 |frz {a:Addr} {o:Obj} {xs:List V} (e:H a=some (.frz o (.lst xs))):qds K H (.ref a) (.type "list")
 |tup {a:Addr} {xs:List V} (e:H a=some (.tup xs)):qds K H (.ref a) (.type "tuple")
 |dK {a:Addr} {kvs:List (Key×V)} (e:H a=some (.dK kvs)):qds K H (.ref a) (.type "dict")
 |dT {a:Addr} {kvs:List (List Key×V)} (e:H a=some (.dT kvs)):qds K H (.ref a) (.type "dict")
 | ins {a C dx:Addr} {fs:List (Str×V)} (e:H a=some (.ins C dx fs)) (cl:Cls K C) (ha:ybw K (.ref C) "__class__"=some (some (.builtin "object.__class__")))
   (hn:yfh K (.builtin "object.__class__") "__get__"=some (some (.builtin "getset_descriptor.__get__"))) (htk:PySem.W.takesIn K (.builtin "object.__class__")=some true)
   (hm:PySem.W.mroIn K C (.type "object")=some true):qds K H (.ref a) (.ref C)
theorem yd {x:V} {u t:Value} (I:Inv X pins σ H s) (rx:zU x u) (ty:qds X.K H x t) (e:yel X.K t c=some b) (h:∀tk,Q (.bool b) {s with toks:=tk}) :
  wpAny (model X.prog X.w) A (call (.builtin "isinstance") [u,c]) Q E s:=by
 cases ty with
 |non=>cases (show u=yau from rx);exact yaQ PySem.W.kitx_none I.kIn ybV e (λz=>nomatch z) h
 |bl y=>cases (show u=yaY y from rx);exact yaQ PySem.W.kitx_bool I.kIn ybV e (λz=>nomatch z) h
 |int i=>obtain⟨t,q⟩:=(show ∃t,u=yci i t from rx);cases q;exact yaQ PySem.W.kitx_int I.kIn ybV e (λz=>nomatch z) h
 |str y=>obtain⟨t,q⟩:=(show ∃t,u=Value.str y t from rx);cases q;exact yaQ PySem.W.kitx_str I.kIn ybV e (λz=>nomatch z) h
 |flt y=>obtain⟨t,q⟩:=(show ∃t,u=Value.float y t from rx);cases q;exact yaQ PySem.W.kitx_float I.kIn ybV e (λz=>nomatch z) h
 | @lst a xs ea=>
  cases (show u=yad a from rx)
  obtain⟨_,_,n,_,h1⟩:=(show jx X.prog X.w H s.heap a (.lst xs)from I.hok a _ ea)
  exact yaQ ydA I.kIn ⟨_,h1,rfl⟩ e (λz=>nomatch z) h
 | @frz a ob xs ea=>
  cases (show u=yad a from rx)
  obtain⟨_,_,_,n,_,h1⟩:=(show jx X.prog X.w H s.heap a (.frz ob (.lst xs))from I.hok a _ ea)
  exact yaQ ydA I.kIn ⟨_,h1,rfl⟩ e (λz=>nomatch z) h
 | @tup a xs ea=>
  cases (show u=yad a from rx)
  obtain⟨_,_,_,p⟩:=(show jx X.prog X.w H s.heap a (.tup xs)from I.hok a _ ea)
  obtain⟨o,h1,h2,_⟩:=p
  exact yaQ yeX I.kIn ⟨o,h1,h2⟩ e (λz=>nomatch z) h
 | @dK a kvs ea=>
  cases (show u=yad a from rx)
  obtain⟨_,_,vs,_,p⟩:=(show jx X.prog X.w H s.heap a (.dK kvs)from I.hok a _ ea)
  obtain⟨o,es,ep,h1,h2,_⟩:=p
  exact yaQ yfi I.kIn ⟨o,h1,h2.1⟩ e (λz=>nomatch z) h
 | @dT a kvs ea=>
  cases (show u=yad a from rx)
  obtain⟨_,_,xs,_,o,es,ep,h1,h2,_⟩:=(show jx X.prog X.w H s.heap a (.dT kvs)from I.hok a _ ea)
  exact yaQ yfi I.kIn ⟨o,h1,h2.1⟩ e (λz=>nomatch z) h
 | @ins a C dx fs ea cl ha hn htk hm=>
  cases (show u=yad a from rx)
  obtain⟨mA,O,_⟩:=qg5 I.hok ea
  obtain⟨od,J,_⟩:=O.look
  exact yaQ (PySem.W.kitx_own (cl.get _) cl.hd ha hn htk hm) I.kIn J e (λz=>nomatch z) h
end
end L2
namespace L2
open PySem PySem.Spec PyProof.Rows
structure yn (k:Nat) (A:yar):Prop where
 hd:A.handled=none
 dp:A.depth+3*k+5<ydc
 un:A.units+16*k+200<cLine
 gd:A.guards=some []
theorem yn.mono{j k:Nat}{A:yar}(r:yn k A)(h:j<=k):yn j A:=⟨r.hd,by have:=r.dp;omega,by have:=r.un;omega,r.gd⟩
theorem yn.deeper {k:Nat} {A:yar} (r:yn (k+1) A) (env:Env):yn k (A.deeper env) :=
 ⟨r.hd,by have:=r.dp;show A.depth+1+3*k+5<_;omega,by have:=r.un;show A.units+3+16*k+200<_;omega,r.gd⟩
theorem yn.depth{k:Nat}{A:yar}(r:yn k A):A.depth<ydc:=by have:=r.dp;omega
theorem yn.units{k:Nat}{A:yar}(r:yn k A):A.units+64<cLine:=by have:=r.un;omega
def qlT:TA:=λ_ H Q=>Q [] H
def qg6(ta:TE)(tr:TA):TA:=λσ H Q=>ta σ H λx H1=>tr σ H1 λxs H2=>Q (x::xs) H2
section
variable{X:Cx}{e:Expr}{es:List Expr}{te:TE}{t:TA}{pos:Pos}
theorem vQ:PA X [] qlT:=λ_ _ _ _ H Q I h=>yfj ⟨[],H,I,.nil,h⟩
theorem jP (ha:PE X e te) (hr:PA X es t) (hs:yae (e::es) X.env=(false,eval e X.env)::yae es X.env:=by rfl):PA X (e::es) (qg6 te t):=by
 intro pos pins s σ H Q I h
 rw[hs]
 show wpAny _ _ (spliced ((false,eval e X.env)::yaO pos (yae es X.env))) _ _ s
 refine yeY (thn (ha pins s σ H _ I h) λu s1 ⟨x,H1,I1,r1,q1⟩=>?_)
 exact thn (hr pos pins s1 σ H1 _ I1 q1) λus s2 ⟨xs,H2,I2,r2,q2⟩=>⟨x::xs,H2,I2,.cons r1 r2,q2⟩
def qmC(t:TA):TE:=λσ H Q=>t σ H λxs H1=>xs.length<=yas/\∀p,H1 p=none->Q (.ref p) (upd H1 p (.tup xs))
def qmD(t:TA):TE:=λσ H Q=>t σ H λxs H1=>xs.length<=yas/\∀p,H1 p=none->Q (.ref p) (upd H1 p (.lst xs))
theorem qiY {x1} (h:PA X es t):PE X (.Tuple es x1 pos) (qmC t):=by
 intro pins s σ H Q I hq
 refine wpAny_Tuple_spliced (thn (h pos pins s σ H _ I hq) λus s1 ⟨xs,H1,I1,r,z,q⟩=>⟨by rw[<-r.length];exact z,?_⟩)
 have hf:H1 s1.heap.objs.size=none:=I1.hok.fresh (yak _)
 refine⟨.ref s1.heap.objs.size,upd H1 s1.heap.objs.size (.tup xs),I1.laid (t':=s1.toks) (λb u e=>Heap.get?_push_of_some _ e) (yak _) ?_,rfl,q _ hf⟩
 exact⟨z,us,r,⟨_,Heap.get?_push_size _ rfl,rfl,_,rfl⟩⟩
theorem qgk (h:PA X es t):PE X (.List es pos) (qmD t):=by
 intro pins s σ H Q I hq
 refine wpAny_List_spliced (thn (h pos pins s σ H _ I hq) λus s1 ⟨xs,H1,I1,r,z,q⟩=>⟨by rw[<-r.length];exact z,?_⟩)
 have hf:H1 s1.heap.objs.size=none:=I1.hok.fresh (yak _)
 refine⟨.ref s1.heap.objs.size,upd H1 s1.heap.objs.size (.lst xs),I1.laid (t':=s1.toks) (λb u e=>Heap.get?_push_of_some _ e) (yak _) ?_,rfl,q _ hf⟩
 exact⟨z,us,0,r,Heap.get?_push_size _ rfl⟩
end
abbrev Sp:=List V->Hp->VK->XK->Prop
abbrev CXT:=List Env->Hp->yab->XK->Value->yab->Prop
structure qit (P:yap) (w:World) (K:yai) (mg:Str->Option Value) (base:Heap) (A:yar) (outer:List Env) (s:yab) (H:Hp):Prop where
 frames:A.frames=some outer
 mod:Mod K mg base
 bs:∀b o,base.get? b=some o->s.heap.get? b=some o/\H b=none
 bsz:base.objs.size<=s.heap.objs.size
 funs:s.heap.FunFrames base outer
 frf:∀b∈frs outer,H b=none
 hok:HOk P w H s.heap
 bare:yb8 s.gens
def CE (outer:List Env) (P:yap) (w:World) (H:Hp) (s:yab) (Q:VK) (u:Value) (s':yab):Prop :=
 ∃v H',s'.os=s.os/\yb8 s'.gens/\Un (frs outer) [] H H' s.heap s'.heap/\HOk P w H' s'.heap/\zU v u/\Q v H'
def CR (CX:CXT) (outer:List Env) (P:yap) (w:World) (H:Hp) (s:yab) (Q:VK) (E:XK) (r:ydN) (s':yab):Prop :=
 match r with
 |.ok (.ret u)=>CE outer P w H s Q u s'
 |.ok _=>False
 |.error e=>CX outer H s E e s'
structure uv (P:yap) (w:World) (K:yai) (mg:Str->Option Value) (base:Heap) (CX:CXT) (k:Nat) (f:Addr) (fd:yaN) (ps:List Str) (sp:Sp):Prop where
 len:∀vs H Q E,sp vs H Q E->vs.length=ps.length
 run:∀(A:yar)(outer:List Env)(s:yab)(H:Hp)(args:Args)(us:List Value)(vs:List V)(Q:VK)(E:XK),yn k A->qit P w K mg base A outer s H->ydJ s fd args (ps.zip us)->qK vs us->sp vs H Q E ->
  ybp (model P w) A (.call (.ref f) args) (CR CX outer P w H s Q E) s
section
variable{X:Cx}{pins:List (Addr×Obj)}{σ:St}{H:Hp}{s s':yab}
theorem Inv.env0 (I:Inv X pins σ H s):qit X.prog X.w X.K X.mg X.base X.A X.stack s H :=
 ⟨I.ok.frames,I.ok.mod,I.bs,yaJ I.ok.bsz I.sz,I.stack,I.stkFree,I.hok,I.bare⟩
theorem Inv.after {Q:VK} {u:Value} (I:Inv X pins σ H s) (h:CE X.stack X.prog X.w H s Q u s'):EP X pins σ Q u s':=by
 obtain⟨v,H',os,bare,un,hok,r,q⟩:=h
 obtain⟨hh,g,d,t,os'⟩:=s'
 obtain rfl:os'=s.os:=os
 exact⟨v,H',I.call (h':=hh) (g':=g) (d':=d) (t':=t) (ch:=[]) un hok bare (λb z=>absurd z (by simp)),r,q⟩
end
def qk8(sp:Sp)(dvs:List V)(E:XK)(t:TA):TE:=λσ H Q=>t σ H λvs H1=>sp (vs++dvs) H1 Q E
def yF (K:yai) (fd:yaN) (ps:List Str) (ds:List Value):Prop :=
 ∀(s:yab)(us:List Value),K.In s.heap->(us++ds).length=ps.length->ydJ s fd ⟨us,[]⟩ (ps.zip (us++ds))
theorem yF.all {K:yai} {fd:yaN} {ps:List Str} (h:∀us:List Value,us.length=ps.length->bindArgs fd ⟨us,[]⟩=pure (ps.zip us)):yF K fd ps []:=λs us _ hl=>by
 rw[ya4]at hl |-
 exact .of_eq (h us hl)
def vR(CX:CXT)(X:Cx)(E:XK):Prop:=∀(pins:List (Addr×Obj))(σ:St)(H:Hp)(s:yab)(e:Value)(s':yab),Inv X pins σ H s->CX X.stack H s E e s'->X.xe e s'
section
variable{X:Cx}{CX:CXT}{k:Nat}{f C:Addr}{fd:yaN}{ps:List Str}{sp:Sp}{dvs:List V}{ds:List Value}{E:XK}{x m:Str}{p pos apos:Pos}{e o:Expr}{es:List Expr}{ta:TE}{t:TA}
theorem qiZ {pins:List (Addr×Obj)} {σ:St} {H:Hp} {s:yab} {Q:VK} {us:List Value} {vs:List V} (F:uv X.prog X.w X.K X.mg X.base CX k f fd ps sp) (hr:yn k X.A) (hb:yF X.K fd ps ds) (hd:qK dvs ds) (hx:vR CX X E)
  (I:Inv X pins σ H s) (r:qK vs us) (h:sp (vs++dvs) H Q E):wpAny (model X.prog X.w) X.A (call (.ref f) us) (EP X pins σ Q) X.xe s:=by
 have r2:qK (vs++dvs) (us++ds):=r.append hd
 have hl:(us++ds).length=ps.length:=by rw[<-r2.length];exact F.len _ _ _ _ h
 refine wpAny_call (ydO (F.run X.A X.stack s H ⟨us,[]⟩ (us++ds) (vs++dvs) Q E hr I.env0 (hb s us I.kIn hl) r2 h) λr s' hq=>?_)
 cases r with
 |error e=>exact hx pins σ H s e s' I hq
 |ok fl=>
  cases fl with
  |ret u=>exact I.after hq
  |next=>exact yaS hq
  |brk=>exact yaS hq
  |cont=>exact yaS hq
theorem vS (F:uv X.prog X.w X.K X.mg X.base CX k f fd ps sp) (hr:yn k X.A) (hg:Gl X x) (hm:X.mg x=some (.ref f)) (hk:yam X.K (.ref f)=true) (hb:yF X.K fd ps ds) (hd:qK dvs ds) (hx:vR CX X E)
  (ha:PA X (e::es) t) (hdb:(x==("__debug__":Str))=false:=by decide) (he:yae (e::es) X.env=(false,eval e X.env)::yae es X.env:=by rfl) (hpl:(yaO pos (yae es X.env)).any (·.1)=false:=by rfl) :
  PE X (.Call (.Name x p) (e::es) [] pos) (qk8 sp dvs E t):=by
 intro pins s σ H Q I h
 refine ybW (vO I hg hm ?_ hdb)
 refine yeZ (h₀:=X.base) I.ok.mod.kin hk (thn (ha pos pins s σ H _ I h) λus s1 ⟨vs,H1,I1,r,q⟩=>⟨I1.kIn,?_⟩) he hpl
 exact qiZ F hr hb hd hx I1 r q
structure Mk (K:yai) (C f:Addr):Prop where
 makes:PySem.W.makesIn K C=true
 init:ybw K (.ref C) "__init__"=some (some (.ref f))
 fn:PySem.W.isFn K (.ref f)=true
 kp:yam K (.ref C)=true
end
section
variable{X:Cx}{CX:CXT}{k:Nat}{f C:Addr}{fd:yaN}{ps ks:List Str}{sp:Sp}{E:XK}{x m:Str}{p pos apos kpos:Pos}{e o:Expr}{es:List Expr}{kws:List yff}{te ta:TE}{t tk:TA}{nm:Option Str}
variable{g:List Value->List Value->List Value}{gV:List V->List V->List V}
end
structure qy (N P:List Str) (sc:Scope):Prop where
 kind:sc.kind=.function
 co:sc.isCoroutine=false
 gen:sc.isGenerator=false
 nd:N.Nodup
 pre:N.take P.length=P
 par:∀x∈P,sc.names.lookup x=some .local\/sc.names.lookup x=some .cell
 nofree:∀y∈sc.names,y.2 ≠ .free
theorem qaU {yb2:Str->Option ybZ} {x:Str}:∀{binds:List (Str×Value)}{m:Str->Option Value},(∀v,(x,v) ∉ binds)->bindL yb2 binds m x=m x
 | [],_,_=>rfl
 | (n,v)::r,m,h=>by
  unfold bindL
  rw[qaU λw hw=>h w (mM _ hw)]
  split
  ·have:x≠n:=by rintro rfl;exact h v mS_
   simp[this]
  ·rfl
theorem qaV {yb2:Str->Option ybZ} {x:Str}:∀{binds:List (Str×Value)}{m:Str->Option Value},(∀v,(x,v) ∉ binds)->bindC yb2 binds m x=m x
 | [],_,_=>rfl
 | (n,v)::r,m,h=>by
  unfold bindC
  rw[qaV λw hw=>h w (mM _ hw)]
  split
  ·rfl
  ·have:x≠n:=by rintro rfl;exact h v mS_
   simp[this]
theorem vT {yb2:Str->Option ybZ} {x:Str} {v:Value}:∀{P:List Str}{vs:List Value}{i:Nat}{m:Str->Option Value},P.Nodup->P[i]? = some x->vs[i]? = some v->yb2 x=some .local ->
  bindL yb2 (P.zip vs) m x=some v
 | [],_,_,_,_,h,_,_=>by simp at h
 |_::_,[],_,_,_,_,h,_=>by simp at h
 |p::P,w::vs,0,m,nd,h1,h2,hk=>by
  simp at h1 h2;subst h1;subst h2
  show bindL yb2 ((p,w)::P.zip vs) m p=_
  unfold bindL
  rw[qaU λv hv=>(List.nodup_cons.mp nd).1 (ybD hv).1,if_pos hk]
  simp
 |p::P,w::vs,i+1,m,nd,h1,h2,hk=>by
  show bindL yb2 ((p,w)::P.zip vs) m x=_
  unfold bindL
  exact vT (i:=i) (List.nodup_cons.mp nd).2 (by simpa using h1) (by simpa using h2) hk
theorem vU {yb2:Str->Option ybZ} {x:Str} {v:Value}:∀{P:List Str}{vs:List Value}{i:Nat}{m:Str->Option Value},P.Nodup->P[i]? = some x->vs[i]? = some v->yb2 x≠some .local ->
  bindC yb2 (P.zip vs) m x=some v
 | [],_,_,_,_,h,_,_=>by simp at h
 |_::_,[],_,_,_,_,h,_=>by simp at h
 |p::P,w::vs,0,m,nd,h1,h2,hk=>by
  simp at h1 h2;subst h1;subst h2
  show bindC yb2 ((p,w)::P.zip vs) m p=_
  unfold bindC
  rw[qaV λv hv=>(List.nodup_cons.mp nd).1 (ybD hv).1,if_neg hk]
  simp
 |p::P,w::vs,i+1,m,nd,h1,h2,hk=>by
  show bindC yb2 ((p,w)::P.zip vs) m x=_
  unfold bindC
  exact vU (i:=i) (List.nodup_cons.mp nd).2 (by simpa using h1) (by simpa using h2) hk
def ze(N:List Str)(vs:List V):St:=vs.map some++yag (N.length-vs.length) none
def qeZ (CX:CXT) (P:yap) (w:World) (K:yai) (mg:Str->Option Value) (base:Heap) (N:List Str) (qual:Str) (scope:Scope) (f:Addr) (cd:Value) (A:yar) (outer:List Env) (s:yab) (H:Hp) (E:XK):Cx where
 prog:=P
 w:=w
 K:=K
 mg:=mg
 base:=base
 A:=A.deeper (ya0 qual scope s.heap.objs.size f cd)
 N:=N
 s₀:=s
 H₀:=H
 env:=ya0 qual scope s.heap.objs.size f cd
 outer:=outer
 stack:=ya0 qual scope s.heap.objs.size f cd::outer
 ex:=[]
 calm:=true
 fn:=λ_=>true
 pn:=[]
 xe:=λe s'=>wpAny (model P w) (A.deeper (ya0 qual scope s.heap.objs.size f cd)) (ydd (ya0 qual scope s.heap.objs.size f cd) e) (λ_ s''=>CX outer H s E e s'') (λe' s''=>CX outer H s E e' s'') s'
theorem vy {sc:Scope} {n:Nat} {x:Str} (h:sc.names.lookup x=some .cell):∃c,(ycj n sc.names []).lookup x=some c:=by
 have q:=ycB sc.names n [] (.inl h)
 exact Option.isSome_iff_exists.mp q
theorem qdK {CX:CXT} {P:yap} {w:World} {K:yai} {mg:Str->Option Value} {base:Heap} {N ps:List Str} {qual:Str} {scope:Scope} {f:Addr} {cd:Value} {A:yar} {outer:List Env} {s s1:yab} {H:Hp} {E:XK} {us:List Value} {vs:List V}
  (S:qy N ps scope) (hd:A.handled=none) (e0:qit P w K mg base A outer s H) (hl:vs.length=ps.length) (r:qK vs us)
  (x:InCallC s s.heap.objs.size (bindL (ya0 qual scope s.heap.objs.size f cd).kindOf (ps.zip us) λ_=>none) (ycj (s.heap.objs.size+1) scope.names []) (bindC (ya0 qual scope s.heap.objs.size f cd).kindOf (ps.zip us) λ_=>none) s1) :
  Inv (qeZ CX P w K mg base N qual scope f cd A outer s H E) [] (ze N vs) H s1:=by
 have hpl:ps.length<=N.length:=by have:=congrArg List.length S.pre;rw[ybx]at this;omega
 obtain⟨h1,tk,rfl,hk⟩:=x.done
 have noA:∀b:Addr,b ∉ (qeZ CX P w K mg base N qual scope f cd A outer s H E).ex:=λb z=>absurd (show b∈([]:List Addr)from z) (by simp)
 refine ⟨⟨e0.mod,S.kind,rfl,rfl,yak _,λy z c h1 h2=>?_,λy hy=>?_,λy c _ h=>?_,λ_=>hd,yez e0.frames,.inr ⟨rfl,rfl⟩,λb z=>absurd z (noA b),e0.bs,e0.bsz,λb _ _=>noA b,λb z=>absurd z (noA b),e0.funs,e0.frf⟩,
  rfl,e0.bare,Un.kept hk,⟨_,x.toInCall.ns,λi y v h1 h2 h3=>?_⟩,λy c h=>⟨_,x.cell y c h⟩,e0.hok.fresh (yak _),λy c h=>?_,λp hp=>absurd (show p∈([]:List (Addr×Obj))from hp) (by simp),e0.hok.kept hk,?_⟩
 ·exact name_of_addr x.apart (yaL h1) (yaL h2)
 ·have hy:scope.names.lookup y=some .cell\/scope.names.lookup y=some .free:=hy
  rcases hy with hy|hy
  ·exact vy hy
  ·exact absurd rfl (S.nofree _ (yaL hy))
 ·exact ybN (x.above y c (yaL h))
 ·have hi:i<vs.length:=by
   unfold ze at h2
   by_cases hi:i<vs.length
   ·exact hi
   ·rw[List.getElem?_append_right (by simpa using hi)]at h2
    rw[List.getElem?_replicate]at h2
    split at h2<;>cases h2
  have ha:vs[i]? = some v:=by
   unfold ze at h2
   rw[List.getElem?_append_left (by simpa using hi),gM_]at h2
   cases e:vs[i]? with
   |none=>rw[e]at h2;cases h2
   |some a=>rw[e]at h2;cases h2;rfl
  obtain⟨u,hu,rv⟩:=r.get ha
  have hp:ps[i]? = some y:=by
   rw[<-S.pre,List.getElem?_take_of_lt (by omega)];exact h1
  have ndP:ps.Nodup:=by rw[<-S.pre];exact S.nd.sublist (yfk _ _)
  refine⟨u,rv,?_⟩
  rcases S.par y (ycY hp)with k|k
  ·exact .inl ⟨k,vT ndP hp hu k⟩
  ·obtain⟨c,e⟩:=vy (n:=s.heap.objs.size+1) k
   refine .inr ⟨.inl k,c,e,?_⟩
   have q:=x.cell y c e
   rw[vU ndP hp hu (by show scope.names.lookup y≠_;rw[k];decide)]at q
   exact q
 ·exact e0.hok.fresh (ybN (x.above y c (yaL h)))
 ·unfold ze
  show _=N.length
  rw[lA_,lM_,yaK]
  omega
theorem qi0 {CX:CXT} {P:yap} {w:World} {K:yai} {mg:Str->Option Value} {base:Heap} {k:Nat} {f:Addr} {name qual:Str} {params:yd4} {body:List Stmt} {scope:Scope} {dV kV doc pm cdv ct oc:Value} {an od:Option Addr}
  {osl:Array (Option Value)} {N ps:List Str} {sp:Sp} (lk:K.lookup f=some ⟨oc,od,.func (yav name qual params body scope dV kV doc pm an cdv ct),osl⟩) (hcd:yaw K cdv qual=true) (S:qy N ps scope)
  (len:∀vs H Q E,sp vs H Q E->vs.length=ps.length)
  (hbody:∀(A:yar)(outer:List Env)(s:yab)(H:Hp)(vs:List V)(Q:VK)(E:XK),yn k (A.deeper (ya0 qual scope s.heap.objs.size f cdv))->sp vs H Q E ->
   ∃t,PSs (qeZ CX P w K mg base N qual scope f cdv A outer s H E) body t/\t {nx:=λ_ H'=>Q .non H',rt:=Q} (ze N vs) H) :
  uv P w K mg base CX (k+1) f (yav name qual params body scope dV kV doc pm an cdv ct) ps sp:=by
 refine⟨len,λA outer s H args us vs Q E hr e0 hb r hsp=>?_⟩
 have hl:=len _ _ _ _ hsp
 have KX:K.In s.heap:=e0.mod.kin.keeps λb o e=>(e0.bs b o e).1
 have lim:s.heap.NoLimit:=e0.mod.nolimit.keeps λb o e=>(e0.bs b o e).1
 have hkind:∀y∈ps.zip us,scope.names.lookup y.1=some .local\/(scope.names.lookup y.1=some .cell/\((ycj (s.heap.objs.size+1) scope.names []).lookup y.1).isSome=true):=λ⟨n,v⟩ hy=>by
  rcases S.par n (ybD hy).1 with q|q
  ·exact .inl q
  ·exact .inr ⟨q,ycB _ _ _ (.inl q)⟩
 refine yem hr.depth (KX _ _ lk) rfl S.co S.gen rfl (ye0 KX hcd) (hb _ _ _ _ ?_)
 refine ydu S.kind hkind λenv he s1 x=>?_
 subst he
 refine⟨lim.keeps x.toInCall.keep,codeAny_func ?_⟩
 obtain⟨t,ht,hq⟩:=hbody A outer s H vs Q E (hr.deeper _) hsp
 have I:Inv (qeZ CX P w K mg base N qual scope f cdv A outer s H E) [] (ze N vs) H s1:=qdK S hr.hd e0 hl r x
 refine yaV (ht [] s1 (ze N vs) H _ I hq) (λfl s' hs=>?_) λe s' hs=>hs
 have fin:∀{σ':St}{H':Hp}{v:V}{u:Value},Inv (qeZ CX P w K mg base N qual scope f cdv A outer s H E) [] σ' H' s'->zU v u->Q v H'->CE outer P w H s Q u s' :=
  λ{σ' H' v u} J rv q=>⟨v,H',J.os,J.bare,J.base,J.hok,rv,q⟩
 cases fl with
 |ret u=>
  obtain⟨v,σ',H',J,rv,q⟩:=hs
  exact fin J rv q
 |next=>
  obtain⟨σ',H',J,q⟩:=hs
  exact fin (v:=V.non) (u:=yau) J rfl q
 |brk=>
  obtain⟨_,_,_,q⟩:=hs
  exact yaS q
 |cont=>
  obtain⟨_,_,_,q⟩:=hs
  exact yaS q
end L2
namespace L2
open PySem PySem.Spec PyProof.Rows
section
variable{X:Cx}{x:Str}{p pos:Pos}{e:Expr}{es:List Expr}{t:TA}{id T:String}{r:List V->Hp->VK->Prop}
def tCB(r:List V->Hp->VK->Prop)(t:TA):TE:=λσ H Q=>t σ H λvs H1=>r vs H1 Q
theorem vz (hc:jO X (.builtin id) r) (hg:Gl X x) (hm:X.mg x=none) (hv:yaA x=some (.builtin id)) (ha:PA X (e::es) t) (hn:x≠"__name__":=by decide) (hdb:(x==("__debug__":Str))=false:=by decide)
  (he:yae (e::es) X.env=(false,eval e X.env)::yae es X.env:=by rfl) (hpl:(yaO pos (yae es X.env)).any (·.1)=false:=by rfl):PE X (.Call (.Name x p) (e::es) [] pos) (tCB r t):=by
 intro pins s σ H Q I h
 refine ybW (vh I hg hm hv ?_ hn hdb)
 exact PyProof.Rows.callWith_builtin1 (thn (ha pos pins s σ H _ I h) λus s1 ⟨vs,H1,I1,r1,q1⟩=>hc pins s1 σ H1 vs us Q I1 r1 q1) he hpl
theorem qaW (hc:jO X (.type T) r) (hg:Gl X x) (hm:X.mg x=none) (hv:yaA x=some (.type T)) (ha:PA X (e::es) t) (hn:x≠"__name__":=by decide) (hdb:(x==("__debug__":Str))=false:=by decide)
  (he:yae (e::es) X.env=(false,eval e X.env)::yae es X.env:=by rfl) (hpl:(yaO pos (yae es X.env)).any (·.1)=false:=by rfl):PE X (.Call (.Name x p) (e::es) [] pos) (tCB r t):=by
 intro pins s σ H Q I h
 refine ybW (vh I hg hm hv ?_ hn hdb)
 exact yaX (thn (ha pos pins s σ H _ I h) λus s1 ⟨vs,H1,I1,r1,q1⟩=>hc pins s1 σ H1 vs us Q I1 r1 q1) he hpl
end
end L2
namespace HT
open PySem PyProof.Rows
def lexLt:List Int->List Int->Bool
 | [],[]=>false
 | [],_::_=>true
 |_::_,[]=>false
 |x::xs,y::ys=>if x=y then lexLt xs ys else decide (x<y)
theorem lexLt_cons(x y:Int)(xs ys:List Int):lexLt (x::xs) (y::ys)=if x=y then lexLt xs ys else decide (x<y):=rfl
theorem qaj:lexLt [] []=false:=rfl
theorem wU(y:Int)(ys:List Int):lexLt [] (y::ys)=true:=rfl
theorem wV(x:Int)(xs:List Int):lexLt (x::xs) []=false:=rfl
theorem qfe (A:yar) (s:yab) (a:Int) (t:Tok) (c:Int) (u:Tok):∃e,yfx A s (.int a t) (.int c u) e/\(e=true ↔ a=c) :=
 ⟨(a==c),ye1 a t c u,by simp⟩
theorem qff (A:yar) (s:yab) (a:Int) (t:Tok) (c:Int) (u:Tok) (prog:yap) (w:World) (E:Value->yab->Prop) (Q:Value->yab->Prop) (h:Q (.bool (decide (a<c))) s) :
  wpAny (model prog w) A (richCompare .Lt (.int a t) (.int c u)) Q E s :=
 (PyProof.Rows.lt_int h:wpAny (model prog w) A (yaI .Lt (.int a t) (.int c u)) Q E s)
section
open PySem.SeqAt
open PySem.AutoSeq1 (wpAny_loadPart')
open PySem.MeetsSeq PySem.MeetsSeq2 PySem.MeetsSeq3
theorem qak (l b:Addr) (items items2:Array Value) (n n2:Nat) (dd dd2:Option Addr) (sl sl2:Array (Option Value)) (ns ms:List Int) (hi:ybE items.toList ns) (hj:ybE items2.toList ms) :
  Meets (ybM.«tuple.__lt__» ⟨[.ref l,.ref b],[]⟩)
   (λ_ R s=>s.heap.get? l=some {cls:=.type "tuple",dict:=dd,data:=.seq items n,slots:=sl}/\s.heap.get? b=some {cls:=.type "tuple",dict:=dd2,data:=.seq items2 n2,slots:=sl2} /\
    R (.ok (.ret (.bool (lexLt ns ms)))) s) :=
 .of_wp λprog w A R s h=>by
  obtain⟨hp,g,d,tk,os⟩:=s;obtain⟨hl,hb,h⟩:=h
  have f2:=ybO
  have z1:items.size=ns.length:=by rw[<-hi.length];simp
  have z2:items2.size=ms.length:=by rw[<-hj.length];simp
  wp_walk using ybk hl,ybk hb,wpAny_forIn_list _ (λwZ b s'=>b.1=none/\s'=⟨hp,g,d,tk,os⟩/\∃(vs ws:List Value)(ns' ms':List Int),wZ=vs.zip ws /\
   ybE vs ns'/\ybE ws ms'/\ns'.length+items2.size=ms'.length+items.size/\R (.ok (.ret (.bool (lexLt ns' ms')))) ⟨hp,g,d,tk,os⟩) _
  case turn=>
   rintro⟨y,x⟩ wZ b s' ⟨hb',rfl,vs,ws,ns',ms',hz,hvi,hwi,hlen,hR⟩
   cases hvi with
   |nil=>rw[List.zip_nil_left]at hz;cases hz
   | cons a t hvi'=>
    cases hwi with
    |nil=>rw[List.zip_nil_right]at hz;cases hz
    | cons c u hwi'=>
     rw[ya5]at hz
     injection hz with hyx hrest
     injection hyx with hy hx
     subst hy hx
     rw[lexLt_cons]at hR
     simp only[lC_]at hlen
     obtain⟨e,he,hiff⟩:=qfe A.in1 ⟨hp,g,d,tk,os⟩ a t c u
     refine yaa (he prog w _ _ ?_)
     cases e with
     |true=>
      rw[if_pos (hiff.mp rfl)]at hR
      wp_walk
      exact⟨rfl,rfl,_,_,_,_,hrest,hvi',hwi',by omega,hR⟩
     |false=>
      rw[if_neg (λq=>absurd (hiff.mpr q) yal)]at hR
      have hri:=qff A.in1 ⟨hp,g,d,tk,os⟩ a t c u prog w
      wp_walk using hri
      exact⟨_,rfl,by simpa using hR⟩
  case fin=>
   rintro⟨b1,b2⟩ s' ⟨hb',rfl,vs,ws,ns',ms',hz,hvi,hwi,hlen,hR⟩
   simp only at hb'
   subst hb'
   have hv:lexLt ns' ms'=decide (items.size<items2.size):=by
    cases hvi with
    | nil=>
     cases hwi with
     |nil=>
      simp only[lN_]at hlen
      rw[qaj]
      exact(decide_eq_false (by omega)).symm
     |cons c u hw=>
      simp only[lN_,lC_]at hlen
      rw[wU]
      exact(decide_eq_true (by omega)).symm
    | cons a t hv=>
     cases hwi with
     |nil=>
      simp only[lN_,lC_]at hlen
      rw[wV]
      exact(decide_eq_false (by omega)).symm
     |cons c u hw=>
      rw[ya5]at hz
      cases hz
   rw[hv]at hR
   wp_walk
   exact⟨_,rfl,by simpa [Builtin.Tuple.tupleCompareSizes] using hR⟩
  case h=>
   exact⟨rfl,rfl,items.toList,items2.toList,ns,ms,rfl,hi,hj,by omega,h⟩
end
section
variable{prog:yap}{w:World}{A:yar}{E:Value->yab->Prop}{s:yab}
theorem lt_tupInts {l b:Addr} {items items2:Array Value} {ns ms:List Int} {Q:Value->yab->Prop} (hl:IsTup s.heap l items) (hb:IsTup s.heap b items2) (hi:ybE items.toList ns) (hj:ybE items2.toList ms)
  (hu:A.units<cLine) (h:Q (.bool (lexLt ns ms)) s):wpAny (model prog w) A (yaI .Lt (.ref l) (.ref b)) Q E s:=by
 obtain⟨⟨cls,dd,data,sl⟩,ho,hc,n,hd⟩:=id hl
 obtain⟨⟨cls2,dd2,data2,sl2⟩,ho2,hc2,n2,hd2⟩:=id hb
 simp only at hc hd hc2 hd2
 subst hc hd hc2 hd2
 exact richCompare_meets_room (op := .Lt) ⟨_,ho,rfl⟩ ⟨_,ho2,rfl⟩ PySem.F.slot_tuple_lt PySem.F.entry_tuple_lt (PySem.F.args_tuple_lt_2 _ _) (qak l b items items2 n n2 dd dd2 sl sl2 ns ms hi hj)
  ⟨ho,ho2,show yaY (lexLt ns ms)≠Value.notImplemented/\Q (.bool (lexLt ns ms)) s from⟨(λx=>nomatch x),h⟩⟩ hu
theorem cat_tup {t b:Addr} {vs ws:List Value} {Q:Value->yab->Prop} (ht:IsTup s.heap t vs.toArray) (hb:IsTup s.heap b ws.toArray) (hv:vs≠[])
  (h1:ws=[]->Q (.ref t) s) (h2:ws≠[]->Q (.ref s.heap.objs.size) {s with heap:=s.heap.push {cls:=.type "tuple",data:=.seq (vs++ws).toArray} })
  (hsz:vs.length+ws.length<=yas):wpAny (model prog w) A (ya3 .Add (.ref t) (.ref b)) Q E s:=by
 obtain⟨⟨cls,dd,data,sl⟩,ho,hc,n,hd⟩:=id ht
 obtain⟨⟨cls2,dd2,data2,sl2⟩,ho2,hc2,n2,hd2⟩:=id hb
 simp only at hc hd hc2 hd2
 subst hc hd hc2 hd2
 have e:vs.toArray++ws.toArray=(vs++ws).toArray:=by simp
 by_cases hw:ws=[]
 ·exact ye2 ⟨_,ho,rfl⟩ ⟨_,ho2,rfl⟩ ydP yeH ycC yct (yck _ _)
   (tuple_addW1 t b vs.toArray ws.toArray n n2 dd dd2 sl sl2 (by simpa using hv) (by simp[hw])) ⟨ho,ho2,h1 hw⟩
 ·refine ye2 ⟨_,ho,rfl⟩ ⟨_,ho2,rfl⟩ ydP yeH ycC yct (yck _ _)
   (tuple_addW2 t b vs.toArray ws.toArray n n2 dd dd2 sl sl2 (by simpa using hv) (by simpa using hw) (by rw[sT_,sT_];exact hsz)) ⟨ho,ho2,?_⟩
  rw[e]
  exact h2 hw
def sIx (n d:Nat):Option Int->Nat
 |none=>d
 |some v=>if v<0 then(v+(n:Int)).toNat else min v.toNat n
theorem sIx_none(n d:Nat):sIx n d none=d:=rfl
theorem sIx_nat (n d k:Nat):sIx n d (some (k:Int))=min k n:=by
 show(if(k:Int)<0 then((k:Int)+(n:Int)).toNat else min (k:Int).toNat n)=min k n
 rw[if_neg (by omega),ybq]
theorem qi1 (n d:Nat) (hd:d<=n) (o:Option Int):sIx n d o<=n:=by
 cases o with
 |none=>exact hd
 |some v=>
  show(if v<0 then(v+(n:Int)).toNat else min v.toNat n)<=n
  by_cases hv:v<0
  ·rw[if_pos hv];omega
  ·rw[if_neg hv];exact Nat.min_le_right _ _
theorem qdL (v:Int) (n d:Nat):(if v<0 then max (v+(n:Int)) 0 else min v (n:Int))=((sIx n d (some v):Nat):Int):=by
 show(if v<0 then max (v+(n:Int)) 0 else min v (n:Int))=(((if v<0 then(v+(n:Int)).toNat else min v.toNat n):Nat):Int)
 by_cases hv:v<0
 ·simp only[if_pos hv];omega
 ·simp only[if_neg hv];omega
theorem qcT (lo hi:Option Int) (n:Nat):ycg lo hi 1 (n:Int)=(((sIx n 0 lo:Nat):Int),((sIx n n hi:Nat):Int)):=by
 have h1:¬((1:Int)<0):=by omega
 unfold ycg
 simp only[h1,if_false]
 refine Prod.ext ?_ ?_
 ·cases lo with
  |none=>rfl
  |some v=>exact qdL v n 0
 ·cases hi with
  |none=>rfl
  |some v=>exact qdL v n n
theorem qcU (i j:Nat):ybJ (i:Int) (j:Int) 1=j-i:=by
 unfold ybJ
 have h1:(1:Int)>0:=by omega
 simp only[h1,if_true,Int.ediv_one]
 split<;>omega
theorem w5 {v:Value} {o:Option Int} {Q:Option Int->yab->Prop} (p:ycZ v o) (h:Q o s):wpAny (model prog w) A (Builtin.Slice.slicePartIndex v) Q E s:=by
 cases p with
 |none=>exact slicePart_none h
 |int i t=>exact slicePart_int h
theorem sliceApplied_gen {sl:Addr} {vl vu:Value} {lo hi:Option Int} {n:Nat} {Q:Int×Int×Nat->yab->Prop} (hs:s.heap.IsSliceOf sl vl vu .none) (pl:ycZ vl lo) (pu:ycZ vu hi)
  (h:Q (((sIx n 0 lo:Nat):Int),1,sIx n n hi-sIx n 0 lo) s):wpAny (model prog w) A (ydv (.ref sl) (pure (n:Int))) Q E s:=by
 obtain⟨os,hos,hcs,hds⟩:=id hs
 unfold ydv Builtin.Slice.sliceFields
 refine yaa (yaa (yaz hos hds (x:=vl) rfl (yaa (yaz hos hds (x:=vu) rfl (yaa (yaz hos hds (x:=.none) rfl (yaf ?_)))))))
 refine yaa (slicePart_none ?_)
 show wpAny _ _ (if((1:Int)==0)=true then _ else _) _ _ s
 rw[if_neg (by decide)]
 refine yaa (w5 pl (yaa (w5 pu (yaa (yaf ?_)))))
 show wpAny _ _ (match ycg lo hi 1 (n:Int) with|(lo,hi)=>pure (lo,(1:Int),ybJ lo hi 1)) _ _ s
 rw[qcT lo hi n]
 show wpAny _ _ (pure (((sIx n 0 lo:Nat):Int),(1:Int),ybJ ((sIx n 0 lo:Nat):Int) ((sIx n n hi:Nat):Int) 1)) _ _ s
 rw[qcU]
 exact yaf h
theorem qfg (xs:Array Value) (i k:Nat):((ybd k).filterMap λ(m:Nat)=>xs[((i:Int)+(m:Int)*1).toNat]?).toArray=((xs.toList.drop i).take k).toArray:=by
 have e:(λ(m:Nat)=>xs[((i:Int)+(m:Int)*1).toNat]?)=λm=>xs[i+m]? := by
  funext m
  have:((i:Int)+(m:Int)*1).toNat=i+m:=by omega
  rw[this]
 rw[e]
 have:=pick_run xs i k
 rw[List.filterMap_map]at this
 have e2:((λx=>xs[x]?)∘λx=>i+x)=λm=>xs[i+m]? := rfl
 rw[e2]at this
 rw[this]
theorem getItem_tuple_cut {t sl:Addr} {items:Array Value} {vl vu:Value} {lo hi:Option Int} {Q:Value->yab->Prop} (ht:IsTup s.heap t items) (hs:s.heap.IsSliceOf sl vl vu .none) (pl:ycZ vl lo) (pu:ycZ vu hi)
  (hw:¬(sIx items.size 0 lo=0/\sIx items.size items.size hi=items.size))
  (h:Q (.ref s.heap.objs.size) {s with heap:=s.heap.push {cls:=.type "tuple",data:=.seq ((items.toList.drop (sIx items.size 0 lo)).take (sIx items.size items.size hi-sIx items.size 0 lo)).toArray} })
  (hsz:items.size<=yas):wpAny (model prog w) A (ydK (.ref t) (.ref sl)) Q E s:=by
 have htake:sizeOk (.seq ((items.toList.drop (sIx items.size 0 lo)).take (sIx items.size items.size hi-sIx items.size 0 lo)).toArray):=by
  show((items.toList.drop (sIx items.size 0 lo)).take (sIx items.size items.size hi-sIx items.size 0 lo)).toArray.size<=yas
  rw[sT_,ybx,ycK,yca]
  omega
 have hj:sIx items.size items.size hi<=items.size:=qi1 _ _ (yak _) hi
 obtain⟨os,hos,hcs,hds⟩:=id hs
 have hTs:s.TypeIs (.ref sl) "slice":=⟨os,hos,hcs⟩
 unfold ydK
 try with_reducible refine yaZ ?_
 first|refine yaa (yaf ?_)|skip
 refine yaa (yfl ht.typeIs (by decide) ?_)
 refine yaa (wpAny_callSpecial?_slot (name:=ybb "__getitem__") ht.typeIs ybh
  (ya6 ybh ht.typeIs yeM ?_ (ye3 _ _)))
 show wpAny _ _ (ydw (.ref t) >>= _) _ _ s
 refine yaa (tupleItemsOf_ ht ?_)
 refine yaa (ydQ hTs ?_)
 rw[if_pos (by decide)]
 refine yaa (sliceApplied_gen hs pl pu ?_)
 have hno:¬((((sIx items.size 0 lo:Nat):Int)==0&&(1:Int)==1&&(sIx items.size items.size hi-sIx items.size 0 lo)==items.size)=true):=by
  intro q
  rw[yaj,yaj]at q
  have q1:((sIx items.size 0 lo:Nat):Int)=0:=ybB q.1.1
  have q2:sIx items.size items.size hi-sIx items.size 0 lo=items.size:=ybB q.2
  exact hw ⟨by omega,by omega⟩
 show wpAny _ _ (if(((sIx items.size 0 lo:Nat):Int)==0&&(1:Int)==1&&(sIx items.size items.size hi-sIx items.size 0 lo)==items.size)=true then _ else _) _ _ s
 rw[if_neg hno,qfg]
 first
  |exact yaa (m:=ybP _) (yaM (yaf ⟨_,rfl,yaf h⟩) htake)
  |exact yaa (m:=ybP _) (yaM (yaa (yaf (yaf ⟨_,rfl,yaf h⟩))) htake)
  |exact yaa (yaa (m:=ybP _) (yaM (yaf (yaf ⟨_,rfl,yaf h⟩)) htake))
  |exact yaa (yaa (m:=ybP _) (yaM (yaf ⟨_,rfl,yaf h⟩) htake))
end
end HT
namespace L2
open PySem PySem.Spec PyProof.Rows
abbrev TO:=St->Hp->(Option Int->Hp->Prop)->Prop
def PO (X:Cx) (e:Option Expr) (t:TO):Prop :=
 ∀ (pins:List (Addr×Obj)) (s:yab) (σ:St) (H:Hp) (Q:Option Int->Hp->Prop),Inv X pins σ H s->t σ H Q ->
  wpAny (model X.prog X.w) X.A (evalPart e X.env) (λu s'=>∃o H',Inv X pins σ H' s'/\ycZ u o/\Q o H') X.xe s
def qg7:TO:=λ_ H Q=>Q none H
def qk9(t:TE):TO:=λσ H Q=>t σ H λx H1=>∃i,x=.int i/\Q (some i) H1
theorem qcV {ns:List Int}:∀{us:List Value},qK (ns.map V.int) us->ybE us ns:=by
 induction ns with
 |nil=>intro us r;rw[yc0]at r;cases r;exact .nil
 | cons n ns ih=>
  intro us r
  rw[mC_]at r
  cases r with
  |cons r1 r2=>
   obtain⟨t,e⟩:=r1
   subst e
   exact .cons n t (ih r2)
section
variable{X:Cx}{e:Expr}{te:TE}{lo hi:Option Expr}{tl th:TO}{pos p2:Pos}
theorem qg8:PO X none qg7:=by
 intro pins s σ H Q I h
 rw[evalPart_none]
 exact yaf ⟨none,H,I,.none,h⟩
theorem qg9 (h:PE X e te):PO X (some e) (qk9 te):=by
 intro pins s σ H Q I hw
 rw[evalPart_some]
 refine thn (h pins s σ H _ I hw) λu s1 ⟨x,H1,I1,r1,q1⟩=>?_
 obtain⟨i,rfl,q⟩:=q1
 obtain⟨t,rfl⟩:=r1
 exact⟨some i,H1,I1,.int i t,q⟩
def SlR (X:Cx) (r:V->Option Int->Option Int->Hp->VK->Prop):Prop :=
 ∀ (pins:List (Addr×Obj)) (s:yab) (σ:St) (H:Hp) (x:V) (v vl vu:Value) (lo hi:Option Int) (sl:Addr) (Q:VK),Inv X pins σ H s->zU x v->s.heap.IsSliceOf sl vl vu .none->ycZ vl lo->ycZ vu hi->r x lo hi H Q ->
  ∃T id,yfy (.type T) "__getitem__"=pure (some (.builtin id))/\s.TypeIs v T/\wpAny (model X.prog X.w) X.A (ydK v (.ref sl)) (EP X pins σ Q) X.xe s
theorem SlR.or {r r':V->Option Int->Option Int->Hp->VK->Prop} (h:SlR X r) (h':SlR X r'):SlR X (λx lo hi H Q=>r x lo hi H Q\/r' x lo hi H Q):=by
 intro pins s σ H x v vl vu lo hi sl Q I rx hs pl pu q
 rcases q with q|q
 ·exact h pins s σ H x v vl vu lo hi sl Q I rx hs pl pu q
 ·exact h' pins s σ H x v vl vu lo hi sl Q I rx hs pl pu q
def tSl(r:V->Option Int->Option Int->Hp->VK->Prop)(te:TE)(tl th:TO):TE:=λσ H Q=>te σ H λx H1=>tl σ H1 λl H2=>th σ H2 λu H3=>r x l u H3 Q
theorem qfh {r:V->Option Int->Option Int->Hp->VK->Prop} (hr:SlR X r) (he:PE X e te) (hl:PO X lo tl) (hu:PO X hi th):PE X (.Subscript e (.Slice lo hi none p2) pos) (tSl r te tl th):=by
 intro pins s σ H Q I h
 refine Subscript_ (thn (he pins s σ H _ I h) λv s1 ⟨x,H1,I1,r1,q1⟩=>?_)
 refine wpAny_Slice (thn (hl pins s1 σ H1 _ I1 q1) λvl s2 ⟨l,H2,I2,pl,q2⟩=>thn (hu pins s2 σ H2 _ I2 q2) λvu s3 ⟨u,H3,I3,pu,q3⟩=>?_)
 rw[evalPart_none]
 refine yaf ?_
 have I4:Inv X pins σ H3 {s3 with heap:=s3.heap.push {cls:=.type "slice",data:=.fields #[vl,vu,.none]} }:=I3.kept (t':=s3.toks) λb ob q=>Heap.get?_push_of_some _ q
 obtain⟨T,id,hT,ht,hg⟩:=hr pins {s3 with heap:=s3.heap.push {cls:=.type "slice",data:=.fields #[vl,vu,.none]} } σ H3 x v vl vu l u s3.heap.objs.size Q I4 r1 (Heap.IsSliceOf.new ..) pl pu q3
 show wpAny (model X.prog X.w) X.A (subscriptTail e (.Slice lo hi none p2) v (.ref s3.heap.objs.size)) (EP X pins σ Q) X.xe {s3 with heap:=s3.heap.push {cls:=.type "slice",data:=.fields #[vl,vu,.none]} }
 exact tail_any (ops:=[.ref s3.heap.objs.size,v]) ht hT hg (by with_unfolding_all rfl)
def qe0(xs:List V)(lo hi:Option Int):List V:=(xs.drop (HT.sIx xs.length 0 lo)).take (HT.sIx xs.length xs.length hi-HT.sIx xs.length 0 lo)
theorem vV (xs:List V) (lo hi:Option Int):(qe0 xs lo hi).length<=xs.length:=by
 unfold qe0
 rw[ybx,ycK]
 omega
def qlU (K:yai):V->Option Int->Option Int->Hp->VK->Prop:=λx lo hi H Q=>∃a xs,x=.ref a/\SqT K H a xs /\
 ¬(HT.sIx xs.length 0 lo=0/\HT.sIx xs.length xs.length hi=xs.length)/\∀p,H p=none->Q (.ref p) (upd H p (.tup (qe0 xs lo hi)))
theorem sl_tup:SlR X (qlU X.K):=by
 intro pins s σ H x v vl vu lo hi sl Q I rx hs pl pu h
 obtain⟨a,xs,rfl,hx,hw,q⟩:=h
 cases rx
 obtain⟨its,r,ht,hz⟩:=I.tuple hx
 have hlen:its.toArray.size=xs.length:=by rw[sT_];exact r.length.symm
 refine⟨"tuple",_,PyProof.Rows.slot_tuple_getitem.lookup,ht.typeIs,?_⟩
 refine HT.getItem_tuple_cut ht hs pl pu (by rw[hlen];exact hw) ?_ (by rw[hlen];exact hz)
 rw[hlen]
 refine⟨.ref s.heap.objs.size,_,I.laid (t':=s.toks) (o:=.tup (qe0 xs lo hi)) (λb ob q=>Heap.get?_push_of_some _ q) (yak _) ?_,rfl,q _ (I.hok.fresh (yak _))⟩
 exact⟨yaJ (vV xs lo hi) hz,_,(r.drop (HT.sIx xs.length 0 lo)).take (HT.sIx xs.length xs.length hi-HT.sIx xs.length 0 lo),ydj _ _⟩
def qi2 (K:yai):R2:=λx y H Q=>∃a b xs ys,x=.ref a/\y=.ref b/\SqT K H a xs/\SqT K H b ys/\xs≠[]/\xs.length+ys.length<=yas /\
 (ys=[]->Q (.ref a) H)/\(ys≠[]->∀p,H p=none->Q (.ref p) (upd H p (.tup (xs++ys))))
theorem qK.nil_iff {xs:List V} {us:List Value} (r:qK xs us):us=[] ↔ xs=[]:=by
 cases r with
 |nil=>simp
 |cons _ _=>simp
theorem qha:OpR X (ya3 .Add) (qi2 X.K):=by
 intro pins s σ H x y v u Q I rx ry h
 obtain⟨a,b,xs,ys,rfl,rfl,ha,hb,hx,hz,q1,q2⟩:=h
 cases rx
 cases ry
 obtain⟨its,r1,p1,_⟩:=I.tuple ha
 obtain⟨its2,r2,p2,_⟩:=I.tuple hb
 refine HT.cat_tup p1 p2 (λz=>hx (r1.nil_iff.mp z)) (λz=>⟨.ref a,H,I,rfl,q1 (r2.nil_iff.mp z)⟩) (λz=>?_) (by rw[<-r1.length,<-r2.length];exact hz)
 refine⟨.ref s.heap.objs.size,_,I.laid (t':=s.toks) (o:=.tup (xs++ys)) (λb ob q=>Heap.get?_push_of_some _ q) (yak _) ?_,rfl,q2 (λw=>z (r2.nil_iff.mpr w)) _ (I.hok.fresh (yak _))⟩
 exact⟨by rw[lA_];exact hz,_,r1.append r2,ydj _ _⟩
end
end L2
namespace L2
open PySem PySem.Spec PyProof.Rows
def ixN(n:Nat)(i:Int):Option Nat:=if 0<=i then(if i<n then some i.toNat else none)else if -(n:Int)<=i then some (i+n).toNat else none
def atI{α:Type}(xs:List α)(i:Int):Option α:=(ixN xs.length i).bind λj=>xs[j]?
theorem qdM {n:Nat} {i:Int} {j:Nat} (h:ixN n i=some j):seqIndex? i n=some j/\j<n /\ -(n:Int)<=i/\i<n:=by
 unfold ixN at h
 by_cases h0:0<=i
 ·rw [if_pos h0]at h
  by_cases h1:i<n
  ·rw[if_pos h1]at h
   have e:i.toNat=j:=yaF h
   exact⟨by rw[yfr h0 h1,e],by omega,by omega,h1⟩
  ·rw[if_neg h1]at h;cases h
 ·rw [if_neg h0]at h
  by_cases h1 : -(n:Int)<=i
  ·rw[if_pos h1]at h
   have e:(i+n).toNat=j:=yaF h
   exact⟨by rw[ye4 (by omega) h1,e],by omega,h1,by omega⟩
  ·rw[if_neg h1]at h;cases h
theorem qdN {α:Type} {xs:List α} {i:Int} {v:α} (h:atI xs i=some v):∃j,seqIndex? i xs.length=some j/\xs[j]? = some v/\j<xs.length /\ -(xs.length:Int)<=i/\i<xs.length:=by
 unfold atI at h
 cases e:ixN xs.length i with
 |none=>rw[e]at h;cases h
 |some j=>
  rw[e]at h
  obtain⟨h1,h2,h3,h4⟩:=qdM e
  exact⟨j,h1,h,h2,h3,h4⟩
def qbz(b:Expr):Prop:=∀o i,subscripted b false o i=operate [o,i] (ydK o i)
def IxR (X:Cx) (r:R2):Prop :=
 ∀ (value slice:Expr) (pins:List (Addr×Obj)) (s:yab) (σ:St) (H:Hp) (x y:V) (v u:Value) (Q:VK),Inv X pins σ H s->zU x v->zU y u->r x y H Q ->
  subscripted slice false v u=operate [v,u] (ydK v u)->wpAny (model X.prog X.w) X.A (subscriptTail value slice v u) (EP X pins σ Q) X.xe s
def MtR (X:Cx) (id:String) (r:V->List V->Hp->VK->Prop):Prop :=
 ∀ (pins:List (Addr×Obj)) (s:yab) (σ:St) (H:Hp) (x:V) (xs:List V) (v:Value) (us:List Value) (Q:VK),Inv X pins σ H s->zU x v->qK xs us->r x xs H Q ->
  wpAny (model X.prog X.w) X.A (call (.builtin id) (v::us)) (EP X pins σ Q) X.xe s
section
variable{X:Cx}{a b:Expr}{ta tb:TE}{pos:Pos}
theorem IxR.or {r r':R2} (h:IxR X r) (h':IxR X r'):IxR X (λx y H Q=>r x y H Q\/r' x y H Q):=by
 intro value slice pins s σ H x y v u Q I rx ry q hs
 rcases q with q|q
 ·exact h value slice pins s σ H x y v u Q I rx ry q hs
 ·exact h' value slice pins s σ H x y v u Q I rx ry q hs
theorem MtR.or {id:String} {r r':V->List V->Hp->VK->Prop} (h:MtR X id r) (h':MtR X id r'):MtR X id (λx xs H Q=>r x xs H Q\/r' x xs H Q):=by
 intro pins s σ H x xs v us Q I rx rs q
 rcases q with q|q
 ·exact h pins s σ H x xs v us Q I rx rs q
 ·exact h' pins s σ H x xs v us Q I rx rs q
theorem qi3 {r:R2} (hr:IxR X r) (ha:PE X a ta) (hb:PE X b tb) (hs:qbz b):PE X (.Subscript a b pos) (tOp r ta tb):=by
 intro pins s σ H Q I h
 exact Subscript_ (qk0 ha hb I h λv u s2 x y H2 I2 rx ry q=>hr a b pins s2 σ H2 x y v u Q I2 rx ry q (hs _ _))
def qla(K:yai):R2:=λx y H Q=>∃p xs i v,x=.ref p/\y=.int i/\SqL K H p xs/\atI xs i=some v/\Q v H
def qlb(K:yai):R2:=λx y H Q=>∃p xs i v,x=.ref p/\y=.int i/\SqT K H p xs/\atI xs i=some v/\Q v H
theorem qdO:IxR X (qla X.K):=by
 intro value slice pins s σ H x y v u Q I rx ry h hs
 obtain⟨p,xs,i,z,rfl,rfl,hq,he,q⟩:=h
 cases rx
 obtain⟨t,rfl⟩:=ry
 obtain⟨its,r,pl,hz⟩:=I.list hq
 obtain⟨j,h1,h2,h3,h4,h5⟩:=qdN he
 obtain⟨w,ew,rw'⟩:=r.get h2
 have hl:=r.length
 have hn:=qaT
 have fin:EP X pins σ Q w s:=⟨z,H,I,rw',q⟩
 by_cases h0:0<=i
 ·have hj:i.toNat=j:=by
   rw[yfr h0 h5]at h1
   exact yaF h1
  exact item_listR pl.isList h0 (by omega) (by rw[hj];simpa using ew) fin hs
 ·have hj:(i+(its.toArray.size:Int)).toNat=j:=by
   rw[ye4 (by omega) h4]at h1
   rw[sT_,<-hl]
   exact yaF h1
  exact yec (x:=w) pl.isList.typeIs slot_list_getitem.lookup
   (wpAny_getItem_list_neg (Q:=λr s'=>r=w/\EP X pins σ Q r s') pl.isList (by omega) (by rw[sT_]<;>omega) (by omega) (by rw[hj];simpa using ew) ⟨rfl,fin⟩) hs
theorem qi4:IxR X (qlb X.K):=by
 intro value slice pins s σ H x y v u Q I rx ry h hs
 obtain⟨p,xs,i,z,rfl,rfl,hq,he,q⟩:=h
 cases rx
 obtain⟨t,rfl⟩:=ry
 obtain⟨its,r,pl,hz⟩:=I.tuple hq
 obtain⟨j,h1,h2,h3,h4,h5⟩:=qdN he
 obtain⟨w,ew,rw'⟩:=r.get h2
 have hl:=r.length
 have hn:=qaT
 have fin:EP X pins σ Q w s:=⟨z,H,I,rw',q⟩
 exact yec (x:=w) pl.typeIs slot_tuple_getitem.lookup
  (getItem_tuple (j:=j) (Q:=λr s'=>r=w/\EP X pins σ Q r s') pl (by omega) (by omega) (by rw[sT_,<-hl];exact h1) (by simpa using ew) ⟨rfl,fin⟩) hs
theorem qcW (its:List Value) (n j:Nat) (u:Value):yaH (·.setIfInBounds j u) {cls:=.type "list",data:=.seq its.toArray n}={cls:=.type "list",data:=.seq (its.set j u).toArray n}:=by
 simp[yaH]
theorem Inv.lst {pins:List (Addr×Obj)} {σ:St} {H:Hp} {s:yab} {p:Addr} {xs:List V} (I:Inv X pins σ H s) (h:H p=some (.lst xs)) :
  ∃(its:List Value)(n:Nat),qK xs its/\s.heap.get? p=some {cls:=.type "list",data:=.seq its.toArray n}/\xs.length<=yas:=by
 obtain⟨z,its,n,r,e⟩:=I.hok p _ h
 exact⟨its,n,r,e,z⟩
theorem Inv.lstUpd {pins:List (Addr×Obj)} {σ:St} {H:Hp} {s:yab} {p:Addr} {xs ys:List V} {its its':List Value} {n n':Nat} {f:Obj->Obj} (I:Inv X pins σ H s) (h:H p=some (.lst xs))
  (ho:s.heap.get? p=some {cls:=.type "list",data:=.seq its.toArray n}) (hf:f {cls:=.type "list",data:=.seq its.toArray n}={cls:=.type "list",data:=.seq its'.toArray n' }) (r:qK ys its') (hz:ys.length<=yas) (t:Nat) :
  Inv X pins σ (upd H p (.lst ys)) {s with heap:=s.heap.update p f,toks:=t}:=by
 have e:(s.heap.update p f).get? p=some {cls:=.type "list",data:=.seq its'.toArray n' }:=by
  rw[Heap.get?_update_self f ho (by rw[hf]<;>rfl),hf]
 refine I.write (x:=p) (e:=p) (by rw[h];trivial) (.inl rfl) (λb u hb q=>(Heap.get?_update_other _ _ (ya2 hb)).trans q) ⟨_,e⟩ ?_
 exact⟨hz,its',n',r,e⟩
def qlc:V->V->V->Hp->(Hp->Prop)->Prop:=λo i v H Q=>∃p xs k j,o=.ref p/\i=.int k/\H p=some (.lst xs)/\ixN xs.length k=some j/\Q (upd H p (.lst (xs.set j v)))
theorem qfi:qlO X qlc:=by
 intro pins s σ H o i v ov iv u Q I ro ri rv h
 obtain⟨p,xs,k,j,rfl,rfl,hp,hj,q⟩:=h
 cases ro
 obtain⟨t,rfl⟩:=ri
 obtain⟨its,n,r,ho,hz⟩:=I.lst hp
 obtain⟨h1,h2,h3,h4⟩:=qdM hj
 have hl:=r.length
 have hn:=qaT
 have I':Inv X pins σ (upd H p (.lst (xs.set j v))) {s with heap:=s.heap.update p (yaH (·.setIfInBounds j u))} :=
  I.lstUpd hp ho (qcW its n j u) (r.set rv j) (by rw[lS_];exact hz) s.toks
 by_cases h0:0<=k
 ·have hk:k.toNat=j:=by
   rw[yfr h0 h4]at h1
   exact yaF h1
  exact PySem.W.ki_setAt ho h0 (by omega) (by rw[sT_,<-hl];exact h4) (by rw[hk];exact⟨_,I',q⟩)
 ·have hk:(k+(its.toArray.size:Int)).toNat=j:=by
   rw[ye4 (by omega) h3]at h1
   rw[sT_,<-hl]
   exact yaF h1
  exact PySem.W.ki_setBack ho (by omega) (by rw[sT_,<-hl];exact h3) (by omega) (by rw[hk];exact⟨_,I',q⟩)
theorem qaX (lo hi:Option Int) (n:Nat):(yb9 lo hi none n).1=((HT.sIx n 0 lo:Nat):Int)/\(yb9 lo hi none n).2.1=((HT.sIx n n hi:Nat):Int)/\(yb9 lo hi none n).2.2=1:=by
 refine⟨?_,?_,rfl⟩
 ·cases lo with
  |none=>simp[yb9,HT.sIx]
  |some i=>
   simp only[yb9,HT.sIx,Option.getD_none,show(1:Int)>0 by decide,if_true]
   by_cases h:i<0
   ·simp only[h,if_true]<;>omega
   ·simp only[h,if_false]<;>omega
 ·cases hi with
  |none=>simp[yb9,HT.sIx]
  |some i=>
   simp only[yb9,HT.sIx,Option.getD_none,show(1:Int)>0 by decide,if_true]
   by_cases h:i<0
   ·simp only[h,if_true]<;>omega
   ·simp only[h,if_false]<;>omega
theorem qal (its:List Value) (lo hi:Option Int):slicePick its.toArray lo hi none=((its.drop (HT.sIx its.length 0 lo)).take (HT.sIx its.length its.length hi-HT.sIx its.length 0 lo)).toArray:=by
 obtain⟨h1,h2,h3⟩:=qaX lo hi its.toArray.size
 unfold slicePick
 rw[h1,h2,h3]
 simp only[sliceRange_one,pick_run,sT_]<;>rfl
def qmE(K:yai):V->Option Int->Option Int->Hp->VK->Prop:=λx lo hi H Q=>∃a xs,x=.ref a/\SqL K H a xs/\∀p,H p=none->Q (.ref p) (upd H p (.lst (qe0 xs lo hi)))
theorem qhb:SlR X (qmE X.K):=by
 intro pins s σ H x v vl vu lo hi sl Q I rx hs pl pu h
 obtain⟨a,xs,rfl,hx,q⟩:=h
 cases rx
 obtain⟨its,r,ht,hz⟩:=I.list hx
 have hlen:=r.length
 refine⟨"list",_,slot_list_getitem.lookup,ht.isList.typeIs,?_⟩
 refine wpAny_getItem_list_slice ht.isList hs pl pu .none (by simp) ?_ (by rw[sT_]<;>omega)
 rw[qal,<-hlen]
 refine⟨.ref s.heap.objs.size,_,I.laid (t':=s.toks) (o:=.lst (qe0 xs lo hi)) (λb ob q=>Heap.get?_push_of_some _ q) (yak _) ?_,rfl,q _ (I.hok.fresh (yak _))⟩
 exact⟨yaJ (vV xs lo hi) hz,_,0,(r.drop (HT.sIx xs.length 0 lo)).take (HT.sIx xs.length xs.length hi-HT.sIx xs.length 0 lo),Heap.get?_push_size _ rfl⟩
def vw:V->Bool
 |.non=>true
 |.bl _=>true
 |.int _=>true
 |.str _=>true
 |_=>false
def eqV:V->V->Bool
 |.non,.non=>true
 |.bl a,.bl b=>a==b
 |.bl a,.int b=>(if a then 1 else 0)==b
 |.int a,.bl b=>a==(if b then 1 else 0)
 |.int a,.int b=>a==b
 |.str a,.str b=>a==b
 |_,_=>false
theorem qi5 {A:yar} {s:yab} {y x:V} {u v:Value} (ry:zU y u) (rx:zU x v) (fy:vw y=true) (fx:vw x=true):yfx A s u v (eqV y x):=by
 cases y with
 |non=>
  cases ry
  cases x with
  |non=>cases rx;exact SeqAt.EqAt.same _
  |bl b=>cases rx;exact SeqAt.EqAt.none_bool b
  |int b=>obtain⟨t,rfl⟩:=rx;exact SeqAt.EqAt.none_int b t
  |str b=>obtain⟨t,rfl⟩:=rx;exact SeqAt.EqAt.none_str b t
  |_=>exact absurd (show false=true from fx) yal
 |bl a=>
  cases ry
  cases x with
  |non=>cases rx;exact SeqAt.EqAt.bool_none a
  |bl b=>cases rx;exact SeqAt.EqAt.bool_bool a b
  |int b=>obtain⟨t,rfl⟩:=rx;exact SeqAt.EqAt.bool_int a b t
  |str b=>obtain⟨t,rfl⟩:=rx;exact SeqAt.EqAt.bool_str a b t
  |_=>exact absurd (show false=true from fx) yal
 |int a=>
  obtain⟨t',rfl⟩:=ry
  cases x with
  |non=>cases rx;exact SeqAt.EqAt.int_none a t'
  |bl b=>cases rx;exact SeqAt.EqAt.int_bool a t' b
  |int b=>obtain⟨t,rfl⟩:=rx;exact ye1 a t' b t
  |str b=>obtain⟨t,rfl⟩:=rx;exact yeR a t' b t
  |_=>exact absurd (show false=true from fx) yal
 |str a=>
  obtain⟨t',rfl⟩:=ry
  cases x with
  |non=>cases rx;exact SeqAt.EqAt.str_none a t'
  |bl b=>cases rx;exact SeqAt.EqAt.str_bool a t' b
  |int b=>obtain⟨t,rfl⟩:=rx;exact yeS a t' b t
  |str b=>obtain⟨t,rfl⟩:=rx;exact SeqAt.EqAt.str_str a t' b t
  |_=>exact absurd (show false=true from fx) yal
 |_=>exact absurd (show false=true from fy) yal
def eqU (x:V) (u:Value):Bool:=match u with
 |.none=>eqV .non x
 |.bool b=>eqV (.bl b) x
 |.int i _=>eqV (.int i) x
 |.str z _=>eqV (.str z) x
 |_=>false
theorem qgl {x y:V} {u:Value} (r:zU y u) (f:vw y=true):eqU x u=eqV y x:=by
 cases y with
 |non=>cases r;rfl
 |bl b=>cases r;rfl
 |int i=>obtain⟨t,rfl⟩:=r;rfl
 |str z=>obtain⟨t,rfl⟩:=r;rfl
 |_=>exact absurd (show false=true from f) yal
theorem qbA {x:V}:∀{xs:List V}{us:List Value},qK xs us->xs.all vw=true->us.any (eqU x)=xs.any λy=>eqV y x
 |_,_,.nil,_=>rfl
 |y::xs,u::us,.cons r t,f=>by
  rw[ybt,yaj]at f
  rw[List.any_cons,List.any_cons,qgl r f.1,qbA t f.2]
theorem qam {A:yar} {s:yab} {x:V} {v:Value} (rx:zU x v) (fx:vw x=true):∀{xs:List V}{us:List Value},qK xs us->xs.all vw=true->∀u∈us,yfx A s u v (eqU x u)
 |_,_,.nil,_=>λu hu=>by cases hu
 |y::xs,u::us,.cons r t,f=>λu' hu=>by
  rw[ybt,yaj]at f
  rcases List.mem_cons.mp hu with rfl|hu
  ·rw[qgl r f.1];exact qi5 r rx f.1 fx
  ·exact qam rx fx t f.2 u' hu
def inV(x:V)(xs:List V):Bool:=xs.any λy=>eqV y x
def rIn(K:yai)(neg:Bool):R2:=λx y H Q=>∃p xs,y=.ref p/\(SqL K H p xs\/SqT K H p xs)/\vw x=true/\xs.all vw=true/\Q (.bl (if neg then !inV x xs else inV x xs)) H
theorem qdP:OpR X (yaI .In) (rIn X.K false):=by
 intro pins s σ H x y v u Q I rx ry h
 obtain⟨p,xs,rfl,hq,fx,fs,q⟩:=h
 cases ry
 rcases hq with hq|hq
 ·obtain⟨its,r,pl,hz⟩:=I.list hq
  refine SeqAt.in_listAt (eqU x) pl.isList (λw hw=>qam rx fx r fs w (by simpa using hw)) ⟨.bl _,H,I,rfl,?_⟩
  rw[show its.toArray.any (eqU x)=its.any (eqU x) by simp,qbA r fs]
  exact q
 ·obtain⟨its,r,pl,hz⟩:=I.tuple hq
  refine SeqAt.in_tupleAt (eqU x) pl (λw hw=>qam rx fx r fs w (by simpa using hw)) ⟨.bl _,H,I,rfl,?_⟩
  rw[show its.toArray.any (eqU x)=its.any (eqU x) by simp,qbA r fs]
  exact q
theorem qaY:jO X (.builtin "len") (λxs H Q=>∃p ys,xs=[.ref p]/\(SqL X.K H p ys\/SqT X.K H p ys)/\Q (.int ys.length) H):=by
 intro pins s σ H xs us Q I r h
 obtain⟨p,ys,rfl,hq,q⟩:=h
 obtain⟨u,rfl,rx⟩:=qcS r
 cases rx
 have hn:=qaT
 rcases hq with hq|hq
 ·obtain⟨its,r',pl,hz⟩:=I.list hq
  have hlen:=r'.length
  exact Calls.call_len_list pl.isList (by simp only[sT_]<;>omega) ⟨.int ys.length,H,I.tok _,⟨s.toks+1,by rw[sT_,hlen]⟩,q⟩
 ·obtain⟨its,r',pl,hz⟩:=I.tuple hq
  have hlen:=r'.length
  exact len_tuple pl (by simp only[sT_]<;>omega) ⟨.int ys.length,H,I.tok _,⟨s.toks+1,by rw[sT_,hlen]⟩,q⟩
theorem qaZ:jO X (.builtin "len") (λxs H Q=>∃z,xs=[.str z]/\z.length<=yas/\Q (.int z.length) H):=by
 intro pins s σ H xs us Q I r h
 obtain⟨z,rfl,hz,q⟩:=h
 obtain⟨u,rfl,t,rfl⟩:=qcS r
 have hn:=qaT
 exact len_str (by omega) ⟨.int z.length,H,I.tok _,⟨_,rfl⟩,q⟩
theorem jO.or {f:Value} {r r':List V->Hp->VK->Prop} (h:jO X f r) (h':jO X f r'):jO X f (λxs H Q=>r xs H Q\/r' xs H Q):=by
 intro pins s σ H xs us Q I rs q
 rcases q with q|q
 ·exact h pins s σ H xs us Q I rs q
 ·exact h' pins s σ H xs us Q I rs q
theorem qa0:jO X (.type "list") (λxs H Q=>∃p ys,xs=[.ref p]/\(SqL X.K H p ys\/SqT X.K H p ys)/\∀l,H l=none->Q (.ref l) (upd H l (.lst ys))):=by
 intro pins s σ H xs us Q I r h
 obtain⟨p,ys,rfl,hq,q⟩:=h
 obtain⟨u,rfl,rx⟩:=qcS r
 cases rx
 have fin:∀(its:List Value),qK ys its->ys.length<=yas->∀(h':Heap)(c':Nat),(∀b o',s.heap.get? b=some o'->h'.get? b=some o') ->
   h'.get? s.heap.objs.size=some {cls:=.type "list",dict:=none,data:=.seq its.toArray c',slots := #[]}->EP X pins σ Q (.ref s.heap.objs.size) {s with heap:=h' }:=λits r' hz h' c' kp e=>
  ⟨.ref s.heap.objs.size,_,I.laid (t':=s.toks) kp (yak _) (show jx X.prog X.w _ h' _ (.lst ys) from⟨hz,its,c',r',e⟩),rfl,q _ (I.hok.fresh (yak _))⟩
 rcases hq with hq|hq
 ·obtain⟨its,r',pl,hz⟩:=I.list hq
  have hlen:=r'.length
  obtain⟨o,ho,hc,n,hd⟩:=pl.isList
  exact call_list_seq p (.inl rfl) ho hc hd (λh' c' kp e=>fin its r' hz h' c' kp e) (by simp only[sT_]<;>omega)
 ·obtain⟨its,r',pl,hz⟩:=I.tuple hq
  have hlen:=r'.length
  obtain⟨o,ho,hc,n,hd⟩:=pl
  exact call_list_seq p (.inr rfl) ho hc hd (λh' c' kp e=>fin its r' hz h' c' kp e) (by simp only[sT_]<;>omega)
theorem yo:jO X (.type "tuple") (λxs H Q=>∃p ys,xs=[.ref p]/\((SqL X.K H p ys/\∀l,H l=none->Q (.ref l) (upd H l (.tup ys)))\/(SqT X.K H p ys/\Q (.ref p) H))):=by
 intro pins s σ H xs us Q I r h
 obtain⟨p,ys,rfl,h⟩:=h
 obtain⟨u,rfl,rx⟩:=qcS r
 cases rx
 rcases h with⟨hq,q⟩|⟨hq,q⟩
 ·obtain ⟨its,r',pl,hz⟩:=I.list hq
  have hlen:=r'.length
  refine call_tuple_list pl.isList (λh' kp=>?_) (by simp only[sT_]<;>omega)
  have I1:Inv X pins σ H {s with heap:=h' }:=I.kept (t':=s.toks) kp
  have I2:Inv X pins σ (upd H h'.objs.size (.tup ys)) {s with heap:=h'.push {cls:=.type "tuple",data:=.seq its.toArray} } :=
   I1.laid (t':=s.toks) (λb o e=>Heap.get?_push_of_some _ e) (yak _) (show jx X.prog X.w _ _ _ (.tup ys) from⟨hz,its,r',ydj _ _⟩)
  exact⟨.ref h'.objs.size,_,I2,rfl,q _ (I1.hok.fresh (yak _))⟩
 ·obtain⟨its,r',pl,hz⟩:=I.tuple hq
  exact call_tuple_same pl ⟨.ref p,H,I,rfl,q⟩
def tyV (K:yai) (T:String) (x:V) (H:Hp):Prop:=match x with
 |.str _=>T="str"
 |.int _=>T="int"
 | .ref p=>(T="list"/\∃xs,SqL K H p xs)\/(T="tuple"/\∃o,K.lookup p=some o/\o.cls=.type "tuple"/\o.dict=none) \/
   (T="dict"/\((∃kvs,H p=some (.dK kvs))\/∃kvs,H p=some (.dT kvs)))\/(T="set"/\∃S n,H p=some (.set S n))
 |_=>False
theorem qi6 {pins:List (Addr×Obj)} {σ:St} {H:Hp} {s:yab} {T:String} {x:V} {v:Value} (I:Inv X pins σ H s) (r:zU x v) (ty:tyV X.K T x H) :
  s.TypeIs v T/\∀a,v=.ref a->∃ob,s.heap.get? a=some ob/\ob.dict=none:=by
 cases x with
 |str z=>
  obtain⟨t,rfl⟩:=r
  cases (show T="str" from ty)
  exact⟨typeIs_str s z t,λ_ e=>nomatch e⟩
 |int i=>
  obtain⟨t,rfl⟩:=r
  cases (show T="int" from ty)
  exact⟨ybX s i t,λ_ e=>nomatch e⟩
 | ref p=>
  cases r
  rcases ty with⟨rfl,xs,hq⟩|⟨rfl,o,hk,hc,hd⟩|⟨rfl,hk⟩|⟨rfl,S,n,hk⟩
  ·obtain⟨its,_,pl,_⟩:=I.list hq
   refine⟨pl.isList.typeIs,λa e=>?_⟩
   cases e
   obtain⟨o,n,e,c,hd,_⟩:=pl
   exact⟨o,e,hd⟩
  ·refine⟨⟨o,I.kIn p o hk,hc⟩,λa e=>?_⟩
   cases e
   exact⟨o,I.kIn _ o hk,hd⟩
  ·have z:∃o,s.heap.get? p=some o/\o.ExactDict:=by
    rcases hk with⟨kvs,hk⟩|⟨kvs,hk⟩
    ·obtain⟨_,_,_,_,o,_,_,e,ex,_⟩:=I.hok p _ hk
     exact⟨o,e,ex⟩
    ·obtain⟨_,_,_,_,o,_,_,e,ex,_⟩:=I.hok p _ hk
     exact⟨o,e,ex⟩
   obtain⟨o,e,ex⟩:=z
   refine⟨⟨o,e,ex.1⟩,λa e2=>?_⟩
   cases e2
   exact⟨o,e,ex.2.1⟩
  ·obtain⟨o,_,_,_,e,ex,_⟩:=I.hok p _ hk
   refine⟨⟨o,e,ex.1⟩,λa e2=>?_⟩
   cases e2
   exact⟨o,e,ex.2.1⟩
 |_=>exact yaS ty
def tBM(K:yai)(T:String)(r:V->List V->Hp->VK->Prop)(to:TE)(t:TA):TE:=λσ H Q=>to σ H λx H1=>tyV K T x H1/\t σ H1 λxs H2=>r x xs H2 Q
variable{o e:Expr}{es:List Expr}{to:TE}{t:TA}{name:Str}{apos cpos:Pos}{T id:String}{r:V->List V->Hp->VK->Prop}
theorem qld (pa:PlainAttrs T) (slot:Slot T name id) (hty:typeOf (.builtin id)=pure (.type "method_descriptor")) (hm:MtR X id r) (ho:PE X o to) (ha:PA X (e::es) t)
  (hbase:attributeBase o name X.env (eval o X.env)=eval o X.env:=by rfl)
  (hfew:((yaO cpos (yae (e::es) X.env)).all (λx => !x.1)&&(backToKw cpos (keywordEach [] X.env)).all (λx=>x.1.isSome)
   && decide ((e::es).length+([]:List yff).length+(if([]:List yff).isEmpty then 0 else 1)<30))=true:=by rfl)
  (hline:(apos.endLine==cpos.line)=true:=by rfl) (hs:yae (e::es) X.env=(false,eval e X.env)::yae es X.env:=by rfl) (hplain:(yaO cpos (yae es X.env)).any (·.1)=false:=by rfl) :
  PE X (.Call (.Attribute o name apos) (e::es) [] cpos) (tBM X.K T r to t):=by
 intro pins s σ H Q I h
 refine wpAny_Call_method_late hbase hfew hline rfl (thn (ho pins s σ H _ I h) λv s1 ⟨x,H1,I1,r1,ty,q1⟩=>?_)
 obtain⟨h1,h2⟩:=qi6 I1 r1 ty
 refine⟨T,id,pa,slot,hty,h1,h2,?_⟩
 have hA:=ha cpos pins s1 σ H1 _ I1 q1
 rw[hs]at hA |-
 refine Calls.callWith_builtin (by show(false||(yaO cpos (yae es X.env)).any (·.1))=false;rw[hplain]<;>rfl) (yeA ?_)
 exact thn hA λus s2 ⟨vs,H2,I2,r2,q2⟩=>hm pins s2 σ H2 x vs v us Q I2 r1 r2 q2
/- xs.append(e),list.index on a module's tuple .. are MtR facts of 06m -/
end
end L2
namespace L2
open PySem PySem.Spec PyProof.Rows
def MtM (X:Cx) (id:String) (r:V->List V->Hp->VK->Prop):Prop :=
 ∀ (pins:List (Addr×Obj)) (s:yab) (σ:St) (H:Hp) (x:V) (xs:List V) (v:Value) (us:List Value) (Q:VK),Inv X pins σ H s->zU x v->qK xs us->r x xs H Q ->
  wpAny (model X.prog X.w) X.A (call (.builtin id) (v::us)) (EP X pins σ Q) X.xe s
theorem qK.one:∀{x:V}{us:List Value},qK [x] us->∃u,us=[u]/\zU x u
 |_,_,.cons r .nil=>⟨_,rfl,r⟩
theorem qK.two:∀{x y:V}{us:List Value},qK [x,y] us->∃u v,us=[u,v]/\zU x u/\zU y v
 |_,_,_,.cons r (.cons q .nil)=>⟨_,_,rfl,r,q⟩
theorem qK.eraseIdx:∀{xs:List V}{us:List Value}(i:Nat),qK xs us->qK (xs.eraseIdx i) (us.eraseIdx i)
 |_,_,_,.nil => .nil
 |_,_,0,.cons _ t=>t
 |_,_,i+1,.cons r t => .cons r (qK.eraseIdx i t)
theorem qK.reverse {xs:List V} {us:List Value} (h:qK xs us):qK xs.reverse us.reverse:=by
 induction h with
 |nil=>exact .nil
 |cons r t ih=>rw[ycv,ycv];exact qK.append ih (.cons r .nil)
theorem qK.rep {xs:List V} {us:List Value} (h:qK xs us):∀k:Nat,qK (yag k xs).flatten (yag k us).flatten
 |0 => .nil
 |k+1=>by
  rw[rS_,rS_,ybr,ybr]
  exact qK.append h (qK.rep h k)
theorem vW (its:List Value):∀(k:Nat)(acc:List Value),
  yeB (λx1 x2=>x1++x2) acc.toArray (yag k its.toArray)=(acc++(yag k its).flatten).toArray
 |0,acc=>by simp
 | k+1,acc=>by
  have e:acc.toArray++its.toArray=(acc++its).toArray:=by simp
  have e2:(acc++its)++(yag k its).flatten=acc++(yag (k+1) its).flatten:=by
   rw[rS_,ybr,ydB]
  rw[<-e2,<-vW its k (acc++its),<-e,rS_,List.foldl_cons]
section
variable{X:Cx}{pins:List (Addr×Obj)}{σ:St}{H:Hp}{s:yab}{l b:Addr}{xs ys zs:List V}
theorem Inv.lset {its its':List Value} {n:Nat} {f:Array Value->Array Value} {t':Nat} (I:Inv X pins σ H s) (hH:H l=some (.lst xs))
  (e:s.heap.get? l=some {cls:=.type "list",data:=.seq its.toArray n}) (hf:f its.toArray=its'.toArray) (hv:qK ys its') (hz:ys.length<=yas) :
  Inv X pins σ (upd H l (.lst ys)) {s with heap:=s.heap.update l (yaH f),toks:=t' }:=by
 have q:=PySem.IsL.update e f
 rw[hf]at q
 refine I.write (x:=l) (e:=l) (by rw[hH];exact trivial) (.inl rfl) (λb' u hb hu=>(Heap.get?_update_other s.heap (yaH f) (ya2 hb)).trans hu) ⟨_,q⟩ ?_
 exact⟨hz,its',_,hv,q⟩
theorem Inv.lnew {its:List Value} {t':Nat} (I:Inv X pins σ H s) (hv:qK ys its) (hz:ys.length<=yas) :
  Inv X pins σ (upd H s.heap.objs.size (.lst ys)) {s with heap:=s.heap.push {cls:=.type "list",data:=.seq its.toArray},toks:=t' } :=
 I.laid (λ_ _ q=>Heap.get?_push_of_some _ q) (yak _) ⟨hz,its,0,hv,Heap.get?_push_size _ rfl⟩
theorem Inv.fresh(I:Inv X pins σ H s):H s.heap.objs.size=none:=I.hok.fresh (yak _)
theorem Inv.lstM (I:Inv X pins σ H s) (hH:H l=some (.lst xs)):xs.length<=yas/\∃(its:List Value)(n:Nat),qK xs its/\xs.length=its.length/\s.heap.get? l=some {cls:=.type "list",data:=.seq its.toArray n}:=by
 obtain⟨z,its,n,r,e⟩:=I.hok l _ hH
 exact⟨z,its,n,r,r.length,e⟩
theorem qb4 {n:Nat} (h:n<=yas):ybQ n=false:=by
 unfold ybQ
 exact decide_eq_false (by omega)
end
section
variable{X:Cx}
def qhc:V->List V->Hp->VK->Prop:=λx vs H Q=>∃l xs y,x=.ref l/\vs=[y]/\H l=some (.lst xs)/\xs.length<yas/\Q .non (upd H l (.lst (xs++[y])))
theorem uy:MtM X "list.append" qhc:=by
 intro pins s σ H x vs v us Q I rx rv h
 obtain⟨l,xs,y,rfl,rfl,hH,hz,q⟩:=h
 cases rx
 obtain⟨u,rfl,ru⟩:=rv.one
 obtain⟨z,its,n,r,hl,e⟩:=I.lstM hH
 refine ybK F.slot_list_append ⟨_,e,rfl⟩ F.entry_list_append (F.args_list_append_2 _ _) (PySem.list_append l its.toArray n u (by rw[sT_];omega)) ⟨e,?_⟩
 refine⟨.non,_,I.lset (its':=its++[u]) hH e (by simp) (r.append (.cons ru .nil)) ?_,rfl,q⟩
 rw[lA_,ybe]
 omega
def qhd:V->List V->Hp->VK->Prop:=λx vs H Q=>∃l b xs zs,x=.ref l/\vs=[.ref b]/\H l=some (.lst xs)/\H b=some (.lst zs)/\xs.length+zs.length<=yas/\Q .non (upd H l (.lst (xs++zs)))
theorem qi7:MtM X "list.extend" qhd:=by
 intro pins s σ H x vs v us Q I rx rv h
 obtain⟨l,b,xs,zs,rfl,rfl,hH,hB,hz,q⟩:=h
 cases rx
 obtain⟨u,rfl,ru⟩:=rv.one
 cases ru
 obtain⟨z,its,n,r,hl,e⟩:=I.lstM hH
 obtain⟨z2,its2,n2,r2,hl2,e2⟩:=I.lstM hB
 have hsz:its.toArray.size+its2.toArray.size<=yas:=by rw[sT_,sT_];omega
 have hlong:¬(!its.toArray.isEmpty&&ybQ (its.toArray.size+its2.toArray.size))=true:=by
  rw[qb4 hsz,Bool.and_false]
  exact yal
 refine ybK F.slot_list_extend ⟨_,e,rfl⟩ F.entry_list_extend (F.args_list_extend_2 _ _)
  (AutoSeq1.list_extend_list_list_0 l its.toArray n b its2.toArray n2 hlong (by rw[sT_];omega) (by omega)) ⟨e,e2,?_⟩
 refine⟨.non,_,I.lset (its':=its++its2) hH e (by simp) (r.append r2) ?_,rfl,q⟩
 rw[lA_]
 omega
def qlV:R2:=λx y H Q=>∃l b xs zs,x=.ref l/\y=.ref b/\H l=some (.lst xs)/\H b=some (.lst zs)/\xs.length+zs.length<=yas/\∀p,H p=none->Q (.ref p) (upd H p (.lst (xs++zs)))
theorem qi8:OpR X (ya3 .Add) qlV:=by
 intro pins s σ H x y v u Q I rx ry h
 obtain⟨l,b,xs,zs,rfl,rfl,hH,hB,hz,q⟩:=h
 cases rx
 cases ry
 obtain⟨z,its,n,r,hl,e⟩:=I.lstM hH
 obtain⟨z2,its2,n2,r2,hl2,e2⟩:=I.lstM hB
 refine PySem.P.add_list e e2 ?_ (by rw[sT_,sT_];omega)
 have ea:its.toArray++its2.toArray=(its++its2).toArray:=by simp
 rw[ea]
 exact⟨.ref _,_,I.lnew (t':=s.toks) (r.append r2) (by rw[lA_];omega),rfl,q _ I.fresh⟩
def qlW:R2:=λx y H Q=>∃l k xs,x=.ref l/\y=.int k/\H l=some (.lst xs) /\ -(2 ^ 63)<=k/\k<2 ^ 63/\xs.length*k.toNat<=yas /\
 ∀p,H p=none->Q (.ref p) (upd H p (.lst (yag k.toNat xs).flatten))
theorem qbB {α:Type} (xs:List α) (k:Nat):(yag k xs).flatten.length=k*xs.length:=by
 induction k with
 |zero=>simp
 |succ k ih=>rw[rS_,ybr,lA_,ih,Nat.succ_mul,Nat.add_comm]
theorem qi9:OpR X (ya3 .Mult) qlW:=by
 intro pins s σ H x y v u Q I rx ry h
 obtain⟨l,k,xs,rfl,rfl,hH,h1,h2,hz,q⟩:=h
 cases rx
 obtain⟨t,rfl⟩:=ry
 obtain⟨z,its,n,r,hl,e⟩:=I.lstM hH
 have hlen:its.toArray.size*k.toNat<=yas:=by rw[sT_,<-hl];exact hz
 have hcap:¬its.toArray.size*k.toNat>(2 ^ 63-1)/8:=by
  have:(yas:Nat)<=(2 ^ 63-1)/8:=by decide
  omega
 have hfit:¬(!Builtin.List.listFitsIndex k)=true:=by
  rw[fitsIndex_both h1 h2]
  exact yal
 have hlong:¬ybQ (its.toArray.size*k.toNat)=true:=by
  rw[qb4 hlen]
  exact yal
 have hnew:yeB (λx1 x2=>x1++x2) #[] (yag (if its.toArray.isEmpty=true then 0 else k.toNat) its.toArray)=(yag k.toNat its).flatten.toArray:=by
  have f0:∀m:Nat,yeB (λx1 x2=>x1++x2) #[] (yag m its.toArray)=(yag m its).flatten.toArray:=λm=>by
   have:=vW its m []
   rw[ybF]at this
   exact this
  rw[f0]
  cases its with
  |nil=>simp
  |cons a r'=>rw[if_neg (by simp)]
 refine ybL (T:="list") (U:="int") (by decide) ⟨_,e,rfl⟩ (λs'=>ybX s' k t) noFill_list_mul yc1 ybl repeat_list F.slot_int_index.lookup
  (ybK ybl (ybX s k t) ycL (ycw _ _) (int___rmul___int_list k t l its.toArray n)
   ⟨e,rfl,⟨_,e,rfl⟩,ybK F.slot_list_mul ⟨_,e,rfl⟩ F.entry_list_mul (F.args_list_mul_2 _ _) (AutoListH.list___mul___list_int_3 l its.toArray n k t hfit hcap hlong) ⟨e,?_⟩⟩)
 rw[hnew]
 exact⟨.ref _,_,I.lnew (t':=s.toks) (r.rep k.toNat) (by rw[qbB,ye5];exact hz),rfl,q _ I.fresh⟩
end
section
variable{prog:yap}{w:World}{A:yar}{E:Value->yab->Prop}{s:yab}
set_option maxRecDepth 100000 in
end
section
variable{X:Cx}
end
end L2
namespace Att
open PySem PySem.W PySem.Calls PyProof.Rows
theorem vX {P:Params} {h:Heap}:∀(ns:List Int)(vs:List Value),WellAll P h vs (ns.map WData.int)->ybE vs ns:=by
 intro ns
 induction ns with
 |nil=>
  intro vs w
  rw[yc0]at w
  cases w
  exact .nil
 | cons n ns ih=>
  intro vs w
  rw[mC_]at w
  cases w with
  |cons a b=>
   cases a
   exact .cons _ _ (ih _ b)
theorem qdQ {l:OpenLaw} {n:Nat} (hn:l.most=some n) {P:Params} {h:Heap} {args:List WData} {vals:List Value}
  (hpre:l.row.toRowW.claim.pre args=true) (hwl:WellAll P h vals args) :
  ∃a vs ns,vals=[yad a]/\args=[WData.list (ns.map WData.int)]/\h.get? a=some {cls:=.type "list",data:=.seq vs.toArray}/\ybE vs ns/\ns.length<=n:=by
 have hsh:WShape.hasAll [] args [.list .int]=true:=(pre_splitW hpre).1
 have hc:l.pre.holds [] {args:=args}=true:=(pre_splitW hpre).2
 obtain⟨d,r,rfl,h1,h2⟩:=hasAllW_cons hsh
 obtain rfl:=hasAllW_nil h2
 obtain⟨xs,rfl,h3⟩:=hasW_list h1
 obtain⟨ns,rfl⟩:=items_int h3
 have hlen:ns.length<=n:=by
  unfold OpenLaw.pre at hc
  have h4:(WTm.not (.lt (.lit (.int (n:Int))) (.len (.arg 0)))).holds [] {args:=[.list (ns.map .int)]}=true:=by
   have h4:=(holds_andW hc).1
   rw[hn]at h4
   exact h4
  have h5:=condW_of h4 (w_not (w_lt w_lit (w_len_list (w_arg rfl))))
  rw[lM_]at h5
  refine yb5 λq=>?_
  have q':(n:Int)<((ns.length:Nat):Int):=by omega
  first
   |(rw[decide_eq_true q']at h5;exact absurd h5 (by decide))
   |(simp at h5;omega)
 cases hwl with
 |cons w1 w2=>
  cases w2
  cases w1 with
  |list ho hall=>exact⟨_,_,ns,rfl,rfl,ho,vX ns _ hall,hlen⟩
theorem qdR (l:OpenLaw) (args:List WData):l.row.toRowW.claim.post args (.bool true) args=true :=
 postW_of (r:=l.row.toRowW) (X:=(true==true))
  (show WShape.has [] (.bool true) .bool=true by first|rfl|decide|simp[WShape.has,WShape.arms,WShape.armsAll])
  (show(WTm.eq .res (.lit (.bool true))).value [] {args:=args,res:=some (.bool true),after:=args}=some (.bool (true==true))from w_eq_bool (w_res rfl) w_lit) rfl
theorem attach_call {l:OpenLaw} {n:Nat} {q:yap} {loose:List Str} {XP:(Str->Option Value)->Heap->Prop} {YP:World->Heap->Prop} {d:DefRec}
  (hn:l.most=some n) (hdf:d.params.defaults=[])
  (call:∀(w:World)(s₀ sJ:yab)(mg mb:Str->Option Value)(fa:Addr)(o:Obj)(pm cd doc:Value)(a:Addr)(vs:List Value)(ns:List Int),
   Ground q loose [] XP w s₀ mg mb sJ.heap->YP w sJ.heap ->
   sJ.heap.get? fa=some o->o.data=.func (docDef d.name d.params d.body d.scope pm cd doc)->sJ.heap.CodeRec cd d.name->mg d.name=some (.ref fa) ->
   sJ.heap.get? a=some {cls:=.type "list",data:=.seq vs.toArray}->ybE vs ns->ns.length<=n->sJ.gens = #[] ->
   ybp (model l.prog w) ydL (.call (.ref fa) ⟨[.ref a],[]⟩) (λr s'=>r=.ok (.ret (.bool true))/\OldK sJ.heap s'.heap/\s'.os=sJ.os/\yb8 s'.gens) sJ) :
  WalkO q loose XP YP l.row.toRowW d [] (λf vs=>yfz f vs):=by
 intro w s₀ sJ mg mb G Y fa o pm cd doc dV kV ho hd hcd hD hmg hg args vals as hpre hlay hrd hwl hlo
 obtain rfl:dV=.none:=Dflts.none hD hdf
 obtain rfl:kV=.none:=Dflts.noKw hD
 obtain⟨a,vs,ns,rfl,rfl,hobj,hints,hlen⟩:=qdQ hn hpre hwl
 refine enter_call (ydO (call w s₀ sJ mg mb fa o pm cd doc a vs ns G Y ho (fd_plain hd) hcd hmg hobj hints hlen hg) λr s' hq=>?_)
 obtain⟨rfl,h2,h3,h4⟩:=hq
 exact⟨.inl ⟨.bool true,.bool true,[],rfl,λ_=>rfl,.bool true,qdR l _,λ_=>⟨List.Pairwise.nil,λ_ hm=>(nomatch hm)⟩⟩,h2,h3,h4⟩
section
variable{prog:yap}{w:World}{A:yar}{E:Value->yab->Prop}{s:yab}{K:Frag}
end
end Att
namespace L2
open PySem PySem.Spec PyProof.Rows
theorem qa1:∀{vs:List Value}{ns:List Int},ybE vs ns->qK (ns.map V.int) vs
 |_,_,.nil => .nil
 |_,_,.cons n t h => .cons ⟨t,rfl⟩ (qa1 h)
def qkF(H:Hp):Prop:=∀b,H b=none\/(∃o xs,H b=some (.frz o (.lst xs)))\/∃pos q,H b=some (.lam pos q)
def qkG:Option (Addr×Addr×Pos×Str)->Hp
 |some (_,Pt,pos,q)=>λb=>if b=Pt then some (.lam pos q)else none
 |none=>λ_=>none
theorem qfj {P:yap} {w:World} {K:yai} {mg mb:Str->Option Value} {CX:CXT} {k:Nat} {fa a:Addr} {fd:yaN} {x:Str} {sp:Sp} {sJ:yab} {vs:List Value} {ns:List Int} {lm:Option (Addr×Addr×Pos×Str)}
  (KX:K.In sJ.heap) (hns:sJ.heap.Ns yah mg) (hb:sJ.heap.Ns ybS mb) (hbb:∀x:Str,x≠"__name__"->mb x=yaA x) (hlim:sJ.heap.NoLimit)
  (hbm:∃bm ob,mg "__builtins__"=some (.ref bm)/\bm≠ybS/\sJ.heap.get? bm=some ob/\ob.cls=.type "module"/\ob.dict=some ybS/\ob.data=.plain)
  (hlm:∀c Pt pos q,lm=some (c,Pt,pos,q)->yen sJ.heap c Pt/\sJ.heap.get? Pt=some (yeo #[])/\K.lookup Pt=none)
  (hg:sJ.gens = #[])
  (ha:sJ.heap.get? a=some {cls:=.type "list",data:=.seq vs.toArray}) (hi:ybE vs ns) (hl:ns.length<=yas) (hr:yn k ydL)
  (F:∀base:Heap,K.In base->base.Ns yah mg->uv P w K mg base CX k fa fd [x] sp) (hbind:∀(s:yab)(u:Value),ydJ s fd ⟨[u],[]⟩ [(x,u)])
  (hsp:∀H:Hp,qkF H->(∀c Pt pos q,lm=some (c,Pt,pos,q)->H Pt=some (.lam pos q))->SqL K H a (ns.map V.int)->sp [.ref a] H (λv _=>v=.bl true) λ_ _ _=>False)
  (hCX:∀H e s',CX [] H sJ (λ_ _ _=>False) e s'->False) :
  ybp (model P w) ydL (.call (.ref fa) ⟨[.ref a],[]⟩) (λr s'=>r=.ok (.ret (.bool true))/\OldK sJ.heap s'.heap/\s'.os=sJ.os/\yb8 s'.gens) sJ:=by
 have rv:=qa1 hi
 have lenV:=hi.length
 have core:∀H:Hp,qkF H->(∀c Pt pos q,lm=some (c,Pt,pos,q)->H Pt=some (.lam pos q))->SqL K H a (ns.map V.int)->HOk P w H sJ.heap ->
   (∀b u,H b=some u->K.lookup b=none/\((∃o xs,u=.frz o (.lst xs))\/∃c pos q,lm=some (c,b,pos,q)/\u=.lam pos q)) ->
   ybp (model P w) ydL (.call (.ref fa) ⟨[.ref a],[]⟩) (λr s'=>r=.ok (.ret (.bool true))/\OldK sJ.heap s'.heap/\s'.os=sJ.os/\yb8 s'.gens) sJ:=by
  intro H hO hT hS hok hA
  have base_of:∀{b:Addr}{o:Obj},sJ.heap.get? b=some o->H b=none->(qe5 sJ.heap H).get? b=some o:=λe n=>qe6 e n
  have noD:∀{b:Addr}{o:Obj},sJ.heap.get? b=some o->(∀its n,o.data ≠ .seq its n)->(∀f,o.data ≠ .fields f)->H b=none:=λ{b o} e d1 d2=>by
   cases q:H b with
   |none=>rfl
   | some u=>
    rcases(hA b u q).2 with⟨ob,xs,rfl⟩|⟨c,pos,q',hl2,rfl⟩
    ·obtain⟨e1,_,its,n,_,e2⟩:=hok b _ q
     rw[e]at e2;cases e2
     exact(d1 _ _ rfl).elim
    ·have e2:=(hlm _ _ _ _ hl2).2.1
     rw[e]at e2;cases e2
     exact(d2 _ rfl).elim
  have nsK:∀{b:Addr}{m:Str->Option Value},sJ.heap.Ns b m->(qe5 sJ.heap H).Ns b m:=λ{b m} ⟨o,es,ep,e,d,r⟩=>⟨o,es,ep,base_of e (noD e (λ_ _ z=>by rw[d]at z;cases z) λ_ z=>by rw[d]at z;cases z),d,r⟩
  have hKb:K.In (qe5 sJ.heap H):=λb o e=>base_of (KX b o e) (by
   cases q:H b with
   |none=>rfl
   |some u=>rw[(hA b u q).1]at e;cases e)
  have hM:Mod K mg (qe5 sJ.heap H):=⟨hKb,nsK hns,⟨mb,nsK hb,hbb⟩,let ⟨mc,h1,h2⟩:=hlim;⟨mc,nsK h1,h2⟩,
   let ⟨bm,ob,b1,b2,b3,b4,b5,b6⟩:=hbm;⟨bm,ob,b1,b2,base_of b3 (noD b3 (λ_ _ z=>by rw[b6]at z;cases z) λ_ z=>by rw[b6]at z;cases z),b4,b5,b6⟩⟩
  have e0:qit P w K mg (qe5 sJ.heap H) ydL [] sJ H:=⟨rfl,hM,λb o e=>qgU e,Nat.le_of_eq (qdw _ _),trivial,λb hb=>absurd (show b∈([]:List Addr)from hb) (by simp),hok,.of_eq hg⟩
  refine ydO ((F _ hKb (nsK hns)).run ydL [] sJ H ⟨[.ref a],[]⟩ [.ref a] [.ref a] _ _ hr e0 (hbind sJ (.ref a)) (.cons rfl .nil) (hsp H hO hT hS)) λr s' h=>?_
  cases r with
  |error e=>exact(hCX H e s' h).elim
  | ok fl=>
   cases fl with
   |next=>exact yaS h
   |brk=>exact yaS h
   |cont=>exact yaS h
   | ret u=>
    obtain⟨v,H',os,bare,un,hok',r',q⟩:=h
    have q':v=.bl true:=q
    subst q'
    obtain rfl:u=yaY true:=r'
    have asIt:∀b o,sJ.heap.get? b=some o->asItWas sJ.heap s'.heap b o:=λb o e=>by
     cases q:H b with
     |none=>exact .inl (un.keep b o e q (by intro z;exact absurd (show b∈([]:List Addr)from z) (by simp)) (by simp))
     | some u=>
      rcases(hA b u q).2 with⟨ob,xs,rfl⟩|⟨c,pos,q2,hl2,rfl⟩
      ·have z2:=un.frzs b ob _ q
       obtain⟨e1,_⟩:=hok b _ q
       obtain⟨e2,_⟩:=hok' b _ z2
       rw[e]at e1;cases e1
       exact .inl e2
      ·obtain⟨hc,e2,_⟩:=hlm _ _ _ _ hl2
       rw[e]at e2;cases e2
       rcases hok' b _ (un.tbls b pos q2 q)with z|⟨c',oc,vs',t,_,_,_,z⟩
       ·exact .inl z
       ·exact .inr (.inl ⟨(hc.tab e).isCodeTable,rfl,#[],_,rfl,by rw[Array.empty_append];exact z⟩)
    exact⟨rfl,⟨asIt,λb o e=>un.there b o e (by simp)⟩,os,bare⟩
 let T:Hp:=qkG lm
 have hTb:∀b u,T b=some u->∃c pos q,lm=some (c,b,pos,q)/\u=.lam pos q:=λb u z=>by
  cases hq:lm with
  |none=>simp only[T,hq,qkG]at z;cases z
  | some p=>
   obtain⟨c,Pt,pos,q⟩:=p
   simp only[T,hq,qkG]at z
   by_cases hbp:b=Pt
   ·rw[if_pos hbp]at z;cases z
    exact⟨c,pos,q,by rw[hbp],rfl⟩
   ·rw[if_neg hbp]at z;cases z
 have hTa:T a=none:=by
  cases q:T a with
  |none=>rfl
  |some u=>
   obtain⟨c,pos,q2,hl2,_⟩:=hTb a u q
   have:=(hlm _ _ _ _ hl2).2.1
   rw[ha]at this;cases this
 have hTt:∀c Pt pos q,lm=some (c,Pt,pos,q)->T Pt=some (.lam pos q):=λc Pt pos q e=>by
  simp only[T,e,qkG,if_true]
 cases hk:K.lookup a with
 | some o=>
  have e:=KX a o hk
  rw[ha]at e
  cases e
  refine core T (λb=>?_) hTt (.inr ⟨_,vs.toArray,_,hk,rfl,rfl,rfl,by rw[sT_,lenV];exact hl,by simpa using rv⟩) (λb u z=>?_) (λb u z=>?_)
  ·cases q:T b with
   |none=>exact .inl rfl
   |some u=>obtain⟨_,pos,q2,_,rfl⟩:=hTb b u q;exact .inr (.inr ⟨pos,q2,rfl⟩)
  ·obtain⟨c,pos,q2,hl2,rfl⟩:=hTb b u z
   exact .inl (hlm _ _ _ _ hl2).2.1
  ·obtain⟨c,pos,q2,hl2,rfl⟩:=hTb b u z
   exact⟨(hlm _ _ _ _ hl2).2.2,.inr ⟨c,pos,q2,hl2,rfl⟩⟩
 | none=>
  refine core (upd T a (.frz {cls:=.type "list",data:=.seq vs.toArray} (.lst (ns.map V.int)))) (λb=>?_) (λc Pt pos q e=>?_) (.inl (.inr ⟨{cls:=.type "list",data:=.seq vs.toArray},qi⟩)) (λb u z=>?_) (λb u z=>?_)
  ·by_cases hb:b=a
   ·subst hb;exact .inr (.inl ⟨_,_,qi⟩)
   ·rw[qm hb]
    cases q:T b with
    |none=>exact .inl rfl
    |some u=>obtain⟨_,pos,q2,_,rfl⟩:=hTb b u q;exact .inr (.inr ⟨pos,q2,rfl⟩)
  ·have h1:=hTt c Pt pos q e
   rw[qm (qA h1 hTa)]
   exact h1
  ·by_cases hb:b=a
   ·subst hb
    rw[qi]at z;cases z
    exact⟨ha,by rw[lM_];exact hl,vs,_,rv,ha⟩
   ·rw[qm hb]at z
    obtain⟨c,pos,q2,hl2,rfl⟩:=hTb b u z
    exact .inl (hlm _ _ _ _ hl2).2.1
  ·by_cases hb:b=a
   ·subst hb
    rw[qi]at z;cases z
    exact⟨hk,.inl ⟨_,_,rfl⟩⟩
   ·rw[qm hb]at z
    obtain⟨c,pos,q2,hl2,rfl⟩:=hTb b u z
    exact⟨(hlm _ _ _ _ hl2).2.2,.inr ⟨c,pos,q2,hl2,rfl⟩⟩
end L2
namespace L2
open PySem PySem.Spec PyProof.Rows
end L2
/- THE LAST THEOREM (shape;LID,My.* are yours):
   My.Adr: a structure of the addresses that your layer names (classes,functions);My.Txt K t: a structure (Prop) of the equations over K;
   My.txt_mk:{K} {implicit addresses ..} (e1:nsIn K yah "law"=some (some (.ref f))) (e2:K.lookup f=some ⟨oc,od,.func (fnOf "law" "law" params body scope dV kV doc pm an cdv ct),sl⟩) (e3:codeIn K cdv "law"=true) .. : ∃t,My.Txt K t
set_option maxRecDepth 100000 in
set_option maxHeartbeats 0 in
theorem PySem.Challenge.cw_LID_holds : PySem.Challenge.rw_LID.Holds := by
 w_on;o_law;k_head;(case hw=>w_witness2)
 k_fill
 refine L2.walk_of (l:=PySem.Challenge.rw_LID) (n:=63) (k:=40) (x:="script") (CX:=λw => ..) (sp:=λ_=>My.sp_law) rfl (by decide) rfl ⟨rfl,by decide,by decide⟩ (λw h Y=>PySem.W.kIn_of Y) ?F ?S ?C
 case F=>
  intro w mg fa h KX G hmg
  have T:∃t,My.Txt (L2.KOf KX) t:=by
   dsimp only[L2.KOf]                          -- K must stand as «<heap const> w.params» for k_is
   refine' My.txt_mk ?e1 ?e2 ?e3 ..
   (case e1=>PySem.W.k_is)                    -- in the order: a name->its address->its object->its parts
   (case e2=>PySem.W.k_is)
   ..
  obtain⟨t,T⟩:=T
  have e0:=hmg.symm.trans (yax KX G T.law)
  cases e0                                       -- fa is the law's own address
  exact⟨_,λs u => .of_eq rfl,λbase kb nb=>My.law_fn T kb nb⟩     -- if «.of_eq rfl» comes too early: refine' ⟨_,?b,λbase kb nb=>My.law_fn T kb nb⟩;exact λs u => .of_eq rfl
 case S=>exact λw H a ns hl hO hS => ..
 case C=>exact ..
(the tactic k_is has no namespace: write k_is) -/
namespace L2
open PySem PySem.Spec PyProof.Rows
def qB (s:Stmt):yd4:=match s with
 |.FunctionDef _ a _ _ _ _ _ _ _ _=>a
 |_=>{posonlyargs:=[],args:=[],vararg:=none,kwonlyargs:=[],kw_defaults:=[],kwarg:=none,defaults:=[]}
def qx (s:Stmt):List Stmt:=match s with
 |.FunctionDef _ _ b _ _ _ _ _ _ _=>b
 |_=>[]
def qd (s:Stmt):Scope:=match s with
 |.FunctionDef _ _ _ _ _ _ sc _ _ _=>sc
 |_=>{kind:=.function,names:=[],isGenerator:=false,isCoroutine:=false}
abbrev CX0:CXT:=λ_ _ _ _ _ _=>False
abbrev E0:XK:=λ_ _ _=>False
theorem qhe{X:Cx}:vR CX0 X E0:=λ_ _ _ _ _ _ _ h=>h.elim
structure Fun (K:yai) (x qual:Str) (st:Stmt) (f:Addr) (fd:yaN):Prop where
 ex:∃(oc:Value)(od:Option Addr)(kV doc pm:Value)(an:Option Addr)(cdv ct:Value)(osl:Array (Option Value)),
  fd=yav x qual (qB st) (qx st) (qd st) .none kV doc pm an cdv ct/\K.lookup f=some ⟨oc,od,.func fd,osl⟩/\yaw K cdv qual=true
 kp:yam K (.ref f)=true
section
variable{P:yap}{w:World}{K:yai}{mg:Str->Option Value}{base:Heap}
theorem Fun.ok {x qual:Str} {st:Stmt} {f:Addr} {fd:yaN} {N ps:List Str} {k:Nat} {sp:Sp} (F:Fun K x qual st f fd) (S:qy N ps (qd st)) (len:∀vs H Q E,sp vs H Q E->vs.length=ps.length)
  (hbody:∀(cdv:Value)(A:yar)(outer:List Env)(s:yab)(H:Hp)(vs:List V)(Q:VK)(E:XK),yn k (A.deeper (ya0 qual (qd st) s.heap.objs.size f cdv))->sp vs H Q E ->
   ∃t,PSs (qeZ CX0 P w K mg base N qual (qd st) f cdv A outer s H E).nox (qx st) t/\t {nx:=λ_ H'=>Q .non H',rt:=Q} (ze N vs) H):uv P w K mg base CX0 (k+1) f fd ps sp:=by
 obtain⟨oc,od,kV,doc,pm,an,cdv,ct,osl,rfl,lk,hcd⟩:=F.ex
 refine qi0 lk hcd S len λA outer s H vs Q E hr hsp=>?_
 obtain⟨t,h,q⟩:=hbody cdv A outer s H vs Q E hr hsp
 exact⟨t,h.nox,q⟩
theorem Fun.binds {x qual:Str} {st:Stmt} {f:Addr} {fd:yaN} {ps:List Str} (F:Fun K x qual st f fd)
  (h:∀(kV doc pm:Value)(an:Option Addr)(cdv ct:Value)(us:List Value),us.length=ps.length->bindArgs (yav x qual (qB st) (qx st) (qd st) .none kV doc pm an cdv ct) ⟨us,[]⟩=pure (ps.zip us)):yF K fd ps []:=by
 obtain⟨oc,od,kV,doc,pm,an,cdv,ct,osl,rfl,lk,hcd⟩:=F.ex
 exact .all (h kV doc pm an cdv ct)
theorem qZ {x qual:Str} {st:Stmt} {f:Addr} {oc:Value} {od an:Option Addr} {osl:Array (Option Value)} {kV doc pm cdv ct:Value} (l:K.lookup f=some ⟨oc,od,.func (yav x qual (qB st) (qx st) (qd st) .none kV doc pm an cdv ct),osl⟩)
  (c:yaw K cdv qual=true) (k:yam K (.ref f)=true):Fun K x qual st f (yav x qual (qB st) (qx st) (qd st) .none kV doc pm an cdv ct):=⟨⟨oc,od,kV,doc,pm,an,cdv,ct,osl,rfl,l,c⟩,k⟩
end
section
variable{X:Cx}
end
theorem qja {A B:Prop} (h:B):if false=true then A else B:=by
 rw[if_neg yal]
 exact h
theorem qjb {A B:Prop} (h:A):if true=true then A else B:=by
 rw[if_pos rfl]
 exact h
def zG(H H':Hp):Prop:=∀b o,H b=some o->H' b=some o
theorem zG.refl(H:Hp):zG H H:=λ_ _ h=>h
theorem zG.trans{H H1 H2:Hp}(a:zG H H1)(b:zG H1 H2):zG H H2:=λc o h=>b c o (a c o h)
theorem zG.free {H H':Hp} (e:zG H H') {l:Addr} (h:H' l=Option.none):H l=Option.none:=by
 cases q:H l with
 |none=>rfl
 |some o=>
  rw[e l o q]at h
  cases h
end L2
namespace L2.Sk
open PySem PySem.Spec PyProof.Rows
inductive D where
 |non|bl (b:Bool)|int (i:Int)|str (x:Str)|tup (xs:List D)|lst (xs:List D)|dic (kvs:List (Key×Int))|fz (ns:List Int)
 |exc (n:Str)
abbrev Fr0:=yai
def qjc:FuncBody->Option Pos
 |.stmts [_,_,.Return (some (.Call _ _ [⟨_,.Lambda _ _ _ pos,_⟩] _)) _]=>some pos
 |_=>none
def lamOf (K:Fr0):Option (Addr×Addr×Pos):=match PySem.W.tabIn K "dearest_first",yan K yah "dearest_first" with
 |some (c,P),some (some (.ref f))=>(match K.lookup f with
  |some ⟨_,_,.func fd,_⟩=>(qjc fd.body).map λpos=>(c,P,pos)
  |_=>none)
 |_,_=>none
abbrev qle:Str:="dearest_first.<locals>.<lambda>"
def qlX(K:Fr0)(H:Hp)(Io:Addr->Prop):Prop:=∀c P pos,lamOf K=some (c,P,pos)->H P=some (.lam pos qle)/\¬Io P
abbrev qan(K:Fr0)(H:Hp):Prop:=qlX K H λ_=>False
theorem qan.same{K:Fr0}{H H':Hp}(h:qan K H)(s:zG H H'):qan K H':=λc P pos e=>⟨s _ _ (h c P pos e).1,λz=>z⟩
structure XK6 (K:Fr0) (D:Addr):Prop where
 ga:ybw K (.ref D) "__getattribute__"=some (some (.builtin "BaseException.__getattribute__"))
 gt:ybw K (.ref D) "__getattr__"=some none
 cl:ybw K (.ref D) "__class__"=some (some (.builtin "object.__class__"))
 ob:PySem.W.mroIn K D (.type "object")=some true
 be:PySem.W.subIn K (.ref D) (.type "BaseException")=some true
 is:(PySem.W.clsIn K D).isSome=true
 no:∀T∈["int","bool","str","tuple","list","dict"],yel K (.ref D) (.type T)=some false
def yG (K:Fr0) (n:Str):Option Addr:=match yan K yah n with
 |some (some (.ref C))=>some C
 |_=>none
def clR(K:Fr0)(RN:List Str)(n:Str):Option Addr:=if RN.contains n then yG K n else none
theorem vi {K:Fr0} {RN:List Str} {n:Str} {C:Addr} (h:clR K RN n=some C):RN.contains n=true/\yG K n=some C:=by
 unfold clR at h
 split at h
 ·rename_i hn;exact⟨hn,h⟩
 ·cases h
def qmF(K:Fr0)(H:Hp)(a:Addr)(n:Str):Prop:=∃C,yG K n=some C/\XK6 K C/\∃o vs,H a=some (.frz o (.own a))/\o.cls=.ref C/\o.data=.fields vs
def uS (K:Fr0) (H:Hp) (a:Addr) (xs:List V):Prop :=
 H a=some (.tup xs)\/∃(o:Obj)(its:Array Value)(n:Nat),K.lookup a=some o/\o.cls=.type "tuple"/\o.data=.seq its n/\its.size<=yas/\qK xs its.toList
def qjd (K:Fr0) (H:Hp) (a:Addr) (xs:List V):Prop :=
 (∃o,H a=some (.frz o (.lst xs)))\/∃(o:Obj)(its:Array Value)(n:Nat),K.lookup a=some o/\o.cls=.type "list"/\o.dict=none/\o.data=.seq its n/\its.size<=yas/\qK xs its.toList
theorem uS.sq {K:Fr0} {H:Hp} {a:Addr} {xs:List V} (h:uS K H a xs):SqT K H a xs:=by
 rcases h with h|h
 ·exact .inl (.inl h)
 ·exact .inr h
theorem qjd.sq {K:Fr0} {H:Hp} {a:Addr} {xs:List V} (h:qjd K H a xs):SqL K H a xs:=by
 rcases h with h|h
 ·exact .inl (.inr h)
 ·exact .inr h
mutual
def Is (K:Fr0) (A:Addr->Prop) (H:Hp):D->V->Prop
 |.non,v=>v=.non
 |.bl b,v=>v=.bl b
 |.int i,v=>v=.int i
 |.str x,v=>v=.str x
 |.tup ds,v=>∃a xs,v=.ref a/\uS K H a xs/\IsL K A H ds xs
 |.lst ds,v=>∃a xs,v=.ref a/\A a/\H a=some (.lst xs)/\IsL K A H ds xs
 |.dic kvs,v=>∃a,v=.ref a/\A a/\H a=some (.dK (kvs.map λp=>(p.1,V.int p.2)))
 |.fz ns,v=>∃a,v=.ref a/\qjd K H a (ns.map V.int)
 |.exc n,v=>∃a,v=.ref a/\qmF K H a n
def IsL (K:Fr0) (A:Addr->Prop) (H:Hp):List D->List V->Prop
 | [],xs=>xs=[]
 |d::ds,xs=>∃x ys,xs=x::ys/\Is K A H d x/\IsL K A H ds ys
end
mutual
def imm:D->Bool
 |.tup ds=>immL ds
 |.lst _=>false
 |.dic _=>false
 |.fz _=>false
 |_=>true
def immL:List D->Bool
 | []=>true
 |d::ds=>imm d&&immL ds
end
structure Ext (A:Addr->Prop) (H H':Hp):Prop where
 tup:∀b xs,H b=some (.tup xs)->H' b=some (.tup xs)
 frz:∀b o u,H b=some (.frz o u)->H' b=some (.frz o u)
 at_:∀b o,A b->H b=some o->H' b=some o
theorem Ext.refl{A:Addr->Prop}{H:Hp}:Ext A H H:=⟨λ_ _ h=>h,λ_ _ _ h=>h,λ_ _ _ h=>h⟩
theorem Ext.of_same{A:Addr->Prop}{H H':Hp}(s:zG H H'):Ext A H H':=⟨λb xs h=>s b _ h,λb o u h=>s b _ h,λb o _ h=>s b o h⟩
mutual
theorem Is.ext {K:Fr0} {A B:Addr->Prop} {H H':Hp} (e:Ext A H H') (hAB:∀a,A a->(H a).isSome=true->B a):∀{d:D}{v:V},Is K A H d v->Is K B H' d v
 |.non,_,h=>h
 |.bl _,_,h=>h
 |.int _,_,h=>h
 |.str _,_,h=>h
 |.tup ds,_,⟨a,xs,hv,h,r⟩=>⟨a,xs,hv,h.elim (λh => .inl (e.tup _ _ h)) .inr,IsL.ext e hAB r⟩
 |.lst ds,_,⟨a,xs,hv,hA,h,r⟩=>⟨a,xs,hv,hAB a hA (by rw[h];rfl),e.at_ _ _ hA h,IsL.ext e hAB r⟩
 |.dic kvs,_,⟨a,hv,hA,h⟩=>⟨a,hv,hAB a hA (by rw[h];rfl),e.at_ _ _ hA h⟩
 |.fz ns,_,⟨a,hv,h⟩=>⟨a,hv,h.elim (λ⟨o,h⟩ => .inl ⟨o,e.frz _ _ _ h⟩) .inr⟩
 |.exc n,_,⟨a,hv,C,hc,hk,o,vs,h,r⟩=>⟨a,hv,C,hc,hk,o,vs,e.frz _ _ _ h,r⟩
theorem IsL.ext {K:Fr0} {A B:Addr->Prop} {H H':Hp} (e:Ext A H H') (hAB:∀a,A a->(H a).isSome=true->B a):∀{ds:List D}{xs:List V},IsL K A H ds xs->IsL K B H' ds xs
 | [],_,h=>h
 |_::_,_,⟨x,ys,hx,h,r⟩=>⟨x,ys,hx,Is.ext e hAB h,IsL.ext e hAB r⟩
end
mutual
theorem Is.imm {K:Fr0} {A B:Addr->Prop} {H:Hp}:∀{d:D}{v:V},imm d=true->Is K A H d v->Is K B H d v
 |.non,_,_,h=>h
 |.bl _,_,_,h=>h
 |.int _,_,_,h=>h
 |.str _,_,_,h=>h
 |.tup ds,_,i,⟨a,xs,hv,h,r⟩=>⟨a,xs,hv,h,IsL.imm (by simpa [Sk.imm] using i) r⟩
 |.lst _,_,i,_=>by simp[Sk.imm]at i
 |.dic _,_,i,_=>by simp[Sk.imm]at i
 |.fz _,_,i,_=>by simp[Sk.imm]at i
 |.exc _,_,_,h=>h
theorem IsL.imm {K:Fr0} {A B:Addr->Prop} {H:Hp}:∀{ds:List D}{xs:List V},immL ds=true->IsL K A H ds xs->IsL K B H ds xs
 | [],_,_,h=>h
 |d::ds,_,i,⟨x,ys,hx,h,r⟩=>by
  have i':Sk.imm d=true/\immL ds=true:=by simpa [immL] using i
  exact⟨x,ys,hx,Is.imm i'.1 h,IsL.imm i'.2 r⟩
end
theorem IsL.length {K:Fr0} {A:Addr->Prop} {H:Hp}:∀{ds:List D}{xs:List V},IsL K A H ds xs->xs.length=ds.length
 | [],_,h=>by rw[h];rfl
 |_::_,_,⟨x,ys,hx,_,r⟩=>by rw[hx,lC_,lC_,IsL.length r]
theorem IsL.get {K:Fr0} {A:Addr->Prop} {H:Hp}:∀{ds:List D}{xs:List V}{i:Nat}{d:D},IsL K A H ds xs->ds[i]? = some d->∃x,xs[i]? = some x/\Is K A H d x
 | [],_,_,_,_,h=>by simp at h
 |e::_,_,0,d,⟨x,ys,hx,h,r⟩,hd=>by
  have e1:e=d:=by simpa using hd
  subst e1
  exact⟨x,by rw[hx];rfl,h⟩
 |_::ds,_,i+1,d,⟨x,ys,hx,h,r⟩,hd=>by
  obtain⟨y,h1,h2⟩:=IsL.get (i:=i) (d:=d) r (by simpa using hd)
  exact⟨y,by rw[hx];simpa using h1,h2⟩
theorem IsL.append {K:Fr0} {A:Addr->Prop} {H:Hp}:∀{ds es:List D}{xs ys:List V},IsL K A H ds xs->IsL K A H es ys->IsL K A H (ds++es) (xs++ys)
 | [],_,_,_,h,g=>by rw[h];exact g
 |_::_,_,_,_,⟨x,zs,hx,h,r⟩,g=>⟨x,zs++_,by rw[hx];rfl,h,IsL.append r g⟩
theorem IsL.take {K:Fr0} {A:Addr->Prop} {H:Hp}:∀{ds:List D}{xs:List V}(n:Nat),IsL K A H ds xs->IsL K A H (ds.take n) (xs.take n)
 |_,_,0,_=>by simp[IsL]
 | [],_,_+1,h=>by rw[h];simp[IsL]
 |_::_,_,n+1,⟨x,ys,hx,h,r⟩=>by rw[hx];exact⟨x,ys.take n,rfl,h,IsL.take n r⟩
theorem IsL.drop {K:Fr0} {A:Addr->Prop} {H:Hp}:∀{ds:List D}{xs:List V}(n:Nat),IsL K A H ds xs->IsL K A H (ds.drop n) (xs.drop n)
 |_,_,0,h=>h
 | [],_,_+1,h=>by rw[h];simp[IsL]
 |_::_,_,n+1,⟨x,ys,hx,h,r⟩=>by rw[hx];exact IsL.drop n r
theorem IsL.one{K:Fr0}{A:Addr->Prop}{H:Hp}{d:D}{v:V}(h:Is K A H d v):IsL K A H [d] [v]:=⟨v,[],rfl,h,rfl⟩
theorem IsL.set {K:Fr0} {A:Addr->Prop} {H:Hp} {d:D} {v:V} (hd:Is K A H d v):∀{ds:List D}{xs:List V}(n:Nat),IsL K A H ds xs->IsL K A H (ds.set n d) (xs.set n v)
 | [],_,_,h=>by rw[h];simp[IsL]
 |_::_,_,0,⟨x,ys,hx,h,r⟩=>by rw[hx];exact⟨v,ys,rfl,hd,r⟩
 |_::_,_,n+1,⟨x,ys,hx,h,r⟩=>by rw[hx];exact⟨x,ys.set n v,rfl,h,IsL.set hd n r⟩
abbrev Env:=List (Option D)
structure Exn where
 cls:Str
 val:D
inductive R (α:Type) where
 |ok (a:α)|exc (x:Exn) (Z:Env)|bad
structure Fc where
 O:List Nat
 P:List Nat
 B:Addr->Prop
 H0:Hp
 Io:Addr->Prop
 E:Exn->Hp->Prop
 S:Nat->Option (Option V)
def Cl(O:List Nat)(σ:St)(a:Addr):Prop:=∀j∈O,σ[j]? ≠ some (some (.ref a))
def Cn(c:Fc)(σ:St)(a:Addr):Prop:=c.B a/\Cl c.O σ a
structure Rep (K:Fr0) (c:Fc) (Z:Env) (σ:St) (H:Hp):Prop where
 len:Z.length=σ.length
 val:∀i d,Z[i]? = some (some d)->∃v,σ[i]? = some (some v) /\
  ((i∈c.O/\∃ds a xs,d=.lst ds/\v=.ref a/\H a=some (.lst xs)/\IsL K (Cn c σ) H ds xs)\/(i ∉ c.O/\Is K (Cn c σ) H d v))
 own:∀j∈c.O,∀v,σ[j]? = some (some v)->∃a xs,v=.ref a/\H a=some (.lst xs)/\(c.H0 a=none\/(j∈c.P/\c.Io a))
 inj:∀i j a,i∈c.O->j∈c.O->σ[i]? = some (some (.ref a))->σ[j]? = some (some (.ref a))->i=j
 b0:(∀a,c.H0 a=none->c.B a)/\qlX K c.H0 c.Io
 kp:∀b o,c.H0 b=some o->¬c.Io b->H b=some o
 dm:∀b,H b=none->c.H0 b=none
 pO:∀j∈c.P,j∈c.O
 ps:∀j∈c.P,σ[j]? = c.S j
theorem Rep.tb{K:Fr0}{c:Fc}{Z:Env}{σ:St}{H:Hp}(r:Rep K c Z σ H):qan K H:=λq P pos e=>⟨r.kp P _ (r.b0.2 q P pos e).1 (r.b0.2 q P pos e).2,λz=>z⟩
structure Gr (O:List Nat) (σ:St) (H H':Hp):Prop where
 ext:Ext (Cl O σ) H H'
 dom:∀b,H' b=none->H b=none
theorem Gr.refl{O:List Nat}{σ:St}{H:Hp}:Gr O σ H H:=⟨Ext.refl,λ_ h=>h⟩
theorem Gr.of_same{O:List Nat}{σ:St}{H H':Hp}(s:zG H H'):Gr O σ H H':=⟨Ext.of_same s,λ_ h=>s.free h⟩
theorem Gr.trans {O:List Nat} {σ:St} {H H1 H2:Hp} (a:Gr O σ H H1) (b:Gr O σ H1 H2):Gr O σ H H2 :=
 ⟨⟨λc xs h=>b.ext.tup c xs (a.ext.tup c xs h),λc o u h=>b.ext.frz c o u (a.ext.frz c o u h),λc o hc h=>b.ext.at_ c o hc (a.ext.at_ c o hc h)⟩,λc h=>a.dom c (b.dom c h)⟩
theorem Gr.cn{c:Fc}{σ:St}{H H':Hp}(g:Gr c.O σ H H'):Ext (Cn c σ) H H':=⟨g.ext.tup,g.ext.frz,λb o hb h=>g.ext.at_ b o hb.2 h⟩
theorem Gr.is{K:Fr0}{c:Fc}{σ:St}{H H':Hp}{d:D}{v:V}(g:Gr c.O σ H H')(h:Is K (Cn c σ) H d v):Is K (Cn c σ) H' d v:=Is.ext g.cn (λ_ h _=>h) h
theorem Gr.isL{K:Fr0}{c:Fc}{σ:St}{H H':Hp}{d:List D}{v:List V}(g:Gr c.O σ H H')(h:IsL K (Cn c σ) H d v):IsL K (Cn c σ) H' d v:=IsL.ext g.cn (λ_ h _=>h) h
theorem Rep.new {K:Fr0} {c:Fc} {Z:Env} {σ:St} {H:Hp} (r:Rep K c Z σ H) {a:Addr} (h:H a=none):Cn c σ a :=
 ⟨r.b0.1 a (r.dm a h),λj hj e=>by obtain⟨b,xs,e1,e2,_⟩:=r.own j hj _ e;cases e1;rw[h]at e2;cases e2⟩
theorem Rep.same {K:Fr0} {c:Fc} {Z:Env} {σ:St} {H H':Hp} (r:Rep K c Z σ H) (s:zG H H'):Rep K c Z σ H' where
 len:=r.len
 val:=λi d h=>by
  obtain⟨v,h1,h2⟩:=r.val i d h
  refine⟨v,h1,?_⟩
  rcases h2 with⟨hi,ds,a,xs,h3,h5,h6,h7⟩|⟨hi,h3⟩
  ·exact .inl ⟨hi,ds,a,xs,h3,h5,s _ _ h6,IsL.ext (Ext.of_same s) (λ_ h _=>h) h7⟩
  ·exact .inr ⟨hi,Is.ext (Ext.of_same s) (λ_ h _=>h) h3⟩
 own:=λj hj v h=>by
  obtain⟨a,xs,h1,h2,h3⟩:=r.own j hj v h
  exact⟨a,xs,h1,s _ _ h2,h3⟩
 inj:=r.inj
 b0:=r.b0
 kp:=λb o h1 h2=>s _ _ (r.kp b o h1 h2)
 dm:=λb h=>r.dm b (s.free h)
 pO:=r.pO
 ps:=r.ps
theorem Rep.get {K:Fr0} {c:Fc} {Z:Env} {σ:St} {H:Hp} (r:Rep K c Z σ H) {i:Nat} {d:D} (hi:i ∉ c.O) (h:Z[i]? = some (some d)):∃v,σ[i]? = some (some v)/\Is K (Cn c σ) H d v:=by
 obtain⟨v,h1,h2⟩:=r.val i d h
 rcases h2 with⟨h3,_⟩|⟨_,h3⟩
 ·exact absurd h3 hi
 ·exact⟨v,h1,h3⟩
theorem Rep.getO {K:Fr0} {c:Fc} {Z:Env} {σ:St} {H:Hp} (r:Rep K c Z σ H) {i:Nat} {d:D} (hi:i∈c.O) (h:Z[i]? = some (some d)) :
  ∃ds a xs,d=.lst ds/\σ[i]? = some (some (.ref a))/\H a=some (.lst xs)/\IsL K (Cn c σ) H ds xs:=by
 obtain⟨v,h1,h2⟩:=r.val i d h
 rcases h2 with⟨_,ds,a,xs,h3,h5,h6,h7⟩|⟨h3,_⟩
 ·subst h5;exact⟨ds,a,xs,h3,h1,h6,h7⟩
 ·exact absurd hi h3
abbrev M(α:Type):=Env->R (α×Env)
def Wp (K:Fr0) (c:Fc) (σ:St) (H:Hp) (Q:VK):R (D×Env)->Prop
 |.ok (d,Z)=>∀v H',Rep K c Z σ H'->Is K (Cn c σ) H' d v->Gr c.O σ H H'->Q v H'
 |.exc x Z=>∀H',Rep K c Z σ H'->Gr c.O σ H H'->c.E x H'
 |.bad=>False
def WpB (K:Fr0) (c:Fc) (σ:St) (H:Hp) (Q:Bool->Hp->Prop):R (Bool×Env)->Prop
 |.ok (b,Z)=>∀H',Rep K c Z σ H'->Gr c.O σ H H'->Q b H'
 |.exc x Z=>∀H',Rep K c Z σ H'->Gr c.O σ H H'->c.E x H'
 |.bad=>False
def WpL (K:Fr0) (c:Fc) (σ:St) (H:Hp) (Q:List V->Hp->Prop):R (List D×Env)->Prop
 |.ok (ds,Z)=>∀vs H',Rep K c Z σ H'->IsL K (Cn c σ) H' ds vs->Gr c.O σ H H'->Q vs H'
 |.exc x Z=>∀H',Rep K c Z σ H'->Gr c.O σ H H'->c.E x H'
 |.bad=>False
def DE(X:Cx)(c:Fc)(e:Expr)(f:M D):Prop:=∃t,PE X e t/\∀Z σ H Q,Rep X.K c Z σ H->Wp X.K c σ H Q (f Z)->t σ H Q
def DT(X:Cx)(c:Fc)(e:Expr)(f:M Bool):Prop:=∃t,PT X e t/\∀Z σ H Q,Rep X.K c Z σ H->WpB X.K c σ H Q (f Z)->t σ H Q
def DA(X:Cx)(c:Fc)(es:List Expr)(f:M (List D)):Prop:=∃t,PA X es t/\∀Z σ H Q,Rep X.K c Z σ H->WpL X.K c σ H Q (f Z)->t σ H Q
def ret{α:Type}(a:α):M α:=λZ => .ok (a,Z)
def bnd {α β:Type} (f:M α) (k:α->M β):M β:=λZ=>match f Z with
 |.ok (a,Z')=>k a Z'
 |.exc x Z' => .exc x Z'
 |.bad => .bad
def lift {α:Type}:Option α->M α
 |some a=>ret a
 |none=>λ_ => .bad
theorem vY{α β:Type}{f:M α}{k:α->M β}{Z Z':Env}{a:α}(h:f Z=.ok (a,Z')):bnd f k Z=k a Z':=by unfold bnd;rw[h]
section
variable{K:Fr0}{c:Fc}{σ:St}{H H1:Hp}{Q:VK}{QB:Bool->Hp->Prop}{QL:List V->Hp->Prop}{r:R (D×Env)}
theorem Wp.gr:∀{r:R (D×Env)},Wp K c σ H Q r->Gr c.O σ H H1->Wp K c σ H1 Q r
 |.ok (d,Z),h,g=>λv H' hr hi hg=>h v H' hr hi (g.trans hg)
 |.exc x Z,h,g=>λH' hr hg=>h H' hr (g.trans hg)
 |.bad,h,_=>h
theorem WpB.gr:∀{r:R (Bool×Env)},WpB K c σ H QB r->Gr c.O σ H H1->WpB K c σ H1 QB r
 |.ok (d,Z),h,g=>λH' hr hg=>h H' hr (g.trans hg)
 |.exc x Z,h,g=>λH' hr hg=>h H' hr (g.trans hg)
 |.bad,h,_=>h
theorem WpL.gr:∀{r:R (List D×Env)},WpL K c σ H QL r->Gr c.O σ H H1->WpL K c σ H1 QL r
 |.ok (d,Z),h,g=>λv H' hr hi hg=>h v H' hr hi (g.trans hg)
 |.exc x Z,h,g=>λH' hr hg=>h H' hr (g.trans hg)
 |.bad,h,_=>h
theorem Wp.bnd {f:M D} {k:D->M D} {Z:Env} {Q':VK} (h:Wp K c σ H Q (bnd f k Z)) (hQ:∀d Z' v H',Rep K c Z' σ H'->Is K (Cn c σ) H' d v->Gr c.O σ H H'->Wp K c σ H' Q (k d Z')->Q' v H'):Wp K c σ H Q' (f Z):=by
 unfold Sk.bnd at h
 cases e:f Z with
 |ok p=>rw[e]at h;exact λv H' hr hi hg=>hQ p.1 p.2 v H' hr hi hg (h.gr hg)
 |exc x Z'=>rw[e]at h;exact h
 |bad=>rw[e]at h;exact h
theorem Wp.bndB {f:M D} {k:D->M Bool} {Z:Env} {Q':VK} (h:WpB K c σ H QB (Sk.bnd f k Z)) (hQ:∀d Z' v H',Rep K c Z' σ H'->Is K (Cn c σ) H' d v->Gr c.O σ H H'->WpB K c σ H' QB (k d Z')->Q' v H'):Wp K c σ H Q' (f Z):=by
 unfold Sk.bnd at h
 cases e:f Z with
 |ok p=>rw[e]at h;exact λv H' hr hi hg=>hQ p.1 p.2 v H' hr hi hg (h.gr hg)
 |exc x Z'=>rw[e]at h;exact h
 |bad=>rw[e]at h;exact h
theorem Wp.bndL {f:M D} {k:D->M (List D)} {Z:Env} {Q':VK} (h:WpL K c σ H QL (Sk.bnd f k Z)) (hQ:∀d Z' v H',Rep K c Z' σ H'->Is K (Cn c σ) H' d v->Gr c.O σ H H'->WpL K c σ H' QL (k d Z')->Q' v H'):Wp K c σ H Q' (f Z):=by
 unfold Sk.bnd at h
 cases e:f Z with
 |ok p=>rw[e]at h;exact λv H' hr hi hg=>hQ p.1 p.2 v H' hr hi hg (h.gr hg)
 |exc x Z'=>rw[e]at h;exact h
 |bad=>rw[e]at h;exact h
theorem WpB.bnd {f:M Bool} {k:Bool->M D} {Z:Env} {Q':Bool->Hp->Prop} (h:Wp K c σ H Q (Sk.bnd f k Z)) (hQ:∀d Z' H',Rep K c Z' σ H'->Gr c.O σ H H'->Wp K c σ H' Q (k d Z')->Q' d H'):WpB K c σ H Q' (f Z):=by
 unfold Sk.bnd at h
 cases e:f Z with
 |ok p=>rw[e]at h;exact λH' hr hg=>hQ p.1 p.2 H' hr hg (h.gr hg)
 |exc x Z'=>rw[e]at h;exact h
 |bad=>rw[e]at h;exact h
theorem WpB.bndB {f:M Bool} {k:Bool->M Bool} {Z:Env} {Q':Bool->Hp->Prop} (h:WpB K c σ H QB (Sk.bnd f k Z)) (hQ:∀d Z' H',Rep K c Z' σ H'->Gr c.O σ H H'->WpB K c σ H' QB (k d Z')->Q' d H'):WpB K c σ H Q' (f Z):=by
 unfold Sk.bnd at h
 cases e:f Z with
 |ok p=>rw[e]at h;exact λH' hr hg=>hQ p.1 p.2 H' hr hg (h.gr hg)
 |exc x Z'=>rw[e]at h;exact h
 |bad=>rw[e]at h;exact h
theorem WpL.bnd {f:M (List D)} {k:List D->M D} {Z:Env} {Q':List V->Hp->Prop} (h:Wp K c σ H Q (Sk.bnd f k Z)) (hQ:∀d Z' v H',Rep K c Z' σ H'->IsL K (Cn c σ) H' d v->Gr c.O σ H H'->Wp K c σ H' Q (k d Z')->Q' v H'):WpL K c σ H Q' (f Z):=by
 unfold Sk.bnd at h
 cases e:f Z with
 |ok p=>rw[e]at h;exact λv H' hr hi hg=>hQ p.1 p.2 v H' hr hi hg (h.gr hg)
 |exc x Z'=>rw[e]at h;exact h
 |bad=>rw[e]at h;exact h
theorem WpL.bndL {f:M (List D)} {k:List D->M (List D)} {Z:Env} {Q':List V->Hp->Prop} (h:WpL K c σ H QL (Sk.bnd f k Z)) (hQ:∀d Z' v H',Rep K c Z' σ H'->IsL K (Cn c σ) H' d v->Gr c.O σ H H'->WpL K c σ H' QL (k d Z')->Q' v H'):WpL K c σ H Q' (f Z):=by
 unfold Sk.bnd at h
 cases e:f Z with
 |ok p=>rw[e]at h;exact λv H' hr hi hg=>hQ p.1 p.2 v H' hr hi hg (h.gr hg)
 |exc x Z'=>rw[e]at h;exact h
 |bad=>rw[e]at h;exact h
theorem Wp.lift {o:Option D} {Z:Env} (h:Wp K c σ H Q (Sk.lift o Z)):∃d,o=some d/\∀v H',Rep K c Z σ H'->Is K (Cn c σ) H' d v->Gr c.O σ H H'->Q v H':=by
 cases o with
 |none=>exact h.elim
 |some d=>exact⟨d,rfl,h⟩
end
section
variable{X:Cx}{c:Fc}{a b e:Expr}{pos:Pos}
theorem qf{i j pos}:DE X c (.Constant (.int i) j pos) (ret (.int i)):=⟨_,qiB,λ_ _ H Q r h=>h _ H r rfl .refl⟩
theorem uz{i j pos}:DE X c (.Constant (.bool i) j pos) (ret (.bl i)):=⟨_,qkQ,λ_ _ H Q r h=>h _ H r rfl .refl⟩
theorem qa2{j pos}:DE X c (.Constant .none j pos) (ret .non):=⟨_,qiC,λ_ _ H Q r h=>h _ H r rfl .refl⟩
theorem uA{x j pos}:DE X c (.Constant (.str x) j pos) (ret (.str x)):=⟨_,qiD,λ_ _ H Q r h=>h _ H r rfl .refl⟩
def dv (i:Nat):M D:=λZ=>match Z[i]? with
 |some (some d) => .ok (d,Z)
 |_ => .bad
theorem qc (i:Nat) {x:Str} (ho:i ∉ c.O:=by exact of_decide_eq_false rfl) (hN:X.N[i]? = some x:=by rfl) (hv:Vis X.env.scope x:=by first|exact ybI rfl|exact ya7 (ybI rfl)|exact ya7 (ya7 rfl)) (hd:(x==("__debug__":Str))=false:=by decide)
  (hcd:(x==("__classdict__":Str))=false:=by decide):DE X c (.Name x pos) (dv i):=by
 refine⟨_,vN hN hv hd hcd,λZ σ H Q r h=>?_⟩
 unfold dv at h
 split at h
 ·rename_i d e
  obtain⟨v,h1,h2⟩:=r.get ho e
  exact⟨v,h1,h v H r h2 .refl⟩
 ·exact h.elim
theorem qdS {x:Str} {v:V} {u:Value} {d:D} (hg:Gl X x) (hm:X.mg x=some u) (rv:zU v u) (hd:∀H A,Is X.K A H d v) (hdb:(x==("__debug__":Str))=false:=by decide):DE X c (.Name x pos) (ret d) :=
 ⟨_,qbw hg hm rv hdb,λ_ _ H Q r h=>h _ H r (hd _ _) .refl⟩
theorem qe:DA X c [] (ret []):=⟨_,vQ,λ_ _ H Q r h=>h _ H r rfl .refl⟩
def qa(f:M D)(g:M (List D)):M (List D):=bnd f λd=>bnd g λds=>ret (d::ds)
theorem qb {es:List Expr} {f:M D} {g:M (List D)} (ha:DE X c e f) (hr:DA X c es g) (hs:yae (e::es) X.env=(false,eval e X.env)::yae es X.env:=by rfl):DA X c (e::es) (qa f g):=by
 obtain⟨ta,pa,wa⟩:=ha
 obtain⟨tr,pr,wr⟩:=hr
 refine⟨_,jP pa pr hs,λZ σ H Q r h=>wa Z σ H _ r (Wp.bndL h λd Z1 v H1 r1 i1 g1 h1=>wr Z1 σ H1 _ r1 (WpL.bndL h1 λds Z2 vs H2 r2 i2 g2 h2=>?_))⟩
 exact h2 _ H2 r2 ⟨v,vs,rfl,g2.is i1,i2⟩ .refl
def qC(n:Nat):Bool:=decide (n<=yas)
def jw(f:M (List D)):M D:=bnd f λds=>lift (if qC ds.length then some (.tup ds)else none)
def yp(f:M (List D)):M D:=bnd f λds=>lift (if qC ds.length then some (.lst ds)else none)
theorem qs{H:Hp}{p:Addr}(h:H p=none)(o:HO):zG H (upd H p o):=λb u q=>by rw[qm (qA q h)];exact q
theorem Rep.laid{K:Fr0}{Z:Env}{σ:St}{H:Hp}(r:Rep K c Z σ H){p:Addr}(h:H p=none)(o:HO):Rep K c Z σ (upd H p o):=r.same (qs h o)
theorem zj {p:Bool} {d e:D} (h:(if p then some d else none)=some e):p=true/\d=e:=by
 cases p with
 |true=>exact⟨rfl,by simpa using h⟩
 |false=>simp at h
theorem zB {es:List Expr} {x1} {f:M (List D)} (h:DA X c es f):DE X c (.Tuple es x1 pos) (jw f):=by
 obtain⟨t,p,w⟩:=h
 refine⟨_,qiY p,λZ σ H Q r h=>w Z σ H _ r (WpL.bnd h λds Z1 vs H1 r1 i1 g1 h1=>?_)⟩
 obtain⟨d,e,h2⟩:=h1.lift
 obtain⟨e1,e2⟩:=zj e
 subst e2
 refine⟨by rw[i1.length];exact of_decide_eq_true e1,λp hp=>h2 _ _ (r1.laid hp _) ⟨p,vs,rfl,.inl qi,IsL.ext (Ext.of_same (qs hp _)) (λ_ h _=>h) i1⟩ (.of_same (qs hp _))⟩
theorem jQ {es:List Expr} {f:M (List D)} (h:DA X c es f):DE X c (.List es pos) (yp f):=by
 obtain⟨t,p,w⟩:=h
 refine⟨_,qgk p,λZ σ H Q r h=>w Z σ H _ r (WpL.bnd h λds Z1 vs H1 r1 i1 g1 h1=>?_)⟩
 obtain⟨d,e,h2⟩:=h1.lift
 obtain⟨e1,e2⟩:=zj e
 subst e2
 refine⟨by rw[i1.length];exact of_decide_eq_true e1,λp hp=>h2 _ _ (r1.laid hp _) ⟨p,vs,rfl,r1.new hp,qi,IsL.ext (Ext.of_same (qs hp _)) (λ_ h _=>h) i1⟩ (.of_same (qs hp _))⟩
def OpS (K:Fr0) (F:D->D->Option D) (r:R2):Prop:=∀(A:Addr->Prop)(H:Hp)(x y d:D)(v u:V)(Q:VK),(∀a,H a=none->A a)->Is K A H x v->Is K A H y u->F x y=some d ->
 (∀w H',zG H H'->Is K A H' d w->Q w H')->r v u H Q
def d2(F:D->D->Option D)(f g:M D):M D:=bnd f λx=>bnd g λy=>lift (F x y)
theorem op2 {r:R2} {F:D->D->Option D} {f g:M D} {ta tb:TE} (hF:OpS X.K F r) (wa:∀Z σ H Q,Rep X.K c Z σ H->Wp X.K c σ H Q (f Z)->ta σ H Q) (wb:∀Z σ H Q,Rep X.K c Z σ H->Wp X.K c σ H Q (g Z)->tb σ H Q) :
  ∀Z σ H Q,Rep X.K c Z σ H->Wp X.K c σ H Q (d2 F f g Z)->tOp r ta tb σ H Q:=λZ σ H Q rp h=>wa Z σ H _ rp (Wp.bnd h λx Z1 v H1 r1 i1 g1 h1=>wb Z1 σ H1 _ r1 (Wp.bnd h1 λy Z2 u H2 r2 i2 g2 h2=>by
 obtain⟨d,e,h3⟩:=h2.lift
 exact hF _ H2 x y d v u Q (λa ha=>r2.new ha) (g2.is i1) i2 e λw H' s i=>h3 w H' (r2.same s) i (.of_same s)))
theorem qF {op:Operator} {r:R2} {F:D->D->Option D} {f g:M D} (ho:OpR X (ya3 op) r) (hF:OpS X.K F r) (ha:DE X c a f) (hb:DE X c b g):DE X c (.BinOp a op b pos) (d2 F f g):=by
 obtain⟨ta,pa,wa⟩:=ha
 obtain⟨tb,pb,wb⟩:=hb
 exact⟨_,qk1 ho pa pb,op2 hF wa wb⟩
theorem uB {op:CmpOp} {r:R2} {F:D->D->Option D} {f g:M D} (ho:OpR X (yaI op) r) (hF:OpS X.K F r) (ha:DE X c a f) (hb:DE X c b g) (hm:ybs op b=false):DE X c (.Compare a [op] [b] pos) (d2 F f g):=by
 obtain⟨ta,pa,wa⟩:=ha
 obtain⟨tb,pb,wb⟩:=hb
 exact⟨_,qg2 ho pa pb hm,op2 hF wa wb⟩
def asB:D->Option Bool
 |.bl b=>some b
 |_=>none
def tst(f:M D):M Bool:=bnd f λd=>lift (asB d)
theorem qb5 {K:Fr0} {σ:St} {H:Hp} {QB:Bool->Hp->Prop} {o:Option Bool} {Z:Env} (h:WpB K c σ H QB (lift o Z)):∃b,o=some b/\∀H',Rep K c Z σ H'->Gr c.O σ H H'->QB b H':=by
 cases o with
 |none=>exact h.elim
 |some d=>exact⟨d,rfl,h⟩
theorem vA {d:D} {b:Bool} (h:asB d=some b):d=.bl b:=by
 cases d<;>simp[asB]at h
 subst h;rfl
theorem zV {op:CmpOp} {r:R2} {F:D->D->Option D} {f g:M D} (ho:OpR X (yaI op) r) (hF:OpS X.K F r) (ha:DE X c a f) (hb:DE X c b g) (hm:ybs op b=false):DT X c (.Compare a [op] [b] pos) (tst (d2 F f g)):=by
 obtain⟨ta,pa,wa⟩:=ha
 obtain⟨tb,pb,wb⟩:=hb
 refine⟨_,qg3 ho pa pb hm,λZ σ H Q rp h=>op2 hF wa wb Z σ H _ rp (Wp.bndB h λd Z1 v H1 r1 i1 g1 h1=>?_)⟩
 obtain⟨b,e,h2⟩:=qb5 h1
 have:=vA e
 subst this
 exact⟨b,i1,h2 H1 r1 .refl⟩
theorem jR {f:M D} (h:DE X c e f) (he:∀whole,isTrue e X.env whole=(do let v <-whole;standAt e.pos;ydb [v] (truthy v)):=by intro _;rfl):DT X c e (tst f):=by
 obtain⟨t,p,w⟩:=h
 refine⟨_,qiE p he,λZ σ H Q rp h=>w Z σ H _ rp (Wp.bndB h λd Z1 v H1 r1 i1 g1 h1=>?_)⟩
 obtain⟨b,e,h2⟩:=qb5 h1
 have:=vA e
 subst this
 exact⟨b,i1,h2 H1 r1 .refl⟩
def vB(f:M Bool):M Bool:=bnd f λb=>ret (!b)
theorem yC {f:M Bool} (h:DT X c a f):DT X c (.UnaryOp .Not a pos) (vB f):=by
 obtain⟨t,p,w⟩:=h
 exact⟨_,qiG p,λZ σ H Q rp h=>w Z σ H _ rp (WpB.bndB h λd Z1 H1 r1 g1 h1=>h1 H1 r1 .refl)⟩
def DW(X:Cx)(c:Fc)(e:Expr)(f:M Bool):Prop:=∃t,PW X e t/\∀Z σ H Q,Rep X.K c Z σ H->WpB X.K c σ H Q (f Z)->t σ H Q
theorem DW.dt {f:M Bool} (h:DW X c e f):DT X c e f:=by
 obtain⟨t,p,w⟩:=h
 exact⟨t,p.pt,w⟩
def qlY(f g:M Bool):M Bool:=bnd f λb=>if b then g else ret false
def tor(f g:M Bool):M Bool:=bnd f λb=>if b then ret true else g
variable{wZ:List Expr}
theorem vj {f:M Bool} (h:DT X c a f):DW X c (.BoolOp .Or [a] pos) f:=by
 obtain⟨t,p,w⟩:=h
 exact⟨t,qiF p,w⟩
theorem wW {f g:M Bool} (ha:DT X c a f) (hb:DW X c (.BoolOp .Or (b::wZ) pos) g):DW X c (.BoolOp .Or (a::b::wZ) pos) (tor f g):=by
 obtain⟨ta,pa,wa⟩:=ha
 obtain⟨tb,pb,wb⟩:=hb
 refine⟨_,qkR pa pb,λZ σ H Q rp h=>wa Z σ H _ rp (WpB.bndB h λd Z1 H1 r1 g1 h1=>?_)⟩
 cases d with
 |true=>exact qjb ((by simpa using h1:WpB X.K c σ H1 Q (ret true Z1)) H1 r1 .refl)
 |false=>exact qja (wb Z1 σ H1 Q r1 (by simpa using h1))
def qje(f:M D):M D:=bnd f λd=>bnd (lift (asB d)) λb=>ret (.bl (!b))
def qdT(f g:M D):M D:=bnd f λd=>bnd (lift (asB d)) λb=>if b then g else ret (.bl false)
def dor(f g:M D):M D:=bnd f λd=>bnd (lift (asB d)) λb=>if b then ret (.bl true)else g
theorem qdU {K:Fr0} {σ:St} {H:Hp} {Q:VK} {d:D} {k:Bool->M D} {Z:Env} (h:Wp K c σ H Q (bnd (lift (asB d)) k Z)):∃b,d=.bl b/\Wp K c σ H Q (k b Z):=by
 unfold bnd at h
 cases e:asB d with
 |none=>rw[e]at h;exact h.elim
 |some b=>rw[e]at h;exact⟨b,vA e,h⟩
theorem vZ {op} {f:M D} (h:DE X c a f):DE X c (.BoolOp op [a] pos) f:=by
 obtain⟨t,p,w⟩:=h
 exact⟨t,qiH p,w⟩
theorem qgm {f:M D} (h:DE X c a f):DE X c (.UnaryOp .Not a pos) (qje f):=by
 obtain⟨t,p,w⟩:=h
 refine⟨_,qiJ p,λZ σ H Q rp h=>w Z σ H _ rp (Wp.bnd h λd Z1 v H1 r1 i1 g1 h1=>?_)⟩
 obtain⟨b,e,h2⟩:=qdU h1
 subst e
 exact⟨b,i1,h2 _ H1 r1 rfl .refl⟩
theorem qa3 {f g:M D} (ha:DE X c a f) (hb:DE X c (.BoolOp .And (b::wZ) pos) g):DE X c (.BoolOp .And (a::b::wZ) pos) (qdT f g):=by
 obtain⟨ta,pa,wa⟩:=ha
 obtain⟨tb,pb,wb⟩:=hb
 refine⟨_,qiI pa pb,λZ σ H Q rp h=>wa Z σ H _ rp (Wp.bnd h λd Z1 v H1 r1 i1 g1 h1=>?_)⟩
 obtain⟨k,e,h2⟩:=qdU h1
 subst e
 refine⟨k,i1,?_⟩
 cases k with
 |true=>exact qjb (wb Z1 σ H1 Q r1 (by simpa using h2))
 |false=>exact qja ((by simpa using h2:Wp X.K c σ H1 Q (ret (.bl false) Z1)) _ H1 r1 rfl .refl)
theorem qjf {f g:M D} (ha:DE X c a f) (hb:DE X c (.BoolOp .Or (b::wZ) pos) g):DE X c (.BoolOp .Or (a::b::wZ) pos) (dor f g):=by
 obtain⟨ta,pa,wa⟩:=ha
 obtain⟨tb,pb,wb⟩:=hb
 refine⟨_,qkU pa pb,λZ σ H Q rp h=>wa Z σ H _ rp (Wp.bnd h λd Z1 v H1 r1 i1 g1 h1=>?_)⟩
 obtain⟨k,e,h2⟩:=qdU h1
 subst e
 refine⟨k,i1,?_⟩
 cases k with
 |true=>exact qjb ((by simpa using h2:Wp X.K c σ H1 Q (ret (.bl true) Z1)) _ H1 r1 rfl .refl)
 |false=>exact qja (wb Z1 σ H1 Q r1 (by simpa using h2))
def dif(f:M Bool)(g k:M D):M D:=bnd f λb=>if b then g else k
theorem qjg {t:Expr} {f:M Bool} {g k:M D} (ht:DT X c t f) (ha:DE X c a g) (hb:DE X c b k):DE X c (.IfExp t a b pos) (dif f g k):=by
 obtain⟨tt,pt,wt⟩:=ht
 obtain⟨ta,pa,wa⟩:=ha
 obtain⟨tb,pb,wb⟩:=hb
 refine⟨_,qe8 pt pa pb,λZ σ H Q rp h=>wt Z σ H _ rp (WpB.bnd h λd Z1 H1 r1 g1 h1=>?_)⟩
 cases d with
 |true=>exact qjb (wa Z1 σ H1 Q r1 (by simpa using h1))
 |false=>exact qja (wb Z1 σ H1 Q r1 (by simpa using h1))
def uT (K:Fr0) (F:List D->Option D) (r:List V->Hp->VK->Prop):Prop:=∀(A:Addr->Prop)(H:Hp)(xs:List D)(d:D)(vs:List V)(Q:VK),(∀a,H a=none->A a)->IsL K A H xs vs->F xs=some d ->
 (∀w H',zG H H'->Is K A H' d w->Q w H')->r vs H Q
def qj(F:List D->Option D)(f:M (List D)):M D:=bnd f λds=>lift (F ds)
theorem qjh {r:List V->Hp->VK->Prop} {F:List D->Option D} {f:M (List D)} {t:TA} (hF:uT X.K F r) (w:∀Z σ H Q,Rep X.K c Z σ H->WpL X.K c σ H Q (f Z)->t σ H Q) :
  ∀Z σ H Q,Rep X.K c Z σ H->Wp X.K c σ H Q (qj F f Z)->tCB r t σ H Q:=λZ σ H Q rp h=>w Z σ H _ rp (WpL.bnd h λds Z1 vs H1 r1 i1 g1 h1=>by
 obtain⟨d,e,h3⟩:=h1.lift
 exact hF _ H1 ds d vs Q (λa ha=>r1.new ha) i1 e λw H' s i=>h3 w H' (r1.same s) i (.of_same s))
theorem qv {id:String} {x:Str} {p:Pos} {es:List Expr} {r:List V->Hp->VK->Prop} {F:List D->Option D} {f:M (List D)} (hc:jO X (.builtin id) r) (hF:uT X.K F r) (hg:Gl X x) (hm:X.mg x=none) (hv:yaA x=some (.builtin id)) (ha:DA X c (e::es) f) (hn:x≠"__name__":=by decide) (hdb:(x==("__debug__":Str))=false:=by decide)
  (he:yae (e::es) X.env=(false,eval e X.env)::yae es X.env:=by rfl) (hpl:(yaO pos (yae es X.env)).any (·.1)=false:=by rfl):DE X c (.Call (.Name x p) (e::es) [] pos) (qj F f):=by
 obtain⟨t,pa,w⟩:=ha
 exact⟨_,vz hc hg hm hv pa hn hdb he hpl,qjh hF w⟩
theorem uC {T:String} {x:Str} {p:Pos} {es:List Expr} {r:List V->Hp->VK->Prop} {F:List D->Option D} {f:M (List D)} (hc:jO X (.type T) r) (hF:uT X.K F r) (hg:Gl X x) (hm:X.mg x=none) (hv:yaA x=some (.type T)) (ha:DA X c (e::es) f) (hn:x≠"__name__":=by decide) (hdb:(x==("__debug__":Str))=false:=by decide)
  (he:yae (e::es) X.env=(false,eval e X.env)::yae es X.env:=by rfl) (hpl:(yaO pos (yae es X.env)).any (·.1)=false:=by rfl):DE X c (.Call (.Name x p) (e::es) [] pos) (qj F f):=by
 obtain⟨t,pa,w⟩:=ha
 exact⟨_,qaW hc hg hm hv pa hn hdb he hpl,qjh hF w⟩
theorem yq {r:R2} {F:D->D->Option D} {f g:M D} (hr:IxR X r) (hF:OpS X.K F r) (ha:DE X c a f) (hb:DE X c b g) (hs:qbz b:=by intro _ _;rfl):DE X c (.Subscript a b pos) (d2 F f g):=by
 obtain⟨ta,pa,wa⟩:=ha
 obtain⟨tb,pb,wb⟩:=hb
 exact⟨_,qi3 hr pa pb hs,op2 hF wa wb⟩
end
inductive Fl where
 |nx (Z:Env)|rt (d:D) (Z:Env)|bk (Z:Env)|ct (Z:Env)
structure GrS (O:List Nat) (σ:St) (H:Hp) (σ':St) (H':Hp):Prop where
 ext:Ext (Cl O σ) H H'
 cl:∀b,Cl O σ b->(H b).isSome=true->Cl O σ' b
 dom:∀b,H' b=none->H b=none
theorem qcX {H H':Hp} {b:Addr} (dom:H' b=none->H b=none) (h:(H b).isSome=true):(H' b).isSome=true:=by
 cases e:H' b with
 |none=>rw[dom e]at h;cases h
 |some o=>rfl
theorem GrS.refl{O:List Nat}{σ:St}{H:Hp}:GrS O σ H σ H:=⟨Ext.refl,λ_ h _=>h,λ_ h=>h⟩
theorem Gr.s{O:List Nat}{σ:St}{H H':Hp}(g:Gr O σ H H'):GrS O σ H σ H':=⟨g.ext,λ_ h _=>h,g.dom⟩
theorem GrS.trans {O:List Nat} {σ σ1 σ2:St} {H H1 H2:Hp} (a:GrS O σ H σ1 H1) (b:GrS O σ1 H1 σ2 H2):GrS O σ H σ2 H2 :=
 ⟨⟨λc xs h=>b.ext.tup c xs (a.ext.tup c xs h),λc o u h=>b.ext.frz c o u (a.ext.frz c o u h),λc o hc h=>b.ext.at_ c o (a.cl c hc (by rw[h];rfl)) (a.ext.at_ c o hc h)⟩,
  λc hc h=>b.cl c (a.cl c hc h) (qcX (a.dom c) h),λc h=>a.dom c (b.dom c h)⟩
theorem GrS.is {K:Fr0} {c:Fc} {σ σ':St} {H H':Hp} {d:D} {v:V} (g:GrS c.O σ H σ' H') (h:Is K (Cn c σ) H d v):Is K (Cn c σ') H' d v :=
 Is.ext ⟨g.ext.tup,g.ext.frz,λb o hb h=>g.ext.at_ b o hb.2 h⟩ (λa ha hs=>⟨ha.1,g.cl a ha.2 hs⟩) h
theorem GrS.isL {K:Fr0} {c:Fc} {σ σ':St} {H H':Hp} {d:List D} {v:List V} (g:GrS c.O σ H σ' H') (h:IsL K (Cn c σ) H d v):IsL K (Cn c σ') H' d v :=
 IsL.ext ⟨g.ext.tup,g.ext.frz,λb o hb h=>g.ext.at_ b o hb.2 h⟩ (λa ha hs=>⟨ha.1,g.cl a ha.2 hs⟩) h
def WpS (K:Fr0) (c:Fc) (σ:St) (H:Hp) (D:qdr):R Fl->Prop
 |.ok (.nx Z)=>∀σ' H',Rep K c Z σ' H'->GrS c.O σ H σ' H'->D.nx σ' H'
 |.ok (.rt d Z)=>∀v σ' H',Rep K c Z σ' H'->Is K c.B H' d v->GrS c.O σ H σ' H'->D.rt v H'
 |.ok (.bk Z)=>∀σ' H',Rep K c Z σ' H'->GrS c.O σ H σ' H'->D.bk σ' H'
 |.ok (.ct Z)=>∀σ' H',Rep K c Z σ' H'->GrS c.O σ H σ' H'->D.ct σ' H'
 |.exc x Z=>∀σ' H',Rep K c Z σ' H'->GrS c.O σ H σ' H'->c.E x H'
 |.bad=>False
abbrev MS:=Env->R Fl
def DS(X:Cx)(c:Fc)(st:Stmt)(f:MS):Prop:=∃t,PS X st t/\∀Z σ H D,Rep X.K c Z σ H->WpS X.K c σ H D (f Z)->t D σ H
def DSs(X:Cx)(c:Fc)(st:List Stmt)(f:MS):Prop:=∃t,PSs X st t/\∀Z σ H D,Rep X.K c Z σ H->WpS X.K c σ H D (f Z)->t D σ H
theorem WpS.gr {K:Fr0} {c:Fc} {σ σ1:St} {H H1:Hp} {D:qdr}:∀{r:R Fl},WpS K c σ H D r->GrS c.O σ H σ1 H1->WpS K c σ1 H1 D r
 |.ok (.nx Z),h,g=>λσ' H' hr hg=>h σ' H' hr (g.trans hg)
 |.ok (.rt d Z),h,g=>λv σ' H' hr hi hg=>h v σ' H' hr hi (g.trans hg)
 |.ok (.bk Z),h,g=>λσ' H' hr hg=>h σ' H' hr (g.trans hg)
 |.ok (.ct Z),h,g=>λσ' H' hr hg=>h σ' H' hr (g.trans hg)
 |.exc x Z,h,g=>λσ' H' hr hg=>h σ' H' hr (g.trans hg)
 |.bad,h,_=>h
def sbnd {α:Type} (f:M α) (k:α->MS):MS:=λZ=>match f Z with
 |.ok (a,Z')=>k a Z'
 |.exc x Z' => .exc x Z'
 |.bad => .bad
section
variable{K:Fr0}{c:Fc}{σ:St}{H:Hp}{D:qdr}
theorem Wp.sbnd {f:M Sk.D} {k:Sk.D->MS} {Z:Env} {Q':VK} (h:WpS K c σ H D (sbnd f k Z)) (hQ:∀d Z' v H',Rep K c Z' σ H'->Is K (Cn c σ) H' d v->Gr c.O σ H H'->WpS K c σ H' D (k d Z')->Q' v H'):Wp K c σ H Q' (f Z):=by
 unfold Sk.sbnd at h
 cases e:f Z with
 |ok p=>rw[e]at h;exact λv H' hr hi hg=>hQ p.1 p.2 v H' hr hi hg (h.gr hg.s)
 |exc x Z'=>rw[e]at h;exact λH' hr hg=>h σ H' hr hg.s
 |bad=>rw[e]at h;exact h
theorem WpB.sbnd {f:M Bool} {k:Bool->MS} {Z:Env} {Q':Bool->Hp->Prop} (h:WpS K c σ H D (sbnd f k Z)) (hQ:∀d Z' H',Rep K c Z' σ H'->Gr c.O σ H H'->WpS K c σ H' D (k d Z')->Q' d H'):WpB K c σ H Q' (f Z):=by
 unfold Sk.sbnd at h
 cases e:f Z with
 |ok p=>rw[e]at h;exact λH' hr hg=>hQ p.1 p.2 H' hr hg (h.gr hg.s)
 |exc x Z'=>rw[e]at h;exact λH' hr hg=>h σ H' hr hg.s
 |bad=>rw[e]at h;exact h
theorem WpL.sbnd {f:M (List Sk.D)} {k:List Sk.D->MS} {Z:Env} {Q':List V->Hp->Prop} (h:WpS K c σ H D (sbnd f k Z)) (hQ:∀d Z' v H',Rep K c Z' σ H'->IsL K (Cn c σ) H' d v->Gr c.O σ H H'->WpS K c σ H' D (k d Z')->Q' v H'):WpL K c σ H Q' (f Z):=by
 unfold Sk.sbnd at h
 cases e:f Z with
 |ok p=>rw[e]at h;exact λv H' hr hi hg=>hQ p.1 p.2 v H' hr hi hg (h.gr hg.s)
 |exc x Z'=>rw[e]at h;exact λH' hr hg=>h σ H' hr hg.s
 |bad=>rw[e]at h;exact h
end
def qI (f g:MS):MS:=λZ=>match f Z with
 |.ok (.nx Z')=>g Z'
 |r=>r
theorem WpS.mono_nx {K:Fr0} {c:Fc} {σ:St} {H:Hp} {D:qdr} {f g:MS} {Z:Env} {N:St->Hp->Prop} (h:WpS K c σ H D (qI f g Z)) (hN:∀Z' σ' H',Rep K c Z' σ' H'->GrS c.O σ H σ' H'->WpS K c σ' H' D (g Z')->N σ' H') :
  WpS K c σ H {D with nx:=N} (f Z):=by
 unfold qI at h
 cases e:f Z with
 |ok fl=>
  rw[e]at h
  cases fl with
  |nx Z'=>exact λσ' H' hr hg=>hN Z' σ' H' hr hg (h.gr hg)
  |rt d Z'=>exact h
  |bk Z'=>exact h
  |ct Z'=>exact h
 |exc x Z'=>rw[e]at h;exact h
 |bad=>rw[e]at h;exact h
section
variable{X:Cx}{c:Fc}{a b e:Expr}{pos:Pos}{st:Stmt}{sts:List Stmt}
theorem qhf:DSs X c [] (λZ => .ok (.nx Z)):=⟨_,qgW,λZ σ H D r h=>h σ H r .refl⟩
theorem qq {f:MS} (h:DS X c st f):DSs X c [st] f:=by
 obtain⟨t,p,w⟩:=h
 exact⟨t,qbx p,w⟩
theorem qk {f g:MS} (h:DS X c st f) (hr:DSs X c sts g):DSs X c (st::sts) (qI f g):=by
 obtain⟨t,p,w⟩:=h
 obtain⟨t2,p2,w2⟩:=hr
 exact⟨_,qe9 p p2,λZ σ H D r h=>w Z σ H _ r (h.mono_nx λZ' σ' H' r' g' h'=>w2 Z' σ' H' D r' h')⟩
def jk(f:M D):MS:=sbnd f λd Z => .ok (.rt d Z)
theorem Is.cn{K:Fr0}{σ:St}{H:Hp}{d:D}{v:V}(h:Is K (Cn c σ) H d v):Is K c.B H d v:=Is.ext Ext.refl (λ_ h _=>h.1) h
theorem qJ {f:M D} (h:DE X c e f):DS X c (.Return (some e) pos) (jk f):=by
 obtain⟨t,p,w⟩:=h
 exact⟨_,qdz p,λZ σ H D r h=>w Z σ H _ r (Wp.sbnd h λd Z1 v H1 r1 i1 g1 h1=>h1 v σ H1 r1 i1.cn .refl)⟩
def uD(f:M D):MS:=sbnd f λ_ Z => .ok (.nx Z)
theorem uU {f:M D} (h:DE X c e f) (hs:yd2 e none pos.line X.env=pure false:=by rfl):DS X c (.Expr e pos) (uD f):=by
 obtain⟨t,p,w⟩:=h
 exact⟨_,qgX p hs,λZ σ H D r h=>w Z σ H _ r (Wp.sbnd h λd Z1 v H1 r1 i1 g1 h1=>h1 σ H1 r1 .refl)⟩
def sif(f:M Bool)(g k:MS):MS:=sbnd f λb=>if b then g else k
theorem yH {t:Expr} {s1 s2:List Stmt} {f:M Bool} {g k:MS} (ht:DT X c t f) (ha:DSs X c s1 g) (hb:DSs X c s2 k):DS X c (.If t s1 s2 pos) (sif f g k):=by
 obtain⟨tt,pt,wt⟩:=ht
 obtain⟨ta,pa,wa⟩:=ha
 obtain⟨tb,pb,wb⟩:=hb
 refine⟨_,qkX pt pa pb,λZ σ H D rp h=>wt Z σ H _ rp (WpB.sbnd h λd Z1 H1 r1 g1 h1=>?_)⟩
 cases d with
 |true=>exact qjb (wa Z1 σ H1 D r1 (by simpa using h1))
 |false=>exact qja (wb Z1 σ H1 D r1 (by simpa using h1))
theorem qX{α:Type}{l:List α}{i j:Nat}{v:α}(h:j≠i):(l.set i v)[j]? = l[j]? := List.getElem?_set_ne (ya2 h)
theorem Cl.set {O:List Nat} {σ:St} {i:Nat} {v:Option V} (hi:i ∉ O) (a:Addr):Cl O (σ.set i v) a ↔ Cl O σ a:=by
 constructor
 ·intro h j hj
  have e:j≠i:=λe=>hi (e▸hj)
  have:=h j hj
  rw[qX e]at this
  exact this
 ·intro h j hj
  have e:j≠i:=λe=>hi (e▸hj)
  rw[qX e]
  exact h j hj
theorem Rep.set {K:Fr0} {Z:Env} {σ:St} {H:Hp} {i:Nat} {d:D} {v:V} (r:Rep K c Z σ H) (hi:i ∉ c.O) (h:Is K (Cn c σ) H d v):Rep K c (Z.set i (some d)) (σ.set i (some v)) H where
 len:=by rw[lS_,lS_];exact r.len
 val := λj e hj=>by
  have up:∀{d':D}{v':V},Is K (Cn c σ) H d' v'->Is K (Cn c (σ.set i (some v))) H d' v':=λh=>Is.ext Ext.refl (λa ha _=>⟨ha.1,(Cl.set hi a).mpr ha.2⟩) h
  by_cases e1:j=i
  ·subst e1
   have hl:j<Z.length:=by
    have:=(gI_.mp hj).1
    rwa [lS_]at this
   rw[List.getElem?_set_self hl]at hj
   cases hj
   refine⟨v,List.getElem?_set_self (by rw[<-r.len];exact hl),.inr ⟨hi,up h⟩⟩
  ·rw[qX e1]at hj
   obtain⟨w,h1,h2⟩:=r.val j e hj
   refine⟨w,by rw[qX e1];exact h1,?_⟩
   rcases h2 with⟨hj2,ds,a,xs,h3,h5,h6,h7⟩|⟨h3,h4⟩
   ·exact .inl ⟨hj2,ds,a,xs,h3,h5,h6,IsL.ext Ext.refl (λa ha _=>⟨ha.1,(Cl.set hi a).mpr ha.2⟩) h7⟩
   ·exact .inr ⟨h3,up h4⟩
 own:=λj hj w h=>by
  have e1:j≠i:=λe=>hi (e▸hj)
  rw[qX e1]at h
  exact r.own j hj w h
 inj:=λj k a hj hk h1 h2=>by
  have e1:j≠i:=λe=>hi (e▸hj)
  have e2:k≠i:=λe=>hi (e▸hk)
  rw[qX e1]at h1
  rw[qX e2]at h2
  exact r.inj j k a hj hk h1 h2
 b0:=r.b0
 kp:=r.kp
 dm:=r.dm
 pO:=r.pO
 ps:=λj hj=>by
  have e:j≠i:=λe=>hi (e▸r.pO j hj)
  rw[qX e];exact r.ps j hj
theorem GrS.set{O:List Nat}{σ:St}{H:Hp}{i:Nat}{v:Option V}(hi:i ∉ O):GrS O σ H (σ.set i v) H:=⟨Ext.refl,λb h _=>(Cl.set hi b).mpr h,λ_ h=>h⟩
def zb(i:Nat)(f:M D):MS:=sbnd f λd Z => .ok (.nx (Z.set i (some d)))
theorem zw {i:Nat} {x:Str} {pos':Pos} {f:M D} (hN:X.N.Nodup) (he:DE X c e f) (ho:i ∉ c.O:=by exact of_decide_eq_false rfl) (hi:X.N[i]? = some x:=by rfl) (hx:Loc X.env.scope x:=by first|exact ybI rfl|exact ya7 rfl) (hs:yd2 e (some (.Name x pos')) pos.line X.env=pure false:=by rfl) (hf:X.fn x=true\/X.env.scope.names.lookup x=some .local:=by first|exact .inl rfl|exact .inr rfl|assumption) :
  DS X c (.Assign [.Name x pos'] e pos) (zb i f):=by
 obtain⟨t,p,w⟩:=he
 refine⟨_,qge hN hi hx p hs hf,λZ σ H D r h=>w Z σ H _ r (Wp.sbnd h λd Z1 v H1 r1 i1 g1 h1=>?_)⟩
 exact h1 _ H1 (r1.set ho i1) (.set ho)
def DG (X:Cx) (c:Fc) (tg:Expr) (f:D->Env->Option Env):Prop:=∃g,PG X tg g/\∀Z σ H d v Z' (N:St->Hp->Prop),Rep X.K c Z σ H->Is X.K (Cn c σ) H d v->f d Z=some Z' ->
 (∀σ',Rep X.K c Z' σ' H->GrS c.O σ H σ' H->(∀j∈c.O,σ'[j]? = σ[j]?)->N σ' H)->g v σ H N
def ql(i:Nat):D->Env->Option Env:=λd Z=>some (Z.set i (some d))
theorem qH {i:Nat} {x:Str} (hN:X.N.Nodup) (ho:i ∉ c.O:=by exact of_decide_eq_false rfl) (hi:X.N[i]? = some x:=by rfl) (hx:Loc X.env.scope x:=by first|exact ybI rfl|exact ya7 rfl) (hf:X.fn x=true\/X.env.scope.names.lookup x=some .local:=by first|exact .inl rfl|exact .inr rfl|assumption) {p:Pos}:DG X c (.Name x p) (ql i):=by
 refine⟨_,qgY hN hi hx hf,λZ σ H d v Z' N r h e k=>?_⟩
 cases e
 exact k _ (r.set ho h) (.set ho) λj hj=>qX λe=>ho (e▸hj)
def DGs (X:Cx) (c:Fc) (tgs:List Expr) (f:List D->Env->Option Env):Prop:=∃g,PGs X tgs g/\∀Z σ H ds vs Z' (N:St->Hp->Prop),Rep X.K c Z σ H->IsL X.K (Cn c σ) H ds vs->f ds Z=some Z' ->
 (∀σ',Rep X.K c Z' σ' H->GrS c.O σ H σ' H->(∀j∈c.O,σ'[j]? = σ[j]?)->N σ' H)->g vs σ H N
def v3:List D->Env->Option Env
 | [],Z=>some Z
 |_,_=>none
def qO (f:D->Env->Option Env) (g:List D->Env->Option Env):List D->Env->Option Env
 |d::ds,Z=>(f d Z).bind (g ds)
 |_,_=>none
theorem ue:DGs X c [] v3:=by
 refine⟨_,qgZ,λZ σ H ds vs Z' N r h e k=>?_⟩
 cases ds with
 |nil=>
  cases e
  exact⟨h,k σ r .refl λ_ _=>rfl⟩
 |cons d ds=>cases e
theorem zh {tg:Expr} {tgs:List Expr} {f:D->Env->Option Env} {g:List D->Env->Option Env} (h1:DG X c tg f) (h2:DGs X c tgs g)
  (hs:(ybj (tg::tgs) X.env).map (·.2)=ydh tg X.env::(ybj tgs X.env).map (·.2):=by rfl):DGs X c (tg::tgs) (qO f g):=by
 obtain⟨t1,p1,w1⟩:=h1
 obtain⟨t2,p2,w2⟩:=h2
 refine⟨_,qfa p1 p2 hs,λZ σ H ds vs Z' N r h e k=>?_⟩
 cases ds with
 |nil=>cases e
 | cons d ds=>
  obtain⟨v,ws,rfl,i1,i2⟩:=h
  have e':(f d Z).bind (g ds)=some Z':=e
  cases e1:f d Z with
  |none=>rw[e1]at e';cases e'
  |some Z1=>
   rw[e1]at e'
   exact⟨v,ws,rfl,w1 Z σ H d v Z1 _ r i1 e1 λσ1 r1 g1 o1=>w2 Z1 σ1 H ds ws Z' N r1 (g1.isL i2) e' λσ2 r2 g2 o2=>k σ2 r2 (g1.trans g2) λj hj=>(o2 j hj).trans (o1 j hj)⟩
def v4 (n:Nat) (g:List D->Env->Option Env):D->Env->Option Env
 |.tup ds,Z=>if ds.length=n then g ds Z else none
 |_,_=>none
theorem v5 {es:List Expr} {k n:Nat} {p:Pos} {g:List D->Env->Option Env} (hc:X.calm=true) (h:DGs X c es g) (hn:(ybj es X.env).length=n:=by rfl) (hst:(ybj es X.env).findIdx? (·.1)=none:=by rfl):DG X c (.Tuple es k p) (v4 n g):=by
 obtain⟨t,p,w⟩:=h
 refine⟨_,qiL (n:=n) hc p hn hst,λZ σ H d v Z' N r h e q=>?_⟩
 cases d with
 | tup ds=>
  obtain⟨a,xs,rfl,ta,il⟩:=h
  have e':(if ds.length=n then g ds Z else none)=some Z':=e
  by_cases hl:ds.length=n
  ·rw[if_pos hl]at e'
   exact⟨a,xs,rfl,ta.sq,by rw[il.length];exact hl,w Z σ H ds xs Z' N r il e' q⟩
  ·rw[if_neg hl]at e';cases e'
 |_=>cases e
def qkH (f:M D) (g:D->Env->Option Env):MS:=sbnd f λd Z=>match g d Z with
 |some Z' => .ok (.nx Z')
 |none => .bad
theorem qji {tg:Expr} {f:M D} {g:D->Env->Option Env} (he:DE X c e f) (hg:DG X c tg g) (hs:ycF [tg] e pos.line X.env=pure false:=by rfl) (hw:ycG [tg] e X.env=pure none:=by rfl) (h1:(ybj [tg] X.env).map (·.2)=[ydh tg X.env]:=by rfl):DS X c (.Assign [tg] e pos) (qkH f g):=by
 obtain⟨t,p,w⟩:=he
 obtain⟨t2,p2,w2⟩:=hg
 refine⟨_,qgd p p2 hs hw h1,λZ σ H D r h=>w Z σ H _ r (Wp.sbnd h λd Z1 v H1 r1 i1 g1 h1=>?_)⟩
 cases e:g d Z1 with
 |none=>rw[e]at h1;exact h1.elim
 |some Z2=>
  rw[e]at h1
  exact w2 Z1 σ H1 d v Z2 _ r1 i1 e λσ' r2 g2 _=>h1 σ' H1 r2 g2
end
section
variable{K:Fr0}
def iiD (g:Int->Int->D):D->D->Option D
 |.int i,.int j=>some (g i j)
 |_,_=>none
def qfk (C:Int->Int->Bool) (g:Int->Int->D):D->D->Option D
 |.int i,.int j=>if C i j then some (g i j)else none
 |_,_=>none
theorem v7 {g:Int->Int->V} {gD:Int->Int->D} (hg:∀A H i j,Is K A H (gD i j) (g i j)):OpS K (iiD gD) (rI0 g):=by
 intro A H x y d v u Q hn ix iy e k
 cases x<;>cases y<;>simp only[iiD]at e<;>try (cases e;done)
 rename_i i j
 cases (yaF e)
 cases (show v=.int i from ix)
 cases (show u=.int j from iy)
 exact⟨i,j,rfl,rfl,k _ H (zG.refl H) (hg _ _ _ _)⟩
theorem qdV {C:Int->Int->Prop} {CB:Int->Int->Bool} {g:Int->Int->V} {gD:Int->Int->D} (hC:∀i j,CB i j=true->C i j) (hg:∀A H i j,Is K A H (gD i j) (g i j)):OpS K (qfk CB gD) (rI C g):=by
 intro A H x y d v u Q hn ix iy e k
 cases x<;>cases y<;>simp only[qfk]at e<;>try (cases e;done)
 rename_i i j
 obtain⟨e1,e2⟩:=zj e
 subst e2
 cases (show v=.int i from ix)
 cases (show u=.int j from iy)
 exact⟨i,j,rfl,rfl,hC i j e1,k _ H (zG.refl H) (hg _ _ _ _)⟩
def qiu:D->D->Option D:=iiD λi j => .int (i-j)
theorem qdW:OpS K qiu (rI0 λi j => .int (i-j)):=v7 λ_ _ _ _=>rfl
def z9(i:Int):Bool:=decide (-(2 ^ 64)<i)&&decide (i<2 ^ 64)
theorem qa4 {i:Int} (h:z9 i=true) : -(2 ^ 64)<i/\i<2 ^ 64:=by
 unfold z9 at h
 rw[yaj]at h
 exact⟨of_decide_eq_true h.1,of_decide_eq_true h.2⟩
def qdX(i j:Int):Bool:=z9 i||z9 j
theorem qfl {i j:Int} (h:qdX i j=true):qiS i j:=by
 unfold qdX at h
 rw[yc2]at h
 rcases h with h|h
 ·exact .inl (qa4 h)
 ·exact .inr (qa4 h)
def qcY(i j:Int):Bool:=decide (0<j)&&decide (j<1606938044258990275541962092341162602522202993782792835301376)
theorem qb6 {i j:Int} (h:qcY i j=true):qiR i j:=by
 unfold qcY at h
 rw[yaj]at h
 exact⟨of_decide_eq_true h.1,of_decide_eq_true h.2⟩
def qfm:D->D->Option D:=qfk qcY λi j => .int (i/j)
theorem qfn:OpS K qfm (rI qiR λi j => .int (i/j)):=qdV (λ_ _=>qb6) λ_ _ _ _=>rfl
def qbu:D->D->Option D:=qfk (λ_ j=>decide (0<j)) λi j => .int (i%j)
theorem v8:OpS K qbu (rI (λ_ j=>0<j) λi j => .int (i%j)):=qdV (λ_ _ h=>of_decide_eq_true h) λ_ _ _ _=>rfl
def ltD:D->D->Option D:=iiD λi j => .bl (decide (i<j))
def leD:D->D->Option D:=iiD λi j => .bl (decide (i<=j))
def gtD:D->D->Option D:=iiD λi j => .bl (decide (j<i))
def geD:D->D->Option D:=iiD λi j => .bl (decide (j<=i))
theorem qgn:OpS K ltD (rI0 λi j => .bl (decide (i<j))):=v7 λ_ _ _ _=>rfl
theorem qdY:OpS K leD (rI0 λi j => .bl (decide (i<=j))):=v7 λ_ _ _ _=>rfl
theorem w6:OpS K gtD (rI0 λi j => .bl (decide (j<i))):=v7 λ_ _ _ _=>rfl
theorem qjj:OpS K geD (rI0 λi j => .bl (decide (j<=i))):=v7 λ_ _ _ _=>rfl
def sc2:D->D->Option Bool
 |.non,.non=>some true|.non,.int _=>some false|.int _,.non=>some false|.non,.bl _=>some false|.bl _,.non=>some false|.non,.str _=>some false|.str _,.non=>some false
 |.int i,.int j=>some (decide (i=j))|.bl i,.bl j=>some (decide (i=j))|.str i,.str j=>some (decide (i=j))
 |.int _,.str _=>some false|.str _,.int _=>some false|.bl _,.str _=>some false|.str _,.bl _=>some false
 |_,_=>none
def eqS(x y:D):Option D:=(sc2 x y).map D.bl
def neS(x y:D):Option D:=(sc2 x y).map λb=>D.bl (!b)
theorem qgo {A:Addr->Prop} {H:Hp} {x y:D} {v u:V} {b:Bool} (ix:Is K A H x v) (iy:Is K A H y u) (e:sc2 x y=some b):qk3 v u=true/\decide (v=u)=b:=by
 cases x<;>cases y<;>simp only[sc2]at e<;>first
  |(cases e;done)
  |(cases ix;cases iy;cases e;exact⟨rfl,rfl⟩)
  |(cases ix;cases iy;cases e;exact⟨rfl,by simp⟩)
  |(cases ix;cases iy;cases e;exact⟨rfl,by rw[ybU];simp⟩)
theorem qhg:OpS K eqS rEq:=by
 intro A H x y d v u Q hn ix iy e k
 unfold eqS at e
 cases e1:sc2 x y with
 |none=>rw[e1]at e;cases e
 |some b=>
  rw[e1]at e
  cases e
  obtain⟨h1,h2⟩:=qgo ix iy e1
  exact⟨h1,by rw[h2];exact k _ H (zG.refl H) rfl⟩
theorem qhh:OpS K neS rNe:=by
 intro A H x y d v u Q hn ix iy e k
 unfold neS at e
 cases e1:sc2 x y with
 |none=>rw[e1]at e;cases e
 |some b=>
  rw[e1]at e
  cases e
  obtain⟨h1,h2⟩:=qgo ix iy e1
  exact⟨h1,by rw[h2];exact k _ H (zG.refl H) rfl⟩
def yI:D->Bool
 |.non=>true
 |_=>false
theorem qb7 {A:Addr->Prop} {H:Hp} {x:D} {v:V} (ix:Is K A H x v):decide (v=V.non)=yI x:=by
 cases x with
 |non=>cases ix;rfl
 |bl b=>cases ix;rfl
 |int i=>cases ix;rfl
 |str s=>cases ix;rfl
 |tup ds=>obtain⟨a,xs,rfl,_⟩:=ix;rfl
 |lst ds=>obtain⟨a,xs,rfl,_⟩:=ix;rfl
 |dic ds=>obtain⟨a,rfl,_⟩:=ix;rfl
 |fz ds=>obtain⟨a,rfl,_⟩:=ix;rfl
 |exc ds=>obtain⟨a,rfl,_⟩:=ix;rfl
def isN(x y:D):Option D:=if yI y then some (.bl (yI x))else none
def qmG(x y:D):Option D:=if yI y then some (.bl (!yI x))else none
theorem qdZ:OpS K isN (λx y H Q=>y=.non/\Q (.bl (decide (x=.non))) H):=by
 intro A H x y d v u Q hn ix iy e k
 obtain⟨e1,e2⟩:=zj e
 subst e2
 have h:=qb7 iy
 rw[e1]at h
 refine⟨of_decide_eq_true h,?_⟩
 rw[qb7 ix]
 exact k _ H (zG.refl H) rfl
def ixD:D->D->Option D
 |.tup ds,.int i=>atI ds i
 |.lst ds,.int i=>atI ds i
 |.fz ns,.int i=>(atI ns i).map D.int
 |_,_=>none
theorem IsL.atI {A:Addr->Prop} {H:Hp} {ds:List D} {xs:List V} {i:Int} {d:D} (h:IsL K A H ds xs) (e:L2.atI ds i=some d):∃v,L2.atI xs i=some v/\Is K A H d v:=by
 unfold L2.atI at e |-
 rw[h.length]
 cases e1:ixN ds.length i with
 |none=>rw[e1]at e;cases e
 |some j=>
  rw[e1]at e
  exact h.get e
theorem zW:OpS K ixD (λx y H Q=>qla K x y H Q\/qlb K x y H Q):=by
 intro A H x y d v u Q hn ix iy e k
 cases x<;>cases y<;>simp only[ixD]at e<;>try (cases e;done)
 ·rename_i ds i
  cases iy
  obtain⟨a,xs,rfl,ta,il⟩:=ix
  obtain⟨w,h1,h2⟩:=il.atI e
  exact .inr ⟨a,xs,i,w,rfl,rfl,ta.sq,h1,k w H (zG.refl H) h2⟩
 ·rename_i ds i
  cases iy
  obtain⟨a,xs,rfl,_,ta,il⟩:=ix
  obtain⟨w,h1,h2⟩:=il.atI e
  exact .inl ⟨a,xs,i,w,rfl,rfl,.inl (.inl ta),h1,k w H (zG.refl H) h2⟩
 ·rename_i ns i
  cases iy
  obtain⟨a,rfl,ta⟩:=ix
  cases e1:L2.atI ns i with
  |none=>rw[e1]at e;cases e
  | some m=>
   rw[e1]at e
   cases e
   have h1:L2.atI (ns.map V.int) i=some (V.int m):=by
    unfold L2.atI at e1 |-
    rw[lM_]
    cases e2:ixN ns.length i with
    |none=>rw[e2]at e1;cases e1
    |some j=>
     rw[e2]at e1
     have e3:ns[j]? = some m:=e1
     show(ns.map V.int)[j]? = some (V.int m)
     rw[gM_,e3];rfl
   exact .inl ⟨a,_,i,.int m,rfl,rfl,ta.sq,h1,k _ H (zG.refl H) rfl⟩
theorem IsL.inv1 {A:Addr->Prop} {H:Hp} {d:D} {vs:List V} (h:IsL K A H [d] vs):∃v,vs=[v]/\Is K A H d v:=by
 obtain⟨x,ys,e1,e2,e3⟩:=h
 have e3':ys=[]:=e3
 exact⟨x,by rw[e1,e3'],e2⟩
theorem IsL.inv2 {A:Addr->Prop} {H:Hp} {d d':D} {vs:List V} (h:IsL K A H [d,d'] vs):∃v w,vs=[v,w]/\Is K A H d v/\Is K A H d' w:=by
 obtain⟨x,ys,e1,e2,e3⟩:=h
 obtain⟨w,e4,e5⟩:=IsL.inv1 e3
 exact⟨x,w,by rw[e1,e4],e2,e5⟩
def qmU:List D->Option D
 | [.int i]=>some (.int (if i<0 then -i else i))
 |_=>none
def qhi:List D->Option D
 | [.int i,.int j]=>some (.int (if j>i then j else i))
 |_=>none
def qhj:List D->Option D
 | [.int i,.int j]=>some (.int (if j<i then j else i))
 |_=>none
theorem qd0:uT K qhi (λxs H Q=>∃i j,xs=[.int i,.int j]/\Q (.int (if j>i then j else i)) H):=by
 intro A H xs d vs Q hn h e k
 unfold qhi at e
 split at e
 ·rename_i i j
  obtain⟨v,w,rfl,e2,e3⟩:=IsL.inv2 h
  cases e2;cases e3;cases e
  exact⟨i,j,rfl,k _ H (zG.refl H) rfl⟩
 ·cases e
theorem qd1:uT K qhj (λxs H Q=>∃i j,xs=[.int i,.int j]/\Q (.int (if j<i then j else i)) H):=by
 intro A H xs d vs Q hn h e k
 unfold qhj at e
 split at e
 ·rename_i i j
  obtain⟨v,w,rfl,e2,e3⟩:=IsL.inv2 h
  cases e2;cases e3;cases e
  exact⟨i,j,rfl,k _ H (zG.refl H) rfl⟩
 ·cases e
def v9:List D->Option D
 | [.int i,.int j]=>if qcY i j then some (.tup [.int (i/j),.int (i%j)])else none
 |_=>none
theorem qa5:uT K v9 (λxs H Q=>∃i j,xs=[.int i,.int j]/\qiR i j/\∀p,H p=none->Q (.ref p) (upd H p (.tup [.int (i/j),.int (i%j)]))):=by
 intro A H xs d vs Q hn h e k
 unfold v9 at e
 split at e
 ·rename_i i j
  obtain⟨v,w,rfl,e2,e3⟩:=IsL.inv2 h
  cases e2;cases e3
  obtain⟨e6,e7⟩:=zj e
  subst e7
  exact⟨i,j,rfl,qb6 e6,λp hp=>k _ _ (qs hp _) ⟨p,_,rfl,.inl qi,_,_,rfl,rfl,_,_,rfl,rfl,rfl⟩⟩
 ·cases e
def qcZ:List D->Option D
 | [.int i]=>some (.int i)
 | [.bl b]=>some (.int (if b then 1 else 0))
 |_=>none
theorem qc0:uT K qcZ (λxs H Q=>(∃i,xs=[.int i]/\Q (.int i) H)\/∃k,xs=[.bl k]/\Q (.int (if k then 1 else 0)) H):=by
 intro A H xs d vs Q hn h e k
 unfold qcZ at e
 split at e
 ·rename_i i
  obtain⟨v,rfl,e2⟩:=IsL.inv1 h
  cases e2;cases e
  exact .inl ⟨i,rfl,k _ H (zG.refl H) rfl⟩
 ·rename_i b
  obtain⟨v,rfl,e2⟩:=IsL.inv1 h
  cases e2;cases e
  exact .inr ⟨b,rfl,k _ H (zG.refl H) rfl⟩
 ·cases e
def uw:List D->Option D
 | [.tup ds]=>some (.int ds.length)
 | [.lst ds]=>some (.int ds.length)
 | [.fz ns]=>some (.int ns.length)
 | [.str x]=>if qC x.length then some (.int x.length)else none
 |_=>none
def qlZ(K:Fr0):List V->Hp->VK->Prop:=λxs H Q=>(∃p ys,xs=[.ref p]/\(SqL K H p ys\/SqT K H p ys)/\Q (.int ys.length) H)\/(∃z,xs=[.str z]/\z.length<=yas/\Q (.int z.length) H)
theorem zk{X:Cx}:jO X (.builtin "len") (qlZ X.K):=jO.or qaY qaZ
theorem zl:uT K uw (qlZ K):=by
 intro A H xs d vs Q hn h e k
 unfold uw at e
 split at e
 ·obtain⟨v,rfl,a,zs,rfl,ta,il⟩:=IsL.inv1 h
  cases e
  exact .inl ⟨a,zs,rfl,.inr ta.sq,by rw[il.length];exact k _ H (zG.refl H) rfl⟩
 ·obtain⟨v,rfl,a,zs,rfl,_,ta,il⟩:=IsL.inv1 h
  cases e
  exact .inl ⟨a,zs,rfl,.inl (.inl (.inl ta)),by rw[il.length];exact k _ H (zG.refl H) rfl⟩
 ·obtain⟨v,rfl,a,rfl,ta⟩:=IsL.inv1 h
  cases e
  exact .inl ⟨a,_,rfl,.inl ta.sq,by rw[lM_];exact k _ H (zG.refl H) rfl⟩
 ·rename_i z
  obtain⟨v,rfl,e2⟩:=IsL.inv1 h
  cases e2
  obtain⟨e4,e5⟩:=zj e
  subst e5
  exact .inr ⟨z,rfl,of_decide_eq_true e4,k _ H (zG.refl H) rfl⟩
 ·cases e
def ye:List D->Option D
 | [.tup ds]=>some (.tup ds)
 | [.lst ds]=>some (.tup ds)
 |_=>none
theorem wd:uT K ye (λxs H Q=>∃p ys,xs=[.ref p]/\((SqL K H p ys/\∀l,H l=none->Q (.ref l) (upd H l (.tup ys)))\/(SqT K H p ys/\Q (.ref p) H))):=by
 intro A H xs d vs Q hn h e k
 unfold ye at e
 split at e
 ·obtain⟨v,rfl,a,zs,rfl,ta,il⟩:=IsL.inv1 h
  cases e
  exact⟨a,zs,rfl,.inr ⟨ta.sq,k _ H (zG.refl H) ⟨a,zs,rfl,ta,il⟩⟩⟩
 ·obtain⟨v,rfl,a,zs,rfl,_,ta,il⟩:=IsL.inv1 h
  cases e
  exact⟨a,zs,rfl,.inl ⟨.inl (.inl ta),λl hl=>k _ _ (qs hl _) ⟨l,zs,rfl,.inl qi,IsL.ext (Ext.of_same (qs hl _)) (λ_ h _=>h) il⟩⟩⟩
 ·cases e
def qc1:List D->Option D
 | [.tup ds]=>some (.lst ds)
 | [.lst ds]=>some (.lst ds)
 |_=>none
theorem qc2:uT K qc1 (λxs H Q=>∃p ys,xs=[.ref p]/\(SqL K H p ys\/SqT K H p ys)/\∀l,H l=none->Q (.ref l) (upd H l (.lst ys))):=by
 intro A H xs d vs Q hn h e k
 unfold qc1 at e
 split at e
 ·obtain⟨v,rfl,a,zs,rfl,ta,il⟩:=IsL.inv1 h
  cases e
  exact⟨a,zs,rfl,.inr ta.sq,λl hl=>k _ _ (qs hl _) ⟨l,zs,rfl,hn l hl,qi,IsL.ext (Ext.of_same (qs hl _)) (λ_ h _=>h) il⟩⟩
 ·obtain⟨v,rfl,a,zs,rfl,_,ta,il⟩:=IsL.inv1 h
  cases e
  exact⟨a,zs,rfl,.inl (.inl (.inl ta)),λl hl=>k _ _ (qs hl _) ⟨l,zs,rfl,hn l hl,qi,IsL.ext (Ext.of_same (qs hl _)) (λ_ h _=>h) il⟩⟩
 ·cases e
end
end L2.Sk
namespace L2.Sk
open PySem PySem.Spec PySem.Calls PyProof.Rows PySem.W
def qgp(h:Heap)(a D:Addr):Prop:=∃o,h.get? a=some o/\o.cls=.ref D
theorem qgp.looks {M:Model} {h:Heap} {a D:Addr} (I:qgp h a D):Looks M h (typeOf (.ref a)) (.ref D):=by
 obtain⟨o,h1,h2⟩:=I
 rw[<-h2]
 exact(Looks.ld h1).andThen .now
section
variable{prog:yap}{w:World}{A:yar}{E:Value->yab->Prop}{K:Frag}{h:Heap}{g:Array yfu}{d:Drawn}{t:Nat}{os:OsState}{a D:Addr}
theorem qjk (hm:mroIn K D (.type "object")=some true) {tp:Value} {R:ydN->yab->Prop} (X:K.In h) (I:qgp h a D) (hq:R (.ok (.ret (.ref D))) ⟨h,g,d,t,os⟩) :
  ybp (model prog w) A (.call (.builtin "getset_descriptor.__get__") ⟨[.builtin "object.__class__",.ref a,tp],[]⟩) R ⟨h,g,d,t,os⟩:=by
 have L0:=I.looks (M:=model prog w)
 have L1:=looks_mroIn (M:=model prog w) X hm
 have hT5:(⟨h,g,d,t,os⟩:yab).TypeIs (.builtin "object.__class__") "getset_descriptor":=ycS
 refine yeC F.slot_gs_get.plain F.entry_gs_get (F.slot_gs_get.check _ _ _ _ _ _ _ _ hT5 (F.args_gs_get _ _ _) ?_)
 have eo:".".intercalate ("object.__class__".cutAt '.').dropLast="object":=by decide +kernel
 repeat (any_goals (first|assumption|with_reducible refine L0.at ?_|with_reducible refine L1.at ?_|wp_step))
 rw[eo]
 refine L1.at ?_
 repeat (any_goals (first|assumption|with_reducible refine L0.at ?_|wp_step))
 refine⟨Code.quiet_builtin _ (by decide +kernel),yc3 F.entry_object_class ?_⟩
 repeat (any_goals (first|assumption|with_reducible refine L0.at ?_|wp_step))
theorem qfo (ha:findIn K (.ref D) "__class__"=some (some (.builtin "object.__class__"))) (hm:mroIn K D (.type "object")=some true) {tk:Tok} {Q:Fin->yab->Prop} (X:K.In h) (I:qgp h a D) (hq:Q (.done (.ret (.ref D))) ⟨h,g,d,t,os⟩) :
  wpAny (model prog w) A (ybM.«object.__getattribute__» ⟨[.ref a,.str "__class__" tk],[]⟩) Q E ⟨h,g,d,t,os⟩:=by
 have L0:=I.looks (M:=model prog w)
 have L1:=looks_findIn (M:=model prog w) X ha
 have hT5:(⟨h,g,d,t,os⟩:yab).TypeIs (.builtin "object.__class__") "getset_descriptor":=ycS
 have f5:=ycS
 have f6:=F.slot_gs_get.lookup
 have f7:=F.slot_gs_set.lookup
 repeat (any_goals (first|assumption|with_reducible refine L0.at ?_|with_reducible refine L1.at ?_|wp_step))
 refine qjk hm X I ?_
 repeat (any_goals (first|assumption|wp_step))
theorem qfp (hb:Looks (model prog w) h (isSubtype (.ref D) (.type "BaseException")) true) {nameV:Value} {Q:Unit->yab->Prop} (I:qgp h a D) (hq:Q () ⟨h,g,d,t,os⟩):wpAny (model prog w) A (checkBuiltinCall "BaseException.__getattribute__" ⟨[.ref a,nameV],[]⟩) Q E ⟨h,g,d,t,os⟩:=by
 have hk:builtinKind "BaseException.__getattribute__"=some .slot:=by decide +kernel
 have hsplit:splitId "BaseException.__getattribute__"=some ("BaseException","__getattribute__"):=by decide +kernel
 have L0:=I.looks (M:=model prog w)
 have ha:=F.args_bexc_ga (.ref a) nameV
 simp only[checkBuiltinCall,hk,hsplit]
 refine yaa ?_
 ·unfold isInstance
  repeat (first|with_reducible refine L0.at ?_|with_reducible refine hb.at ?_|wp_step)
  exact hq
theorem qlf (FA:ExcAttrFacts "ValueError") (hga:findIn K (.ref D) "__getattribute__"=some (some (.builtin "BaseException.__getattribute__"))) (hgt:findIn K (.ref D) "__getattr__"=some none) (ha:findIn K (.ref D) "__class__"=some (some (.builtin "object.__class__"))) (hm:mroIn K D (.type "object")=some true)
  (hb:Looks (model prog w) h (isSubtype (.ref D) (.type "BaseException")) true) {tk:Tok} {fill expr:Bool} {Q:Value->yab->Prop} (X:K.In h) (I:qgp h a D) (hq:Q (.ref D) ⟨h,g,d,t,os⟩) :
  wpAny (model prog w) A (getAttrBy (.ref a) (.str "__class__" tk) fill expr) Q E ⟨h,g,d,t,os⟩:=by
 have L0:=I.looks (M:=model prog w)
 have L1:=looks_findIn (M:=model prog w) X hga
 have L2:=looks_findIn (M:=model prog w) X hgt
 have f3:=FA.ga.bind (.ref a)
 have hx0:(expr&&onTheHeap (ycH "BaseException.__getattribute__"))=false:=by cases expr<;>rfl
 have hx2:(ycH "BaseException.__getattribute__"==ycH "object.__getattribute__")=false:=by decide +kernel
 have hx1:(onTheHeap (yad D)&&ycH "BaseException.__getattribute__"==ycH "object.__getattribute__")=false:=by rw[hx2];rfl
 repeat (any_goals (first|assumption|with_reducible refine L0.at ?_|with_reducible refine L1.at ?_|with_reducible refine L2.at ?_|wp_step))
 refine yeC FA.ga.plain F.entry_bexc_ga (qfp hb I (qfo ha hm X I ?_))
 repeat (any_goals (first|assumption|wp_step))
theorem qhk (FA:ExcAttrFacts "ValueError") (hga:findIn K (.ref D) "__getattribute__"=some (some (.builtin "BaseException.__getattribute__"))) (hgt:findIn K (.ref D) "__getattr__"=some none) (ha:findIn K (.ref D) "__class__"=some (some (.builtin "object.__class__"))) (hm:mroIn K D (.type "object")=some true)
  (hb:Looks (model prog w) h (isSubtype (.ref D) (.type "BaseException")) true) {Q:Option Value->yab->Prop} (X:K.In h) (I:qgp h a D) (hq:Q (some (.ref D)) ⟨h,g,d,t+1,os⟩) :
  wpAny (model prog w) A (getAttr? (.ref a) "__class__") Q E ⟨h,g,d,t,os⟩:=by
 unfold getAttr? getAttrBy?
 repeat (any_goals (first|assumption|with_reducible apply qlf FA hga hgt ha hm hb X I|wp_step))
end
theorem qfq {K:Frag} {a D:Addr} (c:XK6 K D):KitX K (.ref a) (.ref D) (λh=>qgp h a D) where
 ty:=λ_ _ _ I=>I.looks
 it := λ_ _ X _=>by
  obtain⟨cdD,hcD⟩:=Option.isSome_iff_exists.mp c.is
  unfold clsIn at hcD
  split at hcD
  ·rename_i c' d' cd' sl' ho
   intro A' Q' E' s' k q
   unfold isType loadHead
   exact yaa (wpAny_loadPart (k _ _ (X _ _ ho)) (yaf q))
  ·cases hcD
 ne := λh tp dd its n sl X htp=>by
  obtain⟨cdD,hcD⟩:=Option.isSome_iff_exists.mp c.is
  refine Bool.eq_false_iff.mpr λq=>?_
  have e:D=tp:=ydx (beq_iff_eq.mp q)
  subst e
  unfold clsIn at hcD
  split at hcD
  ·rename_i c' d' cd' sl' ho
   have z:=(X _ _ ho).symm.trans htp
   cases z
  ·cases hcD
 ca:=λ{prog w A E Q s} X p k=>by
  have I:=p
  obtain⟨h,g,d,t,os⟩:=s
  exact qhk PySem.F.attrBase_ValueError.toExcAttrFacts c.ga c.gt c.cl c.ob (looks_subIn X c.be) X I k
theorem w8 {X:Cx} {pins:List (Addr×Obj)} {σ:St} {H:Hp} {s:yab} {A:yar} {E:Value->yab->Prop} {Q:Value->yab->Prop} {a C:Addr} {c:Value} {b:Bool} (I:Inv X pins σ H s) (xc:XK6 X.K C) (hH:∃o vs,H a=some (.frz o (.own a))/\o.cls=.ref C/\o.data=.fields vs)
  (e:kitOne X.K (.ref C) c=some b) (h:∀tk,Q (.bool b) {s with toks:=tk}):wpAny (model X.prog X.w) A (call (.builtin "isinstance") [.ref a,c]) Q E s:=by
 obtain⟨o,vs,h1,h2,_⟩:=hH
 obtain⟨p,_⟩:=(show jx X.prog X.w H s.heap a (.frz o (.own a))from I.hok a _ h1)
 exact kia_one (qfq xc) I.kIn ⟨o,p,h2⟩ e (λz=>nomatch z) h
end L2.Sk
namespace L2.Sk
open PySem PySem.Spec PyProof.Rows
def tyD:D->String
 |.non=>"NoneType"
 |.bl _=>"bool"
 |.int _=>"int"
 |.str _=>"str"
 |.tup _=>"tuple"
 |.lst _=>"list"
 |.dic _=>"dict"
 |.fz _=>"list"
 |.exc _=>"exc"
def qao(t T:String):Bool:=t==T||(t=="bool"&&T=="int")
def qc3:List String:=["NoneType","bool","int","str","tuple","list","dict"]
theorem qhl (d:D) (h:∀C,d ≠ .exc C):tyD d∈qc3:=by
 cases d<;>first|(simp[tyD,qc3];done)|exact absurd rfl (h _)
structure qiv (K:Fr0) (T:String):Prop where
 ok:∀t∈qc3,yel K (.type t) (.type T)=some (qao t T)
 ex:T∈["int","bool","str","tuple","list","dict"]
 nx:qao "exc" T=false
theorem qd2 {K:Fr0}:qiv K "int":=⟨λt ht=>by
 simp only[qc3,yao,nN_,or_false]at ht
 rcases ht with rfl|rfl|rfl|rfl|rfl|rfl|rfl<;>kernel_rfl,by decide,by decide⟩
theorem qap {K:Fr0}:qiv K "bool":=⟨λt ht=>by
 simp only[qc3,yao,nN_,or_false]at ht
 rcases ht with rfl|rfl|rfl|rfl|rfl|rfl|rfl<;>kernel_rfl,by decide,by decide⟩
theorem uE {K:Fr0}:qiv K "tuple":=⟨λt ht=>by
 simp only[qc3,yao,nN_,or_false]at ht
 rcases ht with rfl|rfl|rfl|rfl|rfl|rfl|rfl<;>kernel_rfl,by decide,by decide⟩
section
variable{X:Cx}{pins:List (Addr×Obj)}{σ:St}{H:Hp}{s:yab}{A:Addr->Prop}{E:Value->yab->Prop}{Q:Value->yab->Prop}
theorem qjl {d:D} {v:V} {u:Value} {T:String} (I:Inv X pins σ H s) (h:Is X.K A H d v) (rv:zU v u) (kt:qiv X.K T) (hQ:∀tk,Q (.bool (qao (tyD d) T)) {s with toks:=tk}) :
  wpAny (model X.prog X.w) X.A (call (.builtin "isinstance") [u,.type T]) Q E s:=by
 by_cases hx:∃C,d=.exc C
 ·obtain ⟨C,rfl⟩:=hx
  obtain⟨a,rfl,xa⟩:=h
  cases (show u=yad a from rv)
  have q:∀tk,Q (.bool false) {s with toks:=tk}:=λtk=>by
   have:=hQ tk
   rw[show tyD (.exc C)="exc" from rfl,kt.nx]at this
   exact this
  obtain⟨D0,h0,h1,h2⟩:=xa
  exact w8 I h1 h2 (h1.no T kt.ex) q
 have e:=kt.ok (tyD d) (qhl d λC hC=>hx ⟨C,hC⟩)
 cases d with
 |exc C=>exact absurd ⟨C,rfl⟩ hx
 |non=>cases h;exact yd I rv .non e hQ
 |bl b=>cases h;exact yd I rv (.bl b) e hQ
 |int i=>cases h;exact yd I rv (.int i) e hQ
 |str x=>cases h;exact yd I rv (.str x) e hQ
 |tup ds=>
  obtain⟨a,xs,rfl,ta,il⟩:=h
  cases (show u=yad a from rv)
  obtain⟨its,r,p,z⟩:=I.tuple ta.sq
  obtain⟨o,h1,h2,_⟩:=p
  exact yaQ yeX I.kIn ⟨o,h1,h2⟩ e (λz=>nomatch z) hQ
 |lst ds=>
  obtain⟨a,xs,rfl,hA,ta,il⟩:=h
  exact yd I rv (.lst ta) e hQ
 |dic kvs=>
  obtain⟨a,rfl,hA,ta⟩:=h
  exact yd I rv (.dK ta) e hQ
 |fz ns=>
  obtain⟨a,rfl,ta⟩:=h
  cases (show u=yad a from rv)
  obtain⟨its,r,p,z⟩:=I.list ta.sq
  obtain⟨o,h1,h2,_⟩:=p.isList
  exact yaQ ydA I.kIn ⟨o,h1,h2⟩ e (λz=>nomatch z) hQ
end
def wS(T:String)(f:M D):M D:=bnd f λd=>ret (.bl (qao (tyD d) T))
section
variable{X:Cx}{c:Fc}{a b e:Expr}{pos:Pos}
def qmH(K:Fr0)(T:String):List V->Hp->VK->Prop:=λxs H Q=>∃v d A,xs=[v,.ty T]/\Is K A H d v/\Q (.bl (qao (tyD d) T)) H
theorem qfr {T:String} (kt:qiv X.K T):jO X (.builtin "isinstance") (qmH X.K T):=by
 intro pins s σ H xs us Q I r h
 obtain⟨v,d,A,rfl,hi,q⟩:=h
 obtain⟨u,w,rfl,r1,r2⟩:=qK.two r
 cases (show w=yaR T from r2)
 exact qjl I hi r1 kt λtk=>⟨.bl _,H,I.tok tk,rfl,q⟩
theorem uF {T:String} {x:Str} {p p2:Pos} {f:M D} (kt:qiv X.K T) (hg:Gl X "isinstance") (hm:X.mg "isinstance"=none) (hg2:Gl X x) (hm2:X.mg x=none) (hv2:yaA x=some (.type T)) (ha:DE X c a f)
  (hv:yaA "isinstance"=some (.builtin "isinstance"):=by first|rfl|exact PySem.boot_isinstance) (hn2:x≠"__name__":=by decide) (hdb2:(x==("__debug__":Str))=false:=by decide)
  (he:yae [a,.Name x p2] X.env=(false,eval a X.env)::yae [.Name x p2] X.env:=by rfl) (hpl:(yaO pos (yae [.Name x p2] X.env)).any (·.1)=false:=by rfl):DE X c (.Call (.Name "isinstance" p) [a,.Name x p2] [] pos) (wS T f):=by
 obtain⟨t,pa,w⟩:=ha
 refine⟨_,vz (qfr kt) hg hm hv (jP pa (jP (qdy (v:=.ty T) hg2 hm2 hv2 rfl hn2 hdb2) vQ (by rfl)) he) (by decide) (by decide) he hpl,λZ σ H Q r h=>w Z σ H _ r (Wp.bnd h λd Z1 v H1 r1 i1 g1 h1=>?_)⟩
 exact⟨v,d,_,rfl,i1,h1 _ H1 r1 rfl .refl⟩
end
def yD:List D->Option (List Bool)
 | []=>some []
 |.bl b::r=>(yD r).map (b::·)
 |_=>none
def yJ:List D->Option (List Int)
 | []=>some []
 |.int i::r=>(yJ r).map (i::·)
 |_=>none
theorem wf {K:Fr0} {A:Addr->Prop} {H:Hp}:∀{ds:List D}{xs:List V}{bs:List Bool},IsL K A H ds xs->yD ds=some bs->xs=bs.map V.bl
 | [],_,_,h,e=>by cases e;exact h
 | .bl b::r,_,bs,⟨x,ys,hx,h1,h2⟩,e=>by
  cases h1
  cases e1:yD r with
  |none=>simp[yD,e1]at e
  |some l=>
   simp[yD,e1]at e
   subst e
   rw[hx,wf h2 e1];rfl
 |.non::_,_,_,_,e=>by cases e
 |.int _::_,_,_,_,e=>by cases e
 |.str _::_,_,_,_,e=>by cases e
 |.tup _::_,_,_,_,e=>by cases e
 |.lst _::_,_,_,_,e=>by cases e
 |.dic _::_,_,_,_,e=>by cases e
 |.fz _::_,_,_,_,e=>by cases e
 |.exc _::_,_,_,_,e=>by cases e
theorem w9 {K:Fr0} {A:Addr->Prop} {H:Hp}:∀{ds:List D}{xs:List V}{bs:List Int},IsL K A H ds xs->yJ ds=some bs->xs=bs.map V.int
 | [],_,_,h,e=>by cases e;exact h
 | .int b::r,_,bs,⟨x,ys,hx,h1,h2⟩,e=>by
  cases h1
  cases e1:yJ r with
  |none=>simp[yJ,e1]at e
  |some l=>
   simp[yJ,e1]at e
   subst e
   rw[hx,w9 h2 e1];rfl
 |.non::_,_,_,_,e=>by cases e
 |.bl _::_,_,_,_,e=>by cases e
 |.str _::_,_,_,_,e=>by cases e
 |.tup _::_,_,_,_,e=>by cases e
 |.lst _::_,_,_,_,e=>by cases e
 |.dic _::_,_,_,_,e=>by cases e
 |.fz _::_,_,_,_,e=>by cases e
 |.exc _::_,_,_,_,e=>by cases e
theorem qfs {bs:List Bool}:∀{us:List Value},qK (bs.map V.bl) us->LSm.BoolsAre us bs:=by
 induction bs with
 |nil=>intro us r;rw[yc0]at r;cases r;exact .nil
 | cons b bs ih=>
  intro us r
  rw[mC_]at r
  cases r with
  |cons r1 r2=>
   cases (show _=yaY b from r1)
   exact .cons b (ih r2)
section
variable{X:Cx}
theorem uG (hc:X.calm=true):jO X (.builtin "all") (λxs H Q=>∃(p:Addr)(bs:List Bool),xs=[.ref p]/\H p=some (.lst (bs.map V.bl))/\Q (.bl (bs.all id)) H):=by
 intro pins s σ H xs us Q I r h
 obtain⟨p,bs,rfl,hp,q⟩:=h
 obtain⟨u,rfl,ru⟩:=qK.one r
 cases ru
 obtain⟨its,rv,pl,hz⟩:=I.list (SqL.of hp)
 have hl:=pl.isList
 have hb:=qfs rv
 have hlt:p<s.heap.objs.size:=by obtain⟨_,e,_⟩:=hl;exact yac e
 refine call_all_walk (yfm hl ?_)
 refine ⟨s.heap.objs.size,[s.heap.objs.size,p],[s.heap.objs.size],its.toArray.size,_,_,λi=>(bs[i]?).getD true,rfl,Walks.list (A:=X.A.in1) (I.ok.hd hc) _ p (yaq hlt) its.toArray,
  ⟨⟨_,Heap.get?_push_size _ rfl,rfl,rfl⟩,hl.push _⟩,λi v s' Q' E' hP hQ=>?_,λh' tk hk=>?_⟩
 ·obtain⟨b,e,rfl⟩:=hb.get i v (by simpa using hP)
  simp only[e,Option.getD_some]at hQ
  exact ya9 hQ
 ·have e:((ybd its.toArray.size).all λi=>(bs[i]?).getD true)=bs.all id:=by
   rw[sT_,hb.length];exact LSm.range_all bs
  rw[e]
  exact⟨.bl _,H,I.kept (LSm.kept_iter hk),rfl,q⟩
theorem vC (hc:X.calm=true):jO X (.builtin "sum") (λxs H Q=>∃(p:Addr)(ns:List Int),xs=[.ref p]/\H p=some (.lst (ns.map V.int))/\Q (.int ns.sum) H):=by
 intro pins s σ H xs us Q I r h
 obtain⟨p,ns,rfl,hp,q⟩:=h
 obtain⟨u,rfl,ru⟩:=qK.one r
 cases ru
 obtain⟨its,rv,pl,hz⟩:=I.list (SqL.of hp)
 have hl:=pl.isList
 have hi:ybE its ns:=qcV rv
 obtain⟨zs,hx⟩:=hi.allInts.items
 have hl':s.heap.IsList p (intItems zs):=hx▸hl
 refine sum_intListG (I.ok.hd hc) hl' λh' tk t' hk=>?_
 have e1:ns=zs.toList.map (·.1):=by
  rw[<-nums_intItems,<-hx]
  exact(show numsOf its.toArray.toList=ns from hi.numsOf).symm
 have e2:preSum (numAt zs) zs.size=ns.sum:=by
  rw[preSum_eq,ycD (by simp),e1]
 rw[e2]
 exact⟨.int _,H,I.kept hk,⟨_,rfl⟩,q⟩
end
def qc4:List D->Option D
 | [.lst ds]=>(yD ds).map λbs => .bl (bs.all id)
 |_=>none
def qaq:List D->Option D
 | [.lst ds]=>(yJ ds).map λbs => .int bs.sum
 |_=>none
section
variable{K:Fr0}
theorem yK:uT K qc4 (λxs H Q=>∃(p:Addr)(bs:List Bool),xs=[.ref p]/\H p=some (.lst (bs.map V.bl))/\Q (.bl (bs.all id)) H):=by
 intro A H xs d vs Q hn h e k
 unfold qc4 at e
 split at e
 ·obtain⟨v,rfl,a,zs,rfl,_,ta,il⟩:=IsL.inv1 h
  obtain⟨bs,h1,h2⟩:=Option.map_eq_some_iff.mp e
  subst h2
  rw[wf il h1]at ta
  exact⟨a,bs,rfl,ta,k _ H (zG.refl H) rfl⟩
 ·cases e
theorem uH:uT K qaq (λxs H Q=>∃(p:Addr)(ns:List Int),xs=[.ref p]/\H p=some (.lst (ns.map V.int))/\Q (.int ns.sum) H):=by
 intro A H xs d vs Q hn h e k
 unfold qaq at e
 split at e
 ·obtain⟨v,rfl,a,zs,rfl,_,ta,il⟩:=IsL.inv1 h
  obtain⟨bs,h1,h2⟩:=Option.map_eq_some_iff.mp e
  subst h2
  rw[w9 il h1]at ta
  exact⟨a,bs,rfl,ta,k _ H (zG.refl H) rfl⟩
 ·cases e
end
section
variable{X:Cx}
def qgq(K:Fr0):R2:=λx y H Q=>∃a b ys,x=.ref a/\y=.ref b/\SqT K H a []/\SqT K H b ys/\Q (.ref b) H
theorem qft:OpR X (ya3 .Add) (qgq X.K):=by
 intro pins s σ H x y v u Q I rx ry h
 obtain⟨a,b,ys,rfl,rfl,ha,hb,q⟩:=h
 cases rx
 cases ry
 obtain⟨its,r1,p1,_⟩:=I.tuple ha
 obtain⟨its2,r2,p2,_⟩:=I.tuple hb
 cases r1
 obtain⟨⟨cls,dd,data,sl⟩,ho,hc,n,hd⟩:=id p1
 obtain⟨⟨cls2,dd2,data2,sl2⟩,ho2,hc2,n2,hd2⟩:=id p2
 simp only at hc hd hc2 hd2
 subst hc hd hc2 hd2
 exact ye2 ⟨_,ho,rfl⟩ ⟨_,ho2,rfl⟩ ydP yeH ycC yct (yck _ _)
   (tuple_addW0 a b [].toArray its2.toArray n n2 dd dd2 sl sl2 (by simp)) ⟨ho,ho2,⟨.ref b,H,I,rfl,q⟩⟩
def qjm(K:Fr0):R2:=λx y H Q=>(∃i j,x=.int i/\y=.int j/\Q (.int (i+j)) H)\/((∃i j,x=.str i/\y=.str j/\i.length+j.length<=yas/\Q (.str (i++j)) H)\/(qgq K x y H Q\/(qi2 K x y H Q\/qlV x y H Q)))
theorem zx:OpR X (ya3 .Add) (qjm X.K):=OpR.or qiT (OpR.or qcR (OpR.or qft (OpR.or qha qi8)))
end
def j4:D->D->Option D
 |.int i,.int j=>some (.int (i+j))
 |.str x,.str y=>if qC (x.length+y.length)then some (.str (x++y))else none
 |.tup xs,.tup ys=>if qC (xs.length+ys.length)then some (.tup (xs++ys))else none
 |.lst xs,.lst ys=>if qC (xs.length+ys.length)then some (.lst (xs++ys))else none
 |_,_=>none
theorem zy {K:Fr0}:OpS K j4 (qjm K):=by
 intro A H x y d v u Q hn ix iy e k
 cases x<;>cases y<;>simp only[j4]at e<;>try (cases e;done)
 ·rename_i i j
  cases ix;cases iy;cases e
  exact .inl ⟨i,j,rfl,rfl,k _ H (zG.refl H) rfl⟩
 ·rename_i i j
  cases ix;cases iy
  obtain⟨e1,e2⟩:=zj e
  subst e2
  exact .inr (.inl ⟨i,j,rfl,rfl,of_decide_eq_true e1,k _ H (zG.refl H) rfl⟩)
 ·rename_i ds es
  obtain⟨a,xs,rfl,ta,il⟩:=ix
  obtain⟨b,ys,rfl,tb,jl⟩:=iy
  obtain⟨e1,e2⟩:=zj e
  subst e2
  have hs:xs.length+ys.length<=yas:=by rw[il.length,jl.length];exact of_decide_eq_true e1
  refine .inr (.inr ?_)
  cases ds with
  |nil=>
   have hx:xs=[]:=il
   subst hx
   exact .inl ⟨a,b,ys,rfl,rfl,ta.sq,tb.sq,k _ H (zG.refl H) ⟨b,ys,rfl,tb,jl⟩⟩
  | cons d0 ds=>
   refine .inr (.inl ⟨a,b,xs,ys,rfl,rfl,ta.sq,tb.sq,?_,hs,λhy=>?_,λhy p hp=>?_⟩)
   ·obtain⟨x,zs,hx,_⟩:=il
    rw[hx];simp
   ·subst hy
    cases es with
    |nil=>rw[ya4]at k;exact k _ H (zG.refl H) ⟨a,xs,rfl,ta,il⟩
    |cons e0 es=>obtain⟨_,_,hx,_⟩:=jl;cases hx
   ·exact k _ _ (qs hp _) ⟨p,xs++ys,rfl,.inl qi,IsL.ext (Ext.of_same (qs hp _)) (λ_ h _=>h) (IsL.append il jl)⟩
 ·rename_i ds es
  obtain⟨a,xs,rfl,hA,ta,il⟩:=ix
  obtain⟨b,ys,rfl,hB,tb,jl⟩:=iy
  obtain⟨e1,e2⟩:=zj e
  subst e2
  have hs:xs.length+ys.length<=yas:=by rw[il.length,jl.length];exact of_decide_eq_true e1
  exact .inr (.inr (.inr (.inr ⟨a,b,xs,ys,rfl,rfl,ta,tb,hs,λp hp=>k _ _ (qs hp _) ⟨p,xs++ys,rfl,hn p hp,qi,IsL.ext (Ext.of_same (qs hp _)) (λ_ h _=>h) (IsL.append il jl)⟩⟩)))
section
variable{X:Cx}
def ql0(K:Fr0):V->Option Int->Option Int->Hp->VK->Prop:=λx lo hi H Q=>∃a xs,x=.ref a/\SqT K H a xs/\(HT.sIx xs.length 0 lo=0/\HT.sIx xs.length xs.length hi=xs.length)/\Q (.ref a) H
theorem uf {prog:yap} {w:World} {A:yar} {E:Value->yab->Prop} {s:yab} {t sl:Addr} {items:Array Value} {vl vu:Value} {lo hi:Option Int} {Q:Value->yab->Prop} (ht:IsTup s.heap t items) (hs:s.heap.IsSliceOf sl vl vu .none) (pl:ycZ vl lo) (pu:ycZ vu hi)
  (hw:HT.sIx items.size 0 lo=0/\HT.sIx items.size items.size hi=items.size) (h:Q (.ref t) s):wpAny (model prog w) A (ydK (.ref t) (.ref sl)) Q E s:=by
 obtain⟨os,hos,hcs,hds⟩:=id hs
 have hTs:s.TypeIs (.ref sl) "slice":=⟨os,hos,hcs⟩
 unfold ydK
 try with_reducible refine yaZ ?_
 first|refine yaa (yaf ?_)|skip
 refine yaa (yfl ht.typeIs (by decide) ?_)
 refine yaa (wpAny_callSpecial?_slot (name:=ybb "__getitem__") ht.typeIs ybh
  (ya6 ybh ht.typeIs yeM ?_ (ye3 _ _)))
 show wpAny _ _ (ydw (.ref t) >>= _) _ _ s
 refine yaa (tupleItemsOf_ ht ?_)
 refine yaa (ydQ hTs ?_)
 rw[if_pos (by decide)]
 refine yaa (HT.sliceApplied_gen hs pl pu ?_)
 have hyes:(((HT.sIx items.size 0 lo:Nat):Int)==0&&(1:Int)==1&&(HT.sIx items.size items.size hi-HT.sIx items.size 0 lo)==items.size)=true:=by
  rw[hw.1,hw.2];simp
 show wpAny _ _ (if(((HT.sIx items.size 0 lo:Nat):Int)==0&&(1:Int)==1&&(HT.sIx items.size items.size hi-HT.sIx items.size 0 lo)==items.size)=true then _ else _) _ _ s
 rw[if_pos hyes]
 refine yaa (m:=ydy (.ref t)) ?_
 unfold ydy
 refine yaa (ydQ ht.typeIs ?_)
 refine yaf ?_
 rw[if_pos (by decide)]
 exact yaa (ycq (yaf ⟨_,rfl,yaf h⟩))
theorem qfu:SlR X (ql0 X.K):=by
 intro pins s σ H x v vl vu lo hi sl Q I rx hs pl pu h
 obtain⟨a,xs,rfl,hx,hw,q⟩:=h
 cases rx
 obtain⟨its,r,ht,hz⟩:=I.tuple hx
 have hlen:its.toArray.size=xs.length:=by rw[sT_];exact r.length.symm
 refine⟨"tuple",_,PyProof.Rows.slot_tuple_getitem.lookup,ht.typeIs,?_⟩
 exact uf ht hs pl pu (by rw[hlen];exact hw) ⟨.ref a,H,I,rfl,q⟩
theorem qjn:SlR X (λx lo hi H Q=>ql0 X.K x lo hi H Q\/qlU X.K x lo hi H Q):=SlR.or qfu sl_tup
end
def qdt(xs:List D)(lo hi:Option Int):List D:=(xs.drop (HT.sIx xs.length 0 lo)).take (HT.sIx xs.length xs.length hi-HT.sIx xs.length 0 lo)
def slD (x:D) (lo hi:Option Int):Option D:=match x with
 |.tup ds=>some (.tup (qdt ds lo hi))
 |_=>none
section
variable{X:Cx}{c:Fc}{a b e:Expr}{pos p2:Pos}
def DO(X:Cx)(c:Fc)(e:Option Expr)(f:M (Option Int)):Prop:=∃t,PO X e t/\∀Z σ H Q,Rep X.K c Z σ H->(∀o Z',f Z=.ok (o,Z')->∀H',Rep X.K c Z' σ H'->Gr c.O σ H H'->Q o H')->(∀x Z',f Z=.exc x Z'->∀H',Rep X.K c Z' σ H'->Gr c.O σ H H'->c.E x H')->f Z ≠ .bad->t σ H Q
theorem qd3:DO X c none (ret none):=⟨_,qg8,λZ σ H Q r h _ _=>h none Z rfl H r .refl⟩
def asI:D->Option Int
 |.int i=>some i
 |_=>none
def wX (f:M D):M (Option Int):=bnd f λd=>match d with
 |.int i=>ret (some i)
 |_=>λ_ => .bad
theorem qd4 {f:M D} (h:DE X c e f):DO X c (some e) (wX f):=by
 obtain⟨t,p,w⟩:=h
 refine⟨_,qg9 p,λZ σ H Q r h1 h2 h3=>w Z σ H _ r ?_⟩
 unfold wX bnd at h1 h2 h3
 cases e1:f Z with
 |ok q=>
  obtain⟨d,Z'⟩:=q
  rw[e1]at h1 h2 h3
  intro v H' r' i' g'
  cases d<;>simp only[ret]at h1 h2 h3<;>try (exact absurd rfl h3)
  rename_i i
  exact⟨i,i',h1 (some i) Z' rfl H' r' g'⟩
 |exc x Z'=>rw[e1]at h2;exact λH' r' g'=>h2 x Z' rfl H' r' g'
 |bad=>rw[e1]at h3;exact absurd rfl h3
def dsl(f:M D)(g k:M (Option Int)):M D:=bnd f λd=>bnd g λl=>bnd k λu=>lift (slD d l u)
end
def qU (X:Cx) (scope:Scope) (N':List Str) (fp:List Addr) (cl:List (Str×Addr)) (C:Addr) (s₀:yab) (H₀:Hp) (pn:List (Addr×Obj)):Cx where
 prog:=X.prog
 w:=X.w
 K:=X.K
 mg:=X.mg
 base:=X.base
 A:=X.A
 N:=N'
 s₀:=s₀
 H₀:=H₀
 env:=ycM scope cl C X.env
 outer:=X.stack
 stack:=X.stack
 ex:=fp
 fn:=λ_=>false
 calm:=X.calm
 pn:=pn
 xe:=λ_ _=>False
def PF (X:Cx) (ifs:List Expr) (t:TT):Prop:=∀(pins:List (Addr×Obj))(s:yab)(σ:St)(H:Hp)(Q:Bool->Hp->Prop),Inv X pins σ H s->t σ H Q ->
 wpAny (model X.prog X.w) X.A (forIn ifs true λc r=>if r=true then do let ok <-isTrue c X.env (eval c X.env);pure (ybm ok)else pure (ybm r)) (TP X pins σ Q) X.xe s
theorem qjo{X:Cx}:PF X [] (λ_ H Q=>Q true H):=λpins s σ H Q I h=>wpAny_tests_nil ⟨H,I,h⟩
theorem qjp{X:Cx}{e:Expr}{t:TT}(h:PT X e t):PF X [e] t:=λpins s σ H Q I hw=>wpAny_tests_one (h pins s σ H Q I hw)
structure jo (X:Cx) (scope:Scope) (N':List Str) (nt:Nat) (fr:List Nat):Prop where
 kind:scope.kind=.function
 nocell:∀y∈scope.names,y.2 ≠ .cell
 names:∀y∈scope.names,y.2=.local->scope.names.lookup y.1=some .local
 frees:∀y∈scope.names,y.2=.free->X.env.kindOf y.1=some .cell
 len:N'.length=nt+fr.length
 slot:∀i j,fr[i]? = some j->∃x,N'[nt+i]? = some x/\X.N[j]? = some x/\scope.names.lookup x=some .free
theorem uV {env:yaG}:∀(names:List (Str×ybZ))(cs:List (Str×Addr)),(∀y∈names,y.2=.free->∃a,env.cells.lookup y.1=some a)->(∀n a,cs.lookup n=some a->env.cells.lookup n=some a) ->
  ∃ cl,(forIn names cs λx r=>match x with|(name,kind)=>if(kind==yaC)=true then do let a <-cellOf env name;pure (ybm ((name,a)::r))else pure (ybm r):Sem (List (Str×Addr)))=pure cl /\
   (∀n a,cl.lookup n=some a->env.cells.lookup n=some a)/\(∀n,(∃a,cs.lookup n=some a)->∃a,cl.lookup n=some a)/\∀y∈names,y.2=.free->∃a,cl.lookup y.1=some a
 | [],cs,_,h=>⟨cs,rfl,h,λ_ h=>h,λy hy=>by cases hy⟩
 | (n,k)::r,cs,hf,h=>by
  have hr:∀y∈r,y.2=.free->∃a,env.cells.lookup y.1=some a:=λy hy=>hf y (mM _ hy)
  rw[ych]
  by_cases hk:k=.free
  ·subst hk
   obtain⟨a,ha⟩:=hf (n,.free) mS_ rfl
   have ha':env.cells.lookup n=some a:=ha
   have hcell:cellOf env n=pure a:=by unfold cellOf;rw[ha']
   obtain ⟨cl,e1,e2,e3,e4⟩:=uV r ((n,a)::cs) hr (λm b hm=>by
    rw[yay]at hm
    cases e:m==n with
    |true=>rw[e]at hm;cases hm;rw[ybB e];exact ha'
    |false=>rw[e]at hm;exact h m b hm)
   refine⟨cl,?_,e2,λm ⟨b,hm⟩=>e3 m ?_,λy hy hyf=>?_⟩
   ·show((if(yaC==yaC)=true then _ else _) >>= _)=_
    rw[if_pos (by rfl),hcell]
    exact e1
   ·rw[yay]
    cases e:m==n with
    |true=>exact⟨a,rfl⟩
    |false=>exact⟨b,hm⟩
   ·rcases List.mem_cons.mp hy with rfl|hy
    ·exact e3 n ⟨a,by rw[yay];simp⟩
    ·exact e4 y hy hyf
  ·have hb:(k==yaC)=false:=by simpa using hk
   obtain⟨cl,e1,e2,e3,e4⟩:=uV r cs hr h
   refine⟨cl,?_,e2,e3,λy hy hyf=>?_⟩
   ·show((if(k==yaC)=true then _ else _) >>= _)=_
    rw[hb,if_neg yal]
    exact e1
   ·rcases List.mem_cons.mp hy with rfl|hy
    ·exact absurd hyf hk
    ·exact e4 y hy hyf
theorem yr {env:yaG} {scope:Scope} (hf:∀y∈scope.names,y.2=.free->∃a,env.cells.lookup y.1=some a) :
  ∃cl,closureFor scope env=pure cl/\(∀n a,cl.lookup n=some a->env.cells.lookup n=some a)/\∀y∈scope.names,y.2=.free->∃a,cl.lookup y.1=some a:=by
 obtain⟨cl,e1,e2,_,e4⟩:=uV scope.names [] hf (λn a h=>by cases h)
 refine⟨cl,?_,e2,e4⟩
 unfold closureFor
 show(forIn scope.names [] _ >>= _)=_
 have e5:(forIn scope.names [] λx r=>match x with|(name,kind)=>if(kind==yaC)=true then do let a <-cellOf env name;pure (ybm ((name,a)::r))else pure (ybm r):Sem (List (Str×Addr)))=pure cl:=e1
 first
  |(rw[e5];rfl)
  |(simp only[bind_pure_comp,e5];rfl)
theorem zH {env:yaG}:∀{names:List (Str×ybZ)}{x:Str},names.lookup x=some .free->env.scope.kind=.function->env.kindOf x=some .cell ->
  (names.map λ(n,k)=>if(k==yaC&&env.scope.kind == .function&&env.kindOf n==some .cell) then(n,ya1) else(n,k)).lookup x=some .cell
 | [],_,h,_,_=>by simp at h
 | (n,k)::r,x,h,hk,hx=>by
  have ih := @zH env r x
  show yed x ((if(k==yaC&&env.scope.kind == .function&&env.kindOf n==some .cell)=true then(n,ya1) else(n,k))::_)=_
  cases hxn:x==n with
  |true=>
   have e:x=n:=ybB hxn
   subst e
   simp only[yay,hxn]at h
   cases h
   rw[if_pos (by rw[hk,hx];rfl)]
   simp only[yay,hxn]
  |false=>
   simp only[yay,hxn]at h
   by_cases hc:(k==yaC&&env.scope.kind == .function&&env.kindOf n==some .cell)=true
   ·rw[if_pos hc];simp only[yay,hxn];exact ih h hk hx
   ·rw[if_neg hc];simp only[yay,hxn];exact ih h hk hx
theorem ja {env:yaG}:∀{names:List (Str×ybZ)}{x:Str}{q:ybZ},(names.map λ(n,k)=>if(k==yaC&&env.scope.kind == .function&&env.kindOf n==some .cell) then(n,ya1) else(n,k)).lookup x=some q ->
  q=.cell\/q=.free->(∀y∈names,y.2 ≠ .cell)->∃k,(x,k)∈names/\k=.free
 | [],_,_,h,_,_=>by simp at h
 | (n,k)::r,x,q,h,hq,hc=>by
  have ih := @ja env r x q
  have h':yed x ((if(k==yaC&&env.scope.kind == .function&&env.kindOf n==some .cell)=true then(n,ya1) else(n,k))::(r.map λ(n,k)=>if(k==yaC&&env.scope.kind == .function&&env.kindOf n==some .cell) then(n,ya1) else(n,k)))=some q:=h
  have hr:∀y∈r,y.2 ≠ .cell:=λy hy=>hc y (mM _ hy)
  by_cases hcd:(k==yaC&&env.scope.kind == .function&&env.kindOf n==some .cell)=true
  ·rw [if_pos hcd]at h'
   cases hxn:x==n with
   |true=>
    have e:x=n:=ybB hxn
    subst e
    refine⟨k,mS_,?_⟩
    rw[yaj,yaj]at hcd
    exact ybB hcd.1.1
   |false=>
    simp only[yay,hxn]at h'
    obtain⟨k',m,e⟩:=ih h' hq hr
    exact⟨k',mM _ m,e⟩
  ·rw [if_neg hcd]at h'
   cases hxn:x==n with
   |true=>
    have e:x=n:=ybB hxn
    subst e
    simp only[yay,hxn]at h'
    cases h'
    rcases hq with rfl|rfl
    ·exact absurd rfl (hc (x,.cell) mS_)
    ·exact⟨.free,mS_,rfl⟩
   |false=>
    simp only[yay,hxn]at h'
    obtain⟨k',m,e⟩:=ih h' hq hr
    exact⟨k',mM _ m,e⟩
def qu(nt:Nat)(fr:List Nat)(σ:St):St:=yag nt none++fr.map λj=>(σ[j]?).join
def qlg (X:Cx) (tg:Expr) (ifs:List Expr) (elt:Expr) (scope:Scope) (N':List Str) (wi:TI) (nt:Nat) (fr:List Nat):TE:=λσ H Q=>wi σ H λJ H1=>∀acc fp cl C s₀ H₀ pn,H1 acc=none ->
 ∃(g:TG)(tt:TT)(te:TE),PG (qU X scope N' fp cl C s₀ H₀ pn) tg g/\PF (qU X scope N' fp cl C s₀ H₀ pn) ifs tt/\PE (qU X scope N' fp cl C s₀ H₀ pn) elt te /\
 ∃W:Nat->Nat->St->Hp->Prop,(∃m,W 0 m (qu nt fr σ) (upd H1 acc (.lst []))) /\
 ∀ i m σ' H',W i m σ' H'->(J.stop i H'/\Q (.ref acc) H')\/(J.go i H'/\∀x H'',J.yld i H' x H''->g x σ' H'' λσ2 H2=>tt σ2 H2 λb H3=>
  if b=true then te σ2 H3 λy H4=>∃ys,H4 acc=some (.lst ys)/\ys.length<yas/\∃m',m'<m/\W (i+1) m' σ2 (upd H4 acc (.lst (ys++[y])))else ∃m',m'<m/\W (i+1) m' σ2 H3)
section
variable{X:Cx}{tg iter elt:Expr}{ifs:List Expr}{scope:Scope}{pos:Pos}{wi:TI}{N':List Str}{nt:Nat}{fr:List Nat}
theorem ug {prog:yap} {w:World} {A:yar} {R:ydN->yab->Prop} {s:yab} {it acc:Value} {env:yaG} (I:Nat->yab->Prop)
  (turn : ∀n s,I n s->wpAny (model prog w) A (ybT it) (λr sJ=>match r with
   |none=>R (.ok .next) sJ
   | some v=>wpAny (model prog w) A (yce tg it v) (λ_ s1'=>wpAny (model prog w) A (ydh tg env v) (λ_ sV=>
     wpAny (model prog w) A (forIn ifs true λc r=>if r=true then do let ok <-isTrue c env (eval c env);pure (ybm ok)else pure (ybm r)) (λok sK=>
      if ok=true then wpAny (model prog w) A (eval elt env) (λx sY=>
       wpAny (model prog w) A (call (.builtin "list.append") [acc,x]) (λ_ sQ=>∃m,m<n/\I m sQ) (λ_ _=>False) sY) (λ_ _=>False) sK
      else ∃m,m<n/\I m sK) (λ_ _=>False) sV) (λ_ _=>False) s1') (λ_ _=>False) sJ) (λ_ _=>False) s)
  (n:Nat) (h:I n s):ybp (model prog w) A (.compLoop (.ListComp elt [⟨tg,iter,ifs,0⟩] scope pos) 0 it acc env) R s:=by
 refine codeAny_loop rfl I (λn s hI=>?_) n h
 show wpAny _ A ((compTurn (.ListComp elt [⟨tg,iter,ifs,0⟩] scope pos) 0 it acc env).onRaise (λx=>do ydk x env;theTreesLotGoes x)) _ _ s
 refine wpAny_noted ?_
 rw[compTurn_list]
 refine yaa (ydr (yaa (yaV (turn n s hI) (λr sJ hX=>?_) λ_ _ h'=>h'.elim)))
 cases r with
 |none=>exact yaf hX
 | some v=>
  refine yaa (yaV hX (λ_ s1' hK'=>?_) λ_ _ h'=>h'.elim)
  refine yaa (yaV hK' (λ_ sV hG=>yaa (yaV hG (λok sK h₃=>?_) λ_ _ h'=>h'.elim)) λ_ _ h'=>h'.elim)
  cases ok with
  |false=>exact yaf ⟨rfl,h₃⟩
  |true=>
   exact yaa (yaa (yaV h₃ (λx sY hV=>yaa (yaV hV (λ_ sQ hJ=>yaf (yaf ⟨rfl,hJ⟩)) λ_ _ h'=>h'.elim)) λ_ _ h'=>h'.elim))
theorem qaa {pins:List (Addr×Obj)} {σ:St} {H:Hp} {s:yab} {hX:Heap} {tk:Nat} {fp:List Addr} {cl:List (Str×Addr)} (S:jo X scope N' nt fr) (I:Inv X pins σ H s) (hfp:∀b∈fp,wT X pins H b)
  (hex:∀b∈fp,∃o,s.heap.get? b=some o) (cl1:∀n a,cl.lookup n=some a->X.env.cells.lookup n=some a) (cl2:∀y∈scope.names,y.2=.free->∃a,cl.lookup y.1=some a)
  (hns:∃m,hX.Ns s.heap.objs.size m) (old:∀b o,s.heap.get? b=some o->hX.get? b=some o) :
  Inv (qU X scope N' fp cl s.heap.objs.size s H (X.pn++pins)) [] (qu nt fr σ) H {s with heap:=hX,toks:=tk}:=by
 have stkB:∀b∈frs X.stack,b=X.env.locals\/b∈X.fs:=λb hb=>List.mem_cons.mp (I.stkSub b hb)
 have hC:∀b o,s.heap.get? b=some o->b≠s.heap.objs.size:=λb o e=>yaq (yac e)
 obtain⟨m,hn⟩:=hns
 refine ⟨⟨I.ok.mod,S.kind,I.ok.glob,I.ok.blt,yak _,λx y c h1 h2=>I.ok.inj x y c (cl1 x c h1) (cl1 y c h2),λx hx=>?_,λx c hx=>?_,I.ok.hd,I.ok.frames,.inl rfl,λb hb=>⟨?_,λx c hx=>(hfp b hb).2.2.2.2.1 x c (cl1 x c hx)⟩,I.bs,yaJ I.ok.bsz I.sz,λb o e hb=>?_,λb hb hb2=>?_,I.stack,I.stkFree⟩,
  rfl,I.bare,Un.kept old,⟨m,hn,λi x v h1 h2 h3=>?_⟩,λx c hx=>?_,I.hok.fresh (yak _),λx c hx=>I.freeC x c (cl1 x c hx),λp hp=>?_,I.hok.kept old,?_⟩
 ·have hx':∃k,(x,k)∈scope.names/\k=.free:=by
   rcases hx with hx|hx
   ·exact ja (env:=X.env) (q:=.cell) hx (.inl rfl) S.nocell
   ·exact ja (env:=X.env) (q:=.free) hx (.inr rfl) S.nocell
  obtain⟨k,m,rfl⟩:=hx'
  exact cl2 (x,.free) m rfl
 ·have hx':false=true:=hx
  cases hx'
 ·obtain⟨o,e⟩:=hex b hb
  exact hC b o e
 ·obtain⟨f0,f1,f2,f3,f4,f5⟩:=hfp b hb
  rcases f3 with z|z
  ·exact I.ok.noex b o e z
  ·exact absurd (yat (yac e) (yaJ I.ok.bsz z)) (ybc _)
 ·obtain⟨f0,f1,f2,f3,f4,f5⟩:=hfp b hb
  rcases stkB b hb2 with z|z
  ·exact f1 z
  ·exact f2 z
 ·-- names
  have hi:nt<=i:=by
   apply yb5
   intro hlt
   unfold qu at h2
   rw[List.getElem?_append_left (by simpa using hlt),List.getElem?_replicate]at h2
   split at h2<;>cases h2
  have h2':(fr.map λj=>(σ[j]?).join)[i-nt]? = some (some v):=by
   unfold qu at h2
   rw[List.getElem?_append_right (by simpa using hi),yaK]at h2
   exact h2
  rw[gM_]at h2'
  cases ej:fr[i-nt]? with
  |none=>rw[ej]at h2';cases h2'
  | some j=>
   rw[ej]at h2'
   have hσ:(σ[j]?).join=some v:=by simpa using h2'
   have hσ':σ[j]? = some (some v):=by
    cases e:σ[j]? with
    |none=>rw[e]at hσ;cases hσ
    |some o=>
     rw[e]at hσ
     have:o=some v:=hσ
     rw[this]
   obtain⟨y,hy1,hy2,hy3⟩:=S.slot (i-nt) j ej
   have hii:nt+(i-nt)=i:=by omega
   rw[hii]at hy1
   have exy:y=x:=by
    have h1':N'[i]? = some x:=h1
    rw[h1']at hy1
    exact(yaF hy1).symm
   subst exy
   have hmem:(y,yaC)∈scope.names:=yaL hy3
   have hcellk:X.env.kindOf y=some .cell:=S.frees (y,.free) hmem rfl
   obtain⟨m0,hn0,hl0⟩:=I.loc
   obtain⟨u,ru,lk⟩:=hl0 j y v hy2 hσ' (.inr (.inl hcellk))
   refine⟨u,ru,.inr ⟨.inl (zH hy3 I.ok.kind hcellk),?_⟩⟩
   rcases lk with⟨k1,_⟩|⟨_,c,e,z⟩
   ·rw[hcellk]at k1;cases k1
   ·obtain⟨a,ea⟩:=cl2 (y,.free) hmem rfl
    have ea':=cl1 y a ea
    rw[e]at ea'
    cases ea'
    obtain⟨o,ho,hd⟩:=z
    exact⟨c,ea,o,old _ _ ho,hd⟩
 ·obtain⟨v,o,ho,hd⟩:=I.cell x c (cl1 x c hx)
  exact⟨v,o,old _ _ ho,hd⟩
 ·have hp':p∈X.pn++pins:=by
   rcases mA_.mp (show p∈(X.pn++pins)++[]from hp)with z|z
   ·exact z
   ·cases z
  obtain⟨e,n,ne,nf,d⟩:=I.pin p hp'
  refine⟨old _ _ e,n,hC _ _ e,λz=>?_,d⟩
  rcases stkB p.1 z with z|z
  ·exact ne z
  ·exact nf z
 ·show(qu nt fr σ).length=N'.length
  unfold qu
  rw[lA_,yaK,lM_,S.len]
theorem qb8 {pins:List (Addr×Obj)} {σ σ':St} {H H':Hp} {s s':yab} {h':Heap} {fp:List Addr} {cl:List (Str×Addr)} (I:Inv X pins σ H s) (hfp:∀b∈fp,wT X pins H b)
  (J:Inv (qU X scope N' fp cl s.heap.objs.size s H (X.pn++pins)) [] σ' H' s') (sb:ybi s.heap.objs.size s'.heap h'):Inv X pins σ H' {s' with heap:=h' }:=by
 have hC:H' s.heap.objs.size=none:=J.free
 have u:=J.base
 have big:∀b o,s.heap.get? b=some o->b≠s.heap.objs.size:=λb o e=>yaq (yac e)
 have get':∀b,b≠s.heap.objs.size->h'.get? b=s'.heap.get? b:=λb hb=>sb.2 b hb
 have u2:Un (frs X.stack) fp H H' s.heap h' :=
  ⟨λb o e n hb hx=>(get' b (big b o e)).trans (u.keep b o e n hb hx),λb o e n hb hx=>by
   obtain⟨sl,q⟩:=u.slot b o e n hb hx
   exact⟨sl,(get' b (big b o e)).trans q⟩,u.free,λb o e hx=>by
   obtain⟨o',q⟩:=u.there b o e hx
   exact⟨o',(get' b (big b o e)).trans q⟩,u.tups,u.frzs,u.tbls⟩
 refine I.call' (s':={s' with heap:=h' }) (ch:=fp) J.os u2 (λb o e=>?_) J.bare (λb hb=>?_)
 ·refine(J.hok b o e).stay (λc v hc q=>?_) (λ_ q=>q) λ_ _ q=>q
  refine(get' c ?_).trans q
  rintro rfl
  rcases hc with hc|hc
  ·rw[<-hc,hC]at e;cases e
  ·rw[hC]at hc;cases hc
 ·obtain⟨f0,f1,f2,f3,f4,f5⟩:=hfp b hb
  exact⟨f3,f1,f4,f5⟩
theorem qhm (hc:X.calm=true) (hi:PI X tg iter wi) (S:jo X scope N' nt fr)
  (hs:∀x,yba iter X.env x=pure x:=by intro _;rfl):PE X (.ListComp elt [⟨tg,iter,ifs,0⟩] scope pos) (qlg X tg ifs elt scope N' wi nt fr):=by
 intro pins s σ H Q I hw
 obtain⟨cl,hcl,cl1,cl2⟩:=yr (env:=X.env) (scope:=scope) (λy hy hf=>I.ok.has y.1 (.inl (S.frees y hy hf)))
 rw[yeI]
 refine ycl (use:=none) rfl hs hcl S.kind S.names (thn (hi pins s σ H _ I hw) λv s1 h1=>thn h1 λitv s2 h2=>?_)
 obtain⟨it,fp,tn,J,H2,e,I2,T,st2,f2,hR⟩:=h2
 subst e
 have hacc:H2 s2.heap.objs.size=none:=I2.hok.fresh (yak _)
 refine yaM (yeD S.nocell (by intro y hy;simp at hy) (λhX hns1 hsb1=>?_) S.kind)
 dsimp only at hns1 hsb1 |-
 have I3:Inv X pins σ (upd H2 s2.heap.objs.size (.lst [])) {s2 with heap:=s2.heap.push {cls:=.type "list",dict:=none,data:=.seq ([]:List Value).toArray} } :=
  I2.lnew (t':=s2.toks) (its:=[]) .nil (yaP _)
 generalize hs3:({s2 with heap:=s2.heap.push {cls:=.type "list",dict:=none,data:=.seq ([]:List Value).toArray} }:yab)=s3 at I3
 have hh3:s2.heap.push {cls:=.type "list",dict:=none,data:=.seq ([]:List Value).toArray}=s3.heap:=by rw[<-hs3]
 rw[hh3]at hns1 hsb1
 have old:∀b o,s3.heap.get? b=some o->hX.get? b=some o:=λb o q=>hsb1.extBut b o (yaq (yac q)) (Heap.get?_push_of_some _ q)
 have objs2:∀b∈fp,∃o,s2.heap.get? b=some o:=λb hb=>by
  obtain⟨o,q,_⟩:=T.obj 0 _ st2 b hb
  exact⟨o,q⟩
 have keep23:∀b o,s2.heap.get? b=some o->s3.heap.get? b=some o:=λb o q=>by rw[<-hh3];exact Heap.get?_push_of_some _ q
 have fpne:∀b∈fp,b≠s2.heap.objs.size:=λb hb=>by
  obtain⟨o,q⟩:=objs2 b hb
  exact yaq (yac q)
 have f3:∀b∈fp,wT X pins (upd H2 s2.heap.objs.size (.lst [])) b:=λb hb=>⟨by rw[qm (fpne b hb)];exact(f2 b hb).1,(f2 b hb).2⟩
 have J0:Inv (qU X scope N' fp cl s3.heap.objs.size s3 (upd H2 s2.heap.objs.size (.lst [])) (X.pn++pins)) [] (qu nt fr σ) (upd H2 s2.heap.objs.size (.lst [])) {s3 with heap:=hX,toks:=s3.toks} :=
  qaa S I3 f3 (λb hb=>(objs2 b hb).imp λo q=>keep23 b o q) cl1 cl2 ⟨_,hns1⟩ old
 obtain⟨g,tt,te,hg,hf,he,W,⟨m0,w0⟩,turn⟩:=hR s2.heap.objs.size fp cl s3.heap.objs.size s3 (upd H2 s2.heap.objs.size (.lst [])) (X.pn++pins) hacc
 have T0:tn 0 hX:=T.keep 0 _ _ st2 λb hb o q=>old b o (keep23 b o q)
 have s3e:∀tk:Nat,({s2 with heap:=hX,toks:=tk}:yab)={s3 with heap:=hX,toks:=tk}:=λtk=>by rw[<-hs3]
 have loop:∀tk:Nat,ybp (model X.prog X.w) X.A (.compLoop (.ListComp elt [⟨tg,iter,ifs,0⟩] scope pos) 0 (.ref it) (.ref s2.heap.objs.size) (ycM scope cl s3.heap.objs.size X.env))
   (ydR (model X.prog X.w) X.A X.xe none (EP X pins σ Q) (.ref s2.heap.objs.size) s3.heap.objs.size) {s3 with heap:=hX,toks:=tk}:=λtk=>by
  have stat:∀{H':Hp},(∀b∈fp,H' b=none)->∀b∈fp,wT (qU X scope N' fp cl s3.heap.objs.size s3 (upd H2 s2.heap.objs.size (.lst [])) (X.pn++pins)) [] H' b:=λ{H'} hn b hb=>by
   obtain⟨o,q⟩:=objs2 b hb
   have hbC:b≠s3.heap.objs.size:=yaq (yac (keep23 b o q))
   refine⟨hn b hb,hbC,λz=>?_,.inl hb,λx c hx=>(f2 b hb).2.2.2.2.1 x c (cl1 x c hx),λp hp=>?_⟩
   ·rcases List.mem_cons.mp (I2.stkSub b z)with z|z
    ·exact(f2 b hb).2.1 z
    ·exact(f2 b hb).2.2.1 z
   ·have hp':p∈X.pn++pins:=by
     rcases mA_.mp (show p∈(X.pn++pins)++[]from hp)with z|z
     ·exact z
     ·cases z
    exact(f2 b hb).2.2.2.2.2 p hp'
  have fr0:∀b∈fp,upd H2 s2.heap.objs.size (.lst []) b=none:=λb hb=>(f3 b hb).1
  refine ug (λn s'=>∃i σ' H',Inv (qU X scope N' fp cl s3.heap.objs.size s3 (upd H2 s2.heap.objs.size (.lst [])) (X.pn++pins)) [] σ' H' s'/\tn i s'.heap/\(∀b∈fp,H' b=none)/\W i n σ' H') ?_ m0
   ⟨0,qu nt fr σ,_,J0.tok tk,T0,fr0,w0⟩
  rintro n s4 ⟨i,σ4,H4,J4,st4,fr4,w4⟩
  rcases turn i n σ4 H4 w4 with⟨stop,qn⟩|⟨go,step⟩
  ·refine thn (T.done (qU X scope N' fp cl s3.heap.objs.size s3 (upd H2 s2.heap.objs.size (.lst [])) (X.pn++pins)) rfl rfl rfl hc i [] s4 σ4 H4 _ J4 (stat fr4) st4 stop) λr s5 ⟨hr,J5⟩=>?_
   subst hr
   obtain⟨m5,n5,_⟩:=J5.loc
   refine⟨m5,n5,λh' sb=>⟨.ref s2.heap.objs.size,H4,qb8 I3 f3 J5 sb,rfl,qn⟩⟩
  ·refine thn (T.item (qU X scope N' fp cl s3.heap.objs.size s3 (upd H2 s2.heap.objs.size (.lst [])) (X.pn++pins)) rfl rfl rfl hc i [] s4 σ4 H4 _ J4 (stat fr4) st4 go) λr s5 ⟨u,hr,h5⟩=>?_
   subst hr
   refine thn h5 λ_ s6 ⟨x,H6,J6,r6,y6,st6,fr6⟩=>?_
   have J6':=J6.pinned (stat fr6) (T.obj _ _ st6)
   have again:∀{σ7:St}{H7:Hp}{s7:yab},Inv (qU X scope N' fp cl s3.heap.objs.size s3 (upd H2 s2.heap.objs.size (.lst [])) (X.pn++pins)) ([]++vP fp s6.heap) σ7 H7 s7->(∃m',m'<n/\W (i+1) m' σ7 H7) ->
     ∃m,m<n/\∃i σ' H',Inv (qU X scope N' fp cl s3.heap.objs.size s3 (upd H2 s2.heap.objs.size (.lst [])) (X.pn++pins)) [] σ' H' s7/\tn i s7.heap/\(∀b∈fp,H' b=none)/\W i m σ' H':=λ{σ7 H7 s7} I7 hm=>by
    obtain⟨m',hm,w7⟩:=hm
    refine⟨m',hm,i+1,σ7,H7,I7.unpinned,T.keep _ _ _ st6 λb hb o q=>(I7.pin (b,o) (mr_ _ (mr_ _ (zN hb q)))).1,λb hb=>?_,w7⟩
    obtain⟨o,q,d⟩:=T.obj _ _ st6 b hb
    exact(I7.pin (b,o) (mr_ _ (mr_ _ (zN hb q)))).2.1
   refine thn (hg _ s6 σ4 H6 x u _ J6' r6 (step x H6 y6)) λ_ s7 ⟨σ7,H7,J7,q7⟩=>?_
   refine thn (hf _ s7 σ7 H7 _ J7 q7) λok s8 ⟨H8,J8,q8⟩=>?_
   cases ok with
   |false=>
    rw[if_neg yal]at q8 |-
    exact again J8 q8
   |true=>
    rw[if_pos rfl]at q8 |-
    refine thn (he _ s8 σ7 H8 _ J8 q8) λz s9 ⟨y,H9,J9,r9,ys,hys,hz,hm⟩=>?_
    refine thn (uy _ s9 σ7 H9 (.ref s2.heap.objs.size) [y] (.ref s2.heap.objs.size) [z] (λ_ H'=>H'=upd H9 s2.heap.objs.size (.lst (ys++[y]))) J9 rfl (.cons r9 .nil) ⟨_,ys,y,rfl,rfl,hys,hz,rfl⟩) λ_ s10 ⟨_,H10,J10,_,e10⟩=>?_
    subst e10
    exact again J10 hm
 have ze:∀tk:Nat,ybp (model X.prog X.w) X.A (.compStart (.ListComp elt [⟨tg,iter,ifs,0⟩] scope pos) 0 (.ref it) (.ref s2.heap.objs.size) (ycM scope cl s3.heap.objs.size X.env))
   (ydR (model X.prog X.w) X.A X.xe none (EP X pins σ Q) (.ref s2.heap.objs.size) s3.heap.objs.size) {s3 with heap:=hX,toks:=tk}:=λtk=>
  ycE (loop tk) (T.self X.A 0 _ _ _ T0 (loop tk))
 have fin:=ze (s2.toks+([]:List (Str×Value)).length)
 rw[<-s3e]at fin
 rw[<-hh3]at fin
 rw[hh3]at fin |-
 exact fin
end
structure qgr (K:Fr0) (A:Addr->Prop) (H:Hp) (ds:List D) (J:It):Prop where
 go:∀H' i d,Ext A H H'->ds[i]? = some d->J.go i H'
 yl:∀H' i d x H'',Ext A H H'->ds[i]? = some d->J.yld i H' x H''->zG H' H''/\Is K A H'' d x
 stop:∀H',Ext A H H'->J.stop ds.length H'
def CnT(c:Fc)(σ:St)(H:Hp)(a:Addr):Prop:=Cn c σ a/\(H a).isSome=true
def WpI (K:Fr0) (c:Fc) (σ:St) (H:Hp) (Q:It->Hp->Prop):R (List D×Env)->Prop
 |.ok (ds,Z)=>∀J H',Rep K c Z σ H'->qgr K (CnT c σ H') H' ds J->Gr c.O σ H H'->Q J H'
 |.exc x Z=>∀H',Rep K c Z σ H'->Gr c.O σ H H'->c.E x H'
 |.bad=>False
def DI(X:Cx)(c:Fc)(tg it:Expr)(f:M (List D)):Prop:=∃w,PI X tg it w/\∀Z σ H Q,Rep X.K c Z σ H->WpI X.K c σ H Q (f Z)->w σ H Q
section
variable{X:Cx}{c:Fc}{tg a b e:Expr}{pos:Pos}
def qmI(K:Fr0)(tl:TE):TI:=λσ H R=>tl σ H λx H1=>(∃a,x=.ref a/\(∃xs,SqL K H1 a xs)/\R (Itl K a) H1)\/(∃a,x=.ref a/\(∃xs,SqT K H1 a xs)/\R (Itt K a) H1)
theorem qjq {tl:TE} (hl:PE X e tl):PI X tg e (qmI X.K tl):=by
 intro pins s σ H R I h
 refine thn (hl pins s σ H _ I h) λv s1 ⟨x,H1,I1,r1,q1⟩=>?_
 rcases q1 with⟨a,e,⟨xs,hq⟩,q⟩|⟨a,e,⟨xs,hq⟩,q⟩
 ·subst e
  cases r1
  obtain⟨its,rv,p,hz⟩:=I1.list hq
  refine yfm p.isList ?_
  refine⟨s1.heap.objs.size,[s1.heap.objs.size],_,_,H1,rfl,I1.kept (t':=s1.toks) λb o e=>Heap.get?_push_of_some _ e,qdA a _,⟨_,Heap.get?_push_size _ rfl,rfl,rfl⟩,λb hb=>?_,q⟩
  have e:b=s1.heap.objs.size:=by simpa using hb
  subst e
  exact I1.fpOk (yak _) (I1.hok.fresh (yak _))
 ·subst e
  cases r1
  obtain⟨its,rv,p,hz⟩:=I1.tuple hq
  refine ydl (show s1.heap.IsTuple a its.toArray from p) ?_
  refine⟨s1.heap.objs.size,[s1.heap.objs.size],_,_,H1,rfl,I1.kept (t':=s1.toks) λb o e=>Heap.get?_push_of_some _ e,qcO a _,⟨_,Heap.get?_push_size _ rfl,rfl,rfl⟩,λb hb=>?_,q⟩
  have e:b=s1.heap.objs.size:=by simpa using hb
  subst e
  exact I1.fpOk (yak _) (I1.hok.fresh (yak _))
def qkI:D->Option (List D)
 |.tup ds=>some ds
 |.lst ds=>some ds
 |.fz ns=>some (ns.map .int)
 |_=>none
theorem SqL.inj {K:Fr0} {H:Hp} {a:Addr} {xs ys:List V} (h:H a=some (.lst xs)) (q:SqL K H a ys) (hk:∀o,K.lookup a=some o->False):ys=xs:=by
 rcases q with(q|⟨o,q⟩)|⟨o,_,_,q,_⟩
 ·rw[h]at q;cases q;rfl
 ·rw[h]at q;cases q
 ·exact(hk o q).elim
theorem qar {K:Fr0} {A:Addr->Prop} {H:Hp}:∀ns:List Int,IsL K A H (ns.map .int) (ns.map V.int)
 | []=>rfl
 |n::ns=>⟨.int n,ns.map V.int,rfl,rfl,qar ns⟩
theorem qd5 {K:Fr0} {A:Addr->Prop} {H:Hp} {ds:List D} {xs:List V} {a:Addr} (hs:∀H',Ext A H H'->SqL K H' a xs) (il:IsL K A H ds xs):qgr K A H ds (Itl K a) where
 go:=λH' i d ex hd=>by
  obtain⟨x,h1,h2⟩:=il.get hd
  exact⟨xs,x,hs H' ex,h1⟩
 yl:=λH' i d x H'' ex hd y=>by
  obtain⟨e,y⟩:=y
  subst e
  obtain⟨x',h1,h2⟩:=il.get hd
  have h3:=y xs (hs _ ex)
  rw[h1]at h3
  cases h3
  exact⟨zG.refl _,Is.ext ex (λ_ h _=>h) h2⟩
 stop:=λH' ex=>⟨xs,hs H' ex,by rw[il.length];exact yak _⟩
theorem qjr {K:Fr0} {A:Addr->Prop} {H:Hp} {ds:List D} {xs:List V} {a:Addr} (hs:uS K H a xs) (il:IsL K A H ds xs):qgr K A H ds (Itt K a) where
 go:=λH' i d ex hd=>by
  obtain⟨x,h1,h2⟩:=il.get hd
  exact⟨xs,x,(hs.elim (λh => .inl (ex.tup _ _ h)) .inr:uS K H' a xs).sq,h1⟩
 yl:=λH' i d x H'' ex hd y=>by
  obtain⟨e,y⟩:=y
  subst e
  obtain⟨x',h1,h2⟩:=il.get hd
  have h3:=y xs (hs.elim (λh => .inl (ex.tup _ _ h)) .inr:uS K _ a xs).sq
  rw[h1]at h3
  cases h3
  exact⟨zG.refl _,Is.ext ex (λ_ h _=>h) h2⟩
 stop:=λH' ex=>⟨xs,(hs.elim (λh => .inl (ex.tup _ _ h)) .inr:uS K H' a xs).sq,by rw[il.length];exact yak _⟩
def yf(f:M D):M (List D):=bnd f λd=>lift (qkI d)
theorem vE {K:Fr0} {σ:St} {H:Hp} {Q:It->Hp->Prop} {o:Option (List D)} {Z:Env} (h:WpI K c σ H Q (lift o Z)):∃ds,o=some ds/\∀J H',Rep K c Z σ H'->qgr K (CnT c σ H') H' ds J->Gr c.O σ H H'->Q J H':=by
 cases o with
 |none=>exact h.elim
 |some d=>exact⟨d,rfl,h⟩
theorem WpI.gr {K:Fr0} {σ:St} {H H1:Hp} {Q:It->Hp->Prop}:∀{r:R (List D×Env)},WpI K c σ H Q r->Gr c.O σ H H1->WpI K c σ H1 Q r
 |.ok (d,Z),h,g=>λv H' hr hi hg=>h v H' hr hi (g.trans hg)
 |.exc x Z,h,g=>λH' hr hg=>h H' hr (g.trans hg)
 |.bad,h,_=>h
theorem Wp.bndI {K:Fr0} {σ:St} {H:Hp} {Q:It->Hp->Prop} {f:M D} {k:D->M (List D)} {Z:Env} {Q':VK} (h:WpI K c σ H Q (Sk.bnd f k Z)) (hQ:∀d Z' v H',Rep K c Z' σ H'->Is K (Cn c σ) H' d v->Gr c.O σ H H'->WpI K c σ H' Q (k d Z')->Q' v H'):Wp K c σ H Q' (f Z):=by
 unfold Sk.bnd at h
 cases e:f Z with
 |ok p=>rw[e]at h;exact λv H' hr hi hg=>hQ p.1 p.2 v H' hr hi hg (h.gr hg)
 |exc x Z'=>rw[e]at h;exact h
 |bad=>rw[e]at h;exact h
theorem WpL.bndI {K:Fr0} {σ:St} {H:Hp} {Q:It->Hp->Prop} {f:M (List D)} {k:List D->M (List D)} {Z:Env} {Q':List V->Hp->Prop} (h:WpI K c σ H Q (Sk.bnd f k Z)) (hQ:∀d Z' v H',Rep K c Z' σ H'->IsL K (Cn c σ) H' d v->Gr c.O σ H H'->WpI K c σ H' Q (k d Z')->Q' v H'):WpL K c σ H Q' (f Z):=by
 unfold Sk.bnd at h
 cases e:f Z with
 |ok p=>rw[e]at h;exact λv H' hr hi hg=>hQ p.1 p.2 v H' hr hi hg (h.gr hg)
 |exc x Z'=>rw[e]at h;exact h
 |bad=>rw[e]at h;exact h
theorem Is.tr{K:Fr0}{A:Addr->Prop}{H:Hp}{d:D}{v:V}(h:Is K A H d v):Is K (λa=>A a/\(H a).isSome=true) H d v:=Is.ext Ext.refl (λa h1 h2=>⟨h1,h2⟩) h
theorem vk {f:M D} (h:DE X c e f):DI X c tg e (yf f):=by
 obtain⟨t,p,w⟩:=h
 refine⟨_,qjq p,λZ σ H Q r h=>w Z σ H _ r (Wp.bndI h λd Z1 v H1 r1 i1 g1 h1=>?_)⟩
 obtain⟨ds,e,h2⟩:=vE h1
 have i2:Is X.K (CnT c σ H1) H1 d v:=i1.tr
 cases d<;>simp only[qkI]at e<;>try (cases e;done)
 ·cases e
  obtain⟨a,xs,rfl,ta,il⟩:=i2
  exact .inr ⟨a,rfl,⟨xs,ta.sq⟩,h2 _ H1 r1 (qjr ta il) .refl⟩
 ·cases e
  obtain⟨a,xs,rfl,hA,ta,il⟩:=i2
  exact .inl ⟨a,rfl,⟨xs,.inl (.inl ta)⟩,h2 _ H1 r1 (qd5 (λH' ex => .inl (.inl (ex.at_ _ _ hA ta))) il) .refl⟩
 ·cases e
  obtain⟨a,rfl,ta⟩:=i2
  exact .inl ⟨a,rfl,⟨_,ta.sq⟩,h2 _ H1 r1 (qd5 (λH' ex=>(ta.elim (λ⟨o,h⟩ => .inl ⟨o,ex.frz _ _ _ h⟩) .inr:qjd X.K H' a _).sq) (qar _)) .refl⟩
def qab(lo:Int)(n:Nat):List D:=(ybd n).map λi => .int (lo+(i:Nat))
theorem qgs {K:Fr0} {A:Addr->Prop} {H:Hp} (lo:Int) (n:Nat):qgr K A H (qab lo n) (Itr lo n) where
 go:=λH' i d ex hd=>by
  have:i<(qab lo n).length:=(gI_.mp hd).1
  show i<n
  simpa [qab] using this
 yl := λH' i d x H'' ex hd y=>by
  obtain⟨e,y⟩:=y
  subst e
  subst y
  refine⟨zG.refl _,?_⟩
  unfold qab at hd
  rw[gM_]at hd
  cases e2:(ybd n)[i]? with
  |none=>rw[e2]at hd;cases hd
  | some j=>
   rw[e2]at hd
   have hj:j=i:=by
    have:=(gI_.mp e2).2
    simpa using this.symm
   subst hj
   cases hd
   rfl
 stop:=λH' ex=>by show n<=(qab lo n).length;simp[qab]
def qfv:List D->Option (List D)
 | [.int j]=>if decide (-(2 ^ 62)<=j)&&decide (j<2 ^ 62)then some (qab 0 j.toNat)else none
 |_=>none
def z8(f:M (List D)):M (List D):=bnd f λds=>lift (qfv ds)
theorem yL {f:M (List D)} {p:Pos} (hg:Gl X "range") (hm:X.mg "range"=none) (ha:DA X c [a] f) (hs:yae [a] X.env=[(false,eval a X.env)]:=by rfl):DI X c tg (.Call (.Name "range" p) [a] [] pos) (z8 f):=by
 obtain⟨t,p,w⟩:=ha
 refine⟨_,qdB hg hm p hs,λZ σ H Q r h=>w Z σ H _ r (WpL.bndI h λds Z1 vs H1 r1 i1 g1 h1=>?_)⟩
 obtain⟨es,e,h2⟩:=vE h1
 unfold qfv at e
 split at e
 ·rename_i j
  obtain⟨v,rfl,e2⟩:=IsL.inv1 i1
  cases e2
  by_cases hb:(decide (-(2 ^ 62)<=j)&&decide (j<2 ^ 62))=true
  ·rw[if_pos hb]at e
   cases e
   rw[yaj]at hb
   exact⟨j,rfl,of_decide_eq_true hb.1,of_decide_eq_true hb.2,h2 _ H1 r1 (qgs 0 _) .refl⟩
  ·rw[if_neg hb]at e
   cases e
 ·cases e
def uh (g:D->Env->Option Env) (b:MS):List D->MS
 | [],Z => .ok (.nx Z)
 | d::ds,Z=>match g d Z with
  |none => .bad
  |some Z1=>match b Z1 with
   |.ok (.nx Z2)=>uh g b ds Z2
   |.ok (.ct Z2)=>uh g b ds Z2
   |.ok (.bk Z2) => .ok (.nx Z2)
   |.ok (.rt r Z2) => .ok (.rt r Z2)
   |.exc x Z2 => .exc x Z2
   |.bad => .bad
def qe1(f:M (List D))(g:D->Env->Option Env)(b:MS):MS:=sbnd f λds=>uh g b ds
theorem WpI.sbnd {K:Fr0} {σ:St} {H:Hp} {D':qdr} {f:M (List D)} {k:List D->MS} {Z:Env} {Q':It->Hp->Prop} (h:WpS K c σ H D' (Sk.sbnd f k Z))
  (hQ:∀ds Z' J H',Rep K c Z' σ H'->qgr K (CnT c σ H') H' ds J->Gr c.O σ H H'->WpS K c σ H' D' (k ds Z')->Q' J H'):WpI K c σ H Q' (f Z):=by
 unfold Sk.sbnd at h
 cases e:f Z with
 |ok p=>rw[e]at h;exact λv H' hr hi hg=>hQ p.1 p.2 v H' hr hi hg (h.gr hg.s)
 |exc x Z'=>rw[e]at h;exact λH' hr hg=>h σ H' hr hg.s
 |bad=>rw[e]at h;exact h
theorem GrS.extT{σ σ':St}{H H':Hp}(g:GrS c.O σ H σ' H'):Ext (CnT c σ H) H H':=⟨g.ext.tup,g.ext.frz,λb o hb h=>g.ext.at_ b o hb.1.2 h⟩
theorem GrS.cnT{σ σ':St}{H H':Hp}(g:GrS c.O σ H σ' H'){a:Addr}(h:CnT c σ H a):Cn c σ' a:=⟨h.1.1,g.cl a h.1.2 h.2⟩
theorem yV{α:Type}{l:List α}{i:Nat}(h:i<l.length):l.drop i=l[i]::l.drop (i+1):=List.drop_eq_getElem_cons h
theorem qb9 {it:Expr} {body:List Stmt} {f:M (List D)} {g:D->Env->Option Env} {b:MS} (hp:PassesOwn (model X.prog X.w) X.A X.env X.xe) (hc:X.calm=true) (hi:DI X c tg it f) (hg:DG X c tg g) (hb:DSs X c body b)
  (hs:∀x,yba it X.env x=pure x:=by intro _;rfl):DS X c (.For tg it body [] pos) (qe1 f g b):=by
 obtain⟨wi,pi,wI⟩:=hi
 obtain⟨tg',pg,wg⟩:=hg
 obtain⟨tb,pb,wb⟩:=hb
 refine⟨_,qiQ hp hc pi pg pb hs,λZ σ H D' r h=>wI Z σ H _ r (WpI.sbnd h λds Z1 J H1 r1 iok g1 h1=>?_)⟩
 refine⟨λi m σ' H'=>m=ds.length-i/\i<=ds.length/\∃Z',Rep X.K c Z' σ' H'/\GrS c.O σ H1 σ' H'/\WpS X.K c σ' H' D' (uh g b (ds.drop i) Z'),⟨ds.length,by simp,yaP _,Z1,r1,.refl,by simpa using h1⟩,?_⟩
 rintro i m σ' H' ⟨rfl,hi,Z',r',gs,w⟩
 by_cases hlt:i<ds.length
 ·refine .inr ⟨iok.go H' i ds[i] gs.extT (by simp[hlt]),λσ2 H2=>∃Z2,Rep X.K c Z2 σ2 H2/\GrS c.O σ H1 σ2 H2/\WpS X.K c σ2 H2 D' (uh g b (ds.drop (i+1)) Z2),λσ2 H2 n=>⟨ds.length-(i+1),by omega,rfl,hlt,n⟩,λx H'' y=>?_⟩
  obtain⟨sm,ix⟩:=iok.yl H' i ds[i] x H'' gs.extT (by simp[hlt]) y
  rw[yV hlt]at w
  unfold uh at w
  have gs2:GrS c.O σ H1 σ' H'':=gs.trans (Gr.of_same sm).s
  have ix2:Is X.K (Cn c σ') H'' ds[i] x:=Is.ext Ext.refl (λa ha _=>gs2.cnT ha) ix
  cases e1:g ds[i] Z' with
  |none=>simp only[e1]at w;exact w.elim
  | some Z2=>
   simp only[e1]at w
   refine wg Z' σ' H'' ds[i] x Z2 _ (r'.same sm) ix2 e1 λσ2 r2 g2 _=>wb Z2 σ2 H'' _ r2 ?_
   have w2:=w.gr ((Gr.of_same sm).s.trans g2)
   have gs3:GrS c.O σ H1 σ2 H'':=gs2.trans g2
   cases e2:b Z2 with
   |ok fl=>
    cases fl with
    |nx Z3=>simp only[e2]at w2;exact λσ3 H3 r3 g3=>⟨Z3,r3,gs3.trans g3,w2.gr g3⟩
    |ct Z3=>simp only[e2]at w2;exact λσ3 H3 r3 g3=>⟨Z3,r3,gs3.trans g3,w2.gr g3⟩
    |bk Z3=>simp only[e2]at w2;exact w2
    |rt d Z3=>simp only[e2]at w2;exact w2
   |exc x Z3=>simp only[e2]at w2;exact w2
   |bad=>simp only[e2]at w2;exact w2
 ·have hie:i=ds.length:=by omega
  subst hie
  rw[yb0 (yak _)]at w
  exact .inl ⟨iok.stop H' gs.extT,w σ' H' r' .refl⟩
end
def cin (B0:Addr->Prop) (H1:Hp) (O':List Nat) (Io':Addr->Prop) (acc:Addr) (S':Nat->Option (Option V)):Fc where
 O:=O'
 P:=O'
 B:=λa=>B0 a/\a≠acc
 H0:=upd H1 acc (.lst [])
 Io:=λa=>Io' a\/a=acc
 E:=λ_ _=>False
 S:=S'
def qG (g:D->Env->Option Env) (t:M Bool) (e:M D):List D->List D->Env->R (List D×Env)
 | [],acc,Z => .ok (acc,Z)
 | d :: ds,acc,Z=>match g d Z with
  |none => .bad
  | some Z1=>match t Z1 with
   |.ok (true,Z2)=>match e Z2 with
    |.ok (y,Z3)=>if qC (acc.length+1)then qG g t e ds (acc++[y]) Z3 else .bad
    |_ => .bad
   |.ok (false,Z2)=>qG g t e ds acc Z2
   |_ => .bad
def zC(nt:Nat)(fr:List Nat)(Z:Env):Env:=yag nt none++fr.map λj=>(Z[j]?).join
def qfw (fo:Option (Nat×Nat)) (Ze Z:Env):Env:=match fo with
 |none=>Z
 |some (i,j)=>Z.set j (Ze[i]?).join
def qE (nt:Nat) (fr:List Nat) (fo:Option (Nat×Nat)) (f:M (List D)) (g:D->Env->Option Env) (t:M Bool) (e:M D):M D:=bnd f λds Z=>match qG g t e ds [] (zC nt fr Z) with
 |.ok (ys,Ze) => .ok (.lst ys,qfw fo Ze Z)
 |_ => .bad
def DF(X:Cx)(c:Fc)(ifs:List Expr)(f:M Bool):Prop:=∃t,PF X ifs t/\∀Z σ H Q,Rep X.K c Z σ H->WpB X.K c σ H Q (f Z)->t σ H Q
def foO (fo:Option (Nat×Nat)):List Nat:=match fo with
 |none=>[]
 |some (i,_)=>[i]
section
variable{X:Cx}{c:Fc}{tg a b e:Expr}{pos:Pos}
theorem y8:DF X c [] (ret true):=⟨_,qjo,λZ σ H Q r h=>h H r .refl⟩
theorem qa6 {f:M Bool} (h:DT X c e f):DF X c [e] f:=by
 obtain⟨t,p,w⟩:=h
 exact⟨_,qjp p,w⟩
theorem WpI.bnd {K:Fr0} {σ:St} {H:Hp} {Q:VK} {f:M (List D)} {k:List D->M D} {Z:Env} {Q':It->Hp->Prop} (h:Wp K c σ H Q (Sk.bnd f k Z))
  (hQ:∀ds Z' J H',Rep K c Z' σ H'->qgr K (CnT c σ H') H' ds J->Gr c.O σ H H'->Wp K c σ H' Q (k ds Z')->Q' J H'):WpI K c σ H Q' (f Z):=by
 unfold Sk.bnd at h
 cases e:f Z with
 |ok p=>rw[e]at h;exact λv H' hr hi hg=>hQ p.1 p.2 v H' hr hi hg (h.gr hg)
 |exc x Z'=>rw[e]at h;exact h
 |bad=>rw[e]at h;exact h
theorem Rep.grow {K:Fr0} {B0:Addr->Prop} {H1:Hp} {O':List Nat} {Io':Addr->Prop} {acc:Addr} {S':Nat->Option (Option V)} {Z:Env} {σ:St} {H:Hp} {xs ys:List V} (r:Rep K (cin B0 H1 O' Io' acc S') Z σ H) (h:H acc=some (.lst xs)) (ho:∀j∈O',σ[j]? ≠ some (some (.ref acc))) :
  Rep K (cin B0 H1 O' Io' acc S') Z σ (upd H acc (.lst ys)):=by
 have ext:Ext (λa=>a≠acc) H (upd H acc (.lst ys)):=⟨λb zs hb=>by rw[qm (ux hb h (by intro z;cases z))];exact hb,λb o u hb=>by rw[qm (ux hb h (by intro z;cases z))];exact hb,λb o hb hq=>by rw[qm hb];exact hq⟩
 have cnext:Ext (Cn (cin B0 H1 O' Io' acc S') σ) H (upd H acc (.lst ys)):=⟨ext.tup,ext.frz,λb o hb hq=>ext.at_ b o hb.1.2 hq⟩
 refine⟨r.len,λi d hd=>?_,λj hj v hv=>?_,r.inj,r.b0,λb o hb hio=>?_,λb hb=>?_,r.pO,r.ps⟩
 ·obtain ⟨v,h1,h2⟩:=r.val i d hd
  refine⟨v,h1,?_⟩
  rcases h2 with⟨hi,ds,a,zs,h3,h5,h6,h7⟩|⟨hi,h3⟩
  ·subst h5
   have ne:a≠acc:=λe=>ho i hi (by rw[h1,e])
   exact .inl ⟨hi,ds,a,zs,h3,rfl,by rw[qm ne];exact h6,IsL.ext cnext (λ_ h _=>h) h7⟩
  ·exact .inr ⟨hi,Is.ext cnext (λ_ h _=>h) h3⟩
 ·obtain⟨a,zs,h1,h2,h3⟩:=r.own j hj v hv
  subst h1
  have ne:a≠acc:=λe=>ho j hj (by rw[hv,e])
  exact⟨a,zs,rfl,by rw[qm ne];exact h2,h3⟩
 ·have ne:b≠acc:=λe=>hio (.inr e)
  rw[qm ne]
  exact r.kp b o hb hio
 ·by_cases e:b=acc
  ·subst e;rw[qi]at hb;cases hb
  ·rw[qm e]at hb;exact r.dm b hb
theorem wj {α:Type} {o:Option (Option α)} {a:α} (h:o.join=some a):o=some (some a):=by
 cases o with
 |none=>cases h
 |some x=>have:x=some a:=h;rw[this]
def qgt (c:Fc) (nt:Nat) (fr:List Nat) (fo:Option (Nat×Nat)):Prop:=match fo with
 |none=>∀j∈fr,j ∉ c.O
 |some (i,j)=>j∈c.O/\nt<=i/\fr[i-nt]? = some j/\∀k j',fr[k]? = some j'->nt+k≠i->j' ∉ c.O
def wm (σ:St) (fo:Option (Nat×Nat)) (a:Addr):Prop:=match fo with
 |none=>False
 |some (_,j)=>σ[j]? = some (some (.ref a))
theorem uW {nt:Nat} {fr:List Nat} {σ:St} {k j:Nat} (h:fr[k]? = some j):(qu nt fr σ)[nt+k]? = some (σ[j]?).join:=by
 unfold qu
 rw[List.getElem?_append_right (by simp),yaK,gM_,show nt+k-nt=k by omega,h]
 rfl
theorem qc5 {nt:Nat} {fr:List Nat} {Z:Env} {i:Nat} {d:D} (hd:(zC nt fr Z)[i]? = some (some d)):∃k j,i=nt+k/\fr[k]? = some j/\Z[j]? = some (some d):=by
 have hi:nt<=i:=by
  apply yb5
  intro hlt
  unfold zC at hd
  rw[List.getElem?_append_left (by simpa using hlt),List.getElem?_replicate]at hd
  split at hd<;>cases hd
 unfold zC at hd
 rw[List.getElem?_append_right (by simpa using hi),yaK,gM_]at hd
 cases ej:fr[i-nt]? with
 |none=>rw[ej]at hd;cases hd
 |some j=>
  rw[ej]at hd
  exact⟨i-nt,j,by omega,ej,wj (by simpa using hd)⟩
theorem zP {nt:Nat} {fr:List Nat} {σ:St} {i:Nat} {d:V} (hd:(qu nt fr σ)[i]? = some (some d)):∃k j,i=nt+k/\fr[k]? = some j/\σ[j]? = some (some d):=by
 have hi:nt<=i:=by
  apply yb5
  intro hlt
  unfold qu at hd
  rw[List.getElem?_append_left (by simpa using hlt),List.getElem?_replicate]at hd
  split at hd<;>cases hd
 unfold qu at hd
 rw[List.getElem?_append_right (by simpa using hi),yaK,gM_]at hd
 cases ej:fr[i-nt]? with
 |none=>rw[ej]at hd;cases hd
 |some j=>
  rw[ej]at hd
  exact⟨i-nt,j,by omega,ej,wj (by simpa using hd)⟩
theorem Rep.entry {K:Fr0} {nt:Nat} {fr:List Nat} {fo:Option (Nat×Nat)} {acc:Addr} {Z:Env} {σ:St} {H:Hp} (r:Rep K c Z σ H) (hn:H acc=none) (hfo:qgt c nt fr fo) :
  Rep K (cin (Cn c σ) H (foO fo) (wm σ fo) acc λj=>(qu nt fr σ)[j]?) (zC nt fr Z) (qu nt fr σ) (upd H acc (.lst [])):=by
 have sm:zG H (upd H acc (.lst [])):=qs hn _
 have ownI:∀i∈foO fo,∀v,(qu nt fr σ)[i]? = some (some v)->∃j,fo=some (i,j)/\j∈c.O/\σ[j]? = some (some v):=λi hi v hv=>by
  cases fo with
  |none=>cases hi
  |some p=>
   obtain⟨i',j'⟩:=p
   have e:i=i':=by simpa [foO] using hi
   subst e
   obtain⟨h1,h2,h3,h4⟩:=hfo
   obtain⟨k,j,e1,e2,e3⟩:=zP hv
   have hk:k=i-nt:=by omega
   subst hk
   rw[h3]at e2
   cases e2
   exact⟨j',rfl,h1,e3⟩
 have clI:∀a,Cl c.O σ a->Cl (foO fo) (qu nt fr σ) a:=λa ha i hi e=>by
  obtain⟨j,_,hj,e2⟩:=ownI i hi _ e
  exact ha j hj e2
 refine⟨by simp[zC,qu],λi d hd=>?_,λi hi v hv=>?_,λi j a hi hj h1 h2=>?_,⟨λa ha=>?_,λq P pos eP=>?_⟩,λb o hb hio=>?_,λb hb=>?_,λ_ h=>h,λ_ _=>rfl⟩
 ·obtain ⟨k,j,e1,e2,e3⟩:=qc5 hd
  subst e1
  by_cases hO:nt+k∈foO fo
  ·obtain ⟨v,hv⟩:∃v,σ[j]? = some (some v):=by
    obtain⟨v,h1,_⟩:=r.val j d e3
    exact⟨v,h1⟩
   have hc:(qu nt fr σ)[nt+k]? = some (some v):=by rw[uW e2,hv];rfl
   obtain⟨j',f1,f2,f3⟩:=ownI _ hO v hc
   subst f1
   obtain⟨g1,g2,g3,g4⟩:=hfo
   rw[show nt+k-nt=k by omega,e2]at g3
   cases g3
   obtain⟨ds,a,xs,h1,h3,h4,h5⟩:=r.getO g1 e3
   rw[hv]at h3
   cases h3
   exact⟨.ref a,hc,.inl ⟨hO,ds,a,xs,h1,rfl,sm _ _ h4,IsL.ext (Ext.of_same sm) (λb hb hs=>⟨⟨hb,λe=>by subst e;rw[hn]at hs;cases hs⟩,clI b hb.2⟩) h5⟩⟩
  ·have hj:j ∉ c.O:=by
    cases fo with
    |none=>exact hfo j (ycY e2)
    |some p=>
     obtain⟨i',j'⟩:=p
     exact hfo.2.2.2 k j e2 (λe=>hO (by simp[foO,e]))
   obtain⟨v,h1,h2⟩:=r.get hj e3
   refine⟨v,by rw[uW e2,h1];rfl,.inr ⟨hO,?_⟩⟩
   refine Is.ext (Ext.of_same sm) (λa ha hs=>⟨⟨ha,λe=>?_⟩,clI a ha.2⟩) h2
   subst e;rw[hn]at hs;cases hs
 ·obtain⟨j,f1,f2,f3⟩:=ownI i hi v hv
  obtain⟨a,xs,h1,h2,h3⟩:=r.own j f2 v f3
  subst h1 f1
  exact⟨a,xs,rfl,sm _ _ h2,.inr ⟨hi,.inl f3⟩⟩
 ·cases fo with
  |none=>cases hi
  |some p=>
   obtain⟨i',j'⟩:=p
   have e:i=i':=by simpa [foO,cin] using hi
   have e2:j=i':=by simpa [foO,cin] using hj
   rw[e,e2]
 ·have ha':upd H acc (.lst []) a=none:=ha
  by_cases e:a=acc
  ·subst e;rw[qi]at ha';cases ha'
  ·rw[qm e]at ha';exact⟨r.new ha',e⟩
 ·have hP:=(r.tb q P pos eP).1
  refine⟨sm _ _ hP,λz=>?_⟩
  rcases z with z|z
  ·cases fo with
   |none=>exact z
   |some p=>
    obtain⟨b,xs,e1,e2,_⟩:=r.own _ hfo.1 _ z
    cases e1
    rw[hP]at e2;cases e2
  ·rw[z,hn]at hP;cases hP
 ·exact hb
 ·exact hb
theorem Rep.leave {K:Fr0} {nt:Nat} {fr:List Nat} {fo:Option (Nat×Nat)} {acc:Addr} {Z Ze:Env} {σ σe:St} {H H':Hp} (r:Rep K c Z σ H) (hn:H acc=none) (hfo:qgt c nt fr fo) (hf:∀i j,fo=some (i,j)->σe[i]? = (qu nt fr σ)[i]?)
  (q:Rep K (cin (Cn c σ) H (foO fo) (wm σ fo) acc λj=>(qu nt fr σ)[j]?) Ze σe H'):Rep K c (qfw fo Ze Z) σ H'/\Gr c.O σ H H':=by
 have kp:∀b o,H b=some o->¬wm σ fo b->H' b=some o:=λb o hb hio=>q.kp b o (by show upd H acc (.lst []) b=some o;rw[qm (qA hb hn)];exact hb) λz=>z.elim hio λe=>absurd e (qA hb hn)
 have clean:∀b,Cl c.O σ b->¬wm σ fo b:=λb hb hio=>by
  cases fo with
  |none=>exact hio
  |some p=>exact hb p.2 hfo.1 hio
 have dom:∀b,H' b=none->H b=none:=λb hb=>by
  have:=q.dm b hb
  by_cases e:b=acc
  ·subst e;exact hn
  ·have this:upd H acc (.lst []) b=none:=this
   rw[qm e]at this;exact this
 have notT:∀b xs,H b=some (.tup xs)->¬wm σ fo b:=λb xs hb hio=>by
  cases fo with
  |none=>exact hio
  |some p=>
   obtain⟨a,ys,e1,e2,_⟩:=r.own p.2 hfo.1 _ hio
   cases e1;rw[hb]at e2;cases e2
 have notF:∀b o u,H b=some (.frz o u)->¬wm σ fo b:=λb o u hb hio=>by
  cases fo with
  |none=>exact hio
  |some p=>
   obtain⟨a,ys,e1,e2,_⟩:=r.own p.2 hfo.1 _ hio
   cases e1;rw[hb]at e2;cases e2
 have gr:Gr c.O σ H H':=⟨⟨λb xs hb=>kp b _ hb (notT b xs hb),λb o u hb=>kp b _ hb (notF b o u hb),λb o hc hb=>kp b o hb (clean b hc)⟩,dom⟩
 refine⟨⟨?_,λk d hd=>?_,λj hj v hv=>?_,r.inj,r.b0,λb o hb hio=>?_,λb hb=>r.dm b (dom b hb),r.pO,r.ps⟩,gr⟩
 ·cases fo with
  |none=>exact r.len
  |some p=>show(Z.set _ _).length=_;rw[lS_];exact r.len
 ·-- an old slot,or the one that came qfw
  have oldSlot:Z[k]? = some (some d)->(∀i,fo≠some (i,k))->∃v,σ[k]? = some (some v)/\((k∈c.O/\∃ds a xs,d=.lst ds/\v=.ref a/\H' a=some (.lst xs)/\IsL K (Cn c σ) H' ds xs)\/(k ∉ c.O/\Is K (Cn c σ) H' d v)):=λhk hne=>by
   obtain⟨v,h1,h2⟩:=r.val k d hk
   refine⟨v,h1,?_⟩
   rcases h2 with⟨hi,ds,a,xs,h3,h5,h6,h7⟩|⟨hi,h3⟩
   ·subst h5
    refine .inl ⟨hi,ds,a,xs,h3,rfl,kp a _ h6 (λhio=>?_),gr.isL h7⟩
    cases fo with
    |none=>exact hio
    |some p=>
     obtain⟨i',j'⟩:=p
     have e:=r.inj k j' a hi hfo.1 h1 hio
     exact hne i' (by rw[e])
   ·exact .inr ⟨hi,gr.is h3⟩
  cases fo with
  |none=>exact oldSlot hd (λi e=>by cases e)
  | some p=>
   obtain⟨i',j'⟩:=p
   have hd':(Z.set j' (Ze[i']?).join)[k]? = some (some d):=hd
   by_cases e:k=j'
   ·subst e
    have hl:k<Z.length:=by
     have:=(gI_.mp hd').1
     rwa [lS_]at this
    rw[List.getElem?_set_self hl]at hd'
    have he:Ze[i']? = some (some d):=wj (yaF hd')
    obtain⟨ds,a,xs,h1,h3,h4,h5⟩:=q.getO (show i'∈foO (some (i',k)) by simp[foO]) he
    have h3':=hf i' k rfl
    rw[h3]at h3'
    obtain⟨k2,j2,e1,e2,e3⟩:=zP h3'.symm
    have hk2:k2=i'-nt:=by omega
    subst hk2
    rw[hfo.2.2.1]at e2
    cases e2
    exact⟨.ref a,e3,.inl ⟨hfo.1,ds,a,xs,h1,rfl,h4,IsL.ext Ext.refl (λb hb _=>hb.1.1) h5⟩⟩
   ·rw[qX e]at hd'
    exact oldSlot hd' (λi e2=>e (by cases e2;rfl))
 ·obtain ⟨a,xs,h1,h2,h3⟩:=r.own j hj v hv
  subst h1
  by_cases hio:wm σ fo a
  ·cases fo with
   |none=>exact hio.elim
   | some p=>
    obtain⟨i',j'⟩:=p
    have hc:(qu nt fr σ)[i']? = some (some (.ref a)):=by
     have:=uW (σ:=σ) (nt:=nt) hfo.2.2.1
     rw[show nt+(i'-nt)=i' by have:=hfo.2.1;omega]at this
     rw[this]
     have hio':σ[j']? = some (some (.ref a)):=hio
     rw[hio'];rfl
    have h3':=hf i' j' rfl
    rw[hc]at h3'
    obtain⟨a',ys,e1,e2,_⟩:=q.own i' (by simp[foO,cin]) _ h3'
    cases e1
    exact⟨a,ys,rfl,e2,h3⟩
  ·exact⟨a,xs,rfl,kp a _ h2 hio,h3⟩
 ·by_cases hio2:wm σ fo b
  ·cases fo with
   |none=>exact hio2.elim
   |some p=>
    obtain⟨a,ys,e1,e2,e3⟩:=r.own p.2 hfo.1 _ hio2
    cases e1
    rcases e3 with e3|e3
    ·rw[hb]at e3;cases e3
    ·exact absurd e3.2 hio
  ·exact kp b o (r.kp b o hb hio) hio2
theorem jy {it elt:Expr} {ifs:List Expr} {scope:Scope} {N':List Str} {nt:Nat} {fr:List Nat} {fo:Option (Nat×Nat)} {f:M (List D)} {g:D->Env->Option Env} {t:M Bool} {k:M D} (hc:X.calm=true) (hi:DI X c tg it f) (S:jo X scope N' nt fr)
  (hfo:qgt c nt fr fo)
  (hb:∀fp cl C s₀ H₀ pn B0 H1 Io' acc S',DG (qU X scope N' fp cl C s₀ H₀ pn) (cin B0 H1 (foO fo) Io' acc S') tg g/\DF (qU X scope N' fp cl C s₀ H₀ pn) (cin B0 H1 (foO fo) Io' acc S') ifs t/\DE (qU X scope N' fp cl C s₀ H₀ pn) (cin B0 H1 (foO fo) Io' acc S') elt k)
  (hs:∀x,yba it X.env x=pure x:=by intro _;rfl):DE X c (.ListComp elt [⟨tg,it,ifs,0⟩] scope pos) (qE nt fr fo f g t k):=by
 obtain⟨wi,pi,wI⟩:=hi
 refine⟨_,qhm hc pi S hs,λZ σ H Q r h=>wI Z σ H _ r (WpI.bnd h λds Z1 J H1 r1 iok g1 h1=>?_)⟩
 intro acc fp cl C s₀ H₀ pn hn
 obtain⟨⟨tg',pg,wg⟩,⟨tt,pt,wt⟩,⟨te,pe,we⟩⟩:=hb fp cl C s₀ H₀ pn (Cn c σ) H1 (wm σ fo) acc λj=>(qu nt fr σ)[j]?
 refine⟨tg',tt,te,pg,pt,pe,?_⟩
 cases ew:qG g t k ds [] (zC nt fr Z1) with
 |exc x Z'=>rw[ew]at h1;exact h1.elim
 |bad=>rw[ew]at h1;exact h1.elim
 | ok p =>
  rw[ew]at h1
  obtain⟨ys,Ze⟩:=p
  have h1:∀v H',Rep X.K c (qfw fo Ze Z1) σ H'->Is X.K (Cn c σ) H' (.lst ys) v->Gr c.O σ H1 H'->Q v H':=h1
  have accO:∀j∈foO fo,(qu nt fr σ)[j]? ≠ some (some (.ref acc)):=λj hj e=>by
   have r0:=r1.entry (acc:=acc) hn hfo
   cases fo with
   |none=>cases hj
   |some p=>
    obtain⟨i',j'⟩:=p
    have e2:j=i':=by simpa [foO] using hj
    subst e2
    obtain⟨k2,j2,e1,e2,e3⟩:=zP e
    have hk2:k2=j-nt:=by omega
    subst hk2
    rw[hfo.2.2.1]at e2
    cases e2
    obtain⟨a,us,e4,e5,_⟩:=r1.own j' hfo.1 _ e3
    cases e4;rw[hn]at e5;cases e5
  refine ⟨λi m σ' H'=>m=ds.length-i/\i<=ds.length/\∃Z' zs xs,Rep X.K (cin (Cn c σ) H1 (foO fo) (wm σ fo) acc λj=>(qu nt fr σ)[j]?) Z' σ' H'/\(∀j∈foO fo,σ'[j]? = (qu nt fr σ)[j]?)/\H' acc=some (.lst xs)/\IsL X.K (Cn (cin (Cn c σ) H1 (foO fo) (wm σ fo) acc λj=>(qu nt fr σ)[j]?) σ') H' zs xs/\qG g t k (ds.drop i) zs Z'=.ok (ys,Ze),
   ⟨ds.length,by simp,yaP _,zC nt fr Z1,[],[],r1.entry hn hfo,λ_ _=>rfl,qi,rfl,by simpa using ew⟩,?_⟩
  rintro i m σ' H' ⟨rfl,hi,Z',zs,xs,r',so,ha,iz,w⟩
  obtain⟨_,gr⟩:=r1.leave hn hfo (λi j e=>so i (by rw[e];simp[foO])) r'
  have ex:Ext (CnT c σ H1) H1 H':=⟨gr.ext.tup,gr.ext.frz,λb o hb hq=>gr.ext.at_ b o hb.1.2 hq⟩
  have accC:∀τ:St,(∀j∈foO fo,τ[j]? = (qu nt fr σ)[j]?)->Cl (foO fo) τ acc:=λτ hτ j hj e=>accO j hj (by rw[<-hτ j hj];exact e)
  by_cases hlt:i<ds.length
  ·refine .inr ⟨iok.go H' i ds[i] ex (by simp[hlt]),λx H'' y=>?_⟩
   obtain⟨sm,ix⟩:=iok.yl H' i ds[i] x H'' ex (by simp[hlt]) y
   rw[yV hlt]at w
   unfold qG at w
   have ix2:Is X.K (Cn (cin (Cn c σ) H1 (foO fo) (wm σ fo) acc λj=>(qu nt fr σ)[j]?) σ') H'' ds[i] x:=Is.ext Ext.refl (λa ha _=>⟨⟨ha.1,λe=>by
    have:=ha.2
    rw [e,hn]at this;cases this⟩,λj hj e=>by
     rw[so j hj]at e
     cases fo with
     |none=>cases hj
     |some p=>
      obtain⟨i',j'⟩:=p
      have e2:j=i':=by simpa [foO,cin] using hj
      subst e2
      obtain⟨k2,j2,e1,e2,e3⟩:=zP e
      have hk2:k2=j-nt:=by omega
      subst hk2
      rw[hfo.2.2.1]at e2
      cases e2
      exact ha.1.2 j' hfo.1 e3⟩) ix
   cases e1:g ds[i] Z' with
   |none=>simp only[e1]at w;cases w
   | some Z2=>
    simp only[e1]at w
    refine wg Z' σ' H'' ds[i] x Z2 _ (r'.same sm) ix2 e1 λσ2 r2 g2 o2=>?_
    have so2:∀j∈foO fo,σ2[j]? = (qu nt fr σ)[j]? := λj hj=>(o2 j hj).trans (so j hj)
    have ha2:H'' acc=some (.lst xs):=sm _ _ ha
    have iz2:=g2.isL (IsL.ext (Ext.of_same sm) (λ_ h _=>h) iz)
    cases e2:t Z2 with
    |exc x Z3=>simp only[e2]at w;cases w
    |bad=>simp only[e2]at w;cases w
    | ok p2=>
     obtain⟨bb,Z3⟩:=p2
     refine wt Z2 σ2 H'' _ r2 ?_
     rw[e2]
     intro H3 r3 g3
     have ha3:H3 acc=some (.lst xs):=g3.ext.at_ _ _ (accC σ2 so2) ha2
     have iz3:=g3.isL iz2
     cases bb with
     |false=>
      rw[if_neg yal]
      simp only[e2]at w
      exact⟨ds.length-(i+1),by omega,rfl,hlt,Z3,zs,xs,r3,so2,ha3,iz3,w⟩
     | true=>
      rw[if_pos rfl]
      simp only[e2]at w
      cases e3:k Z3 with
      |exc x Z4=>simp only[e3]at w;cases w
      |bad=>simp only[e3]at w;cases w
      | ok p3=>
       obtain⟨d4,Z4⟩:=p3
       simp only[e3]at w
       refine we Z3 σ2 H3 _ r3 ?_
       rw[e3]
       intro y4 H4 r4 i4 g4
       have ha4:H4 acc=some (.lst xs):=g4.ext.at_ _ _ (accC σ2 so2) ha3
       have hsz:qC (zs.length+1)=true:=by
        cases e5:qC (zs.length+1) with
        |true=>rfl
        |false=>rw[e5]at w;simp at w
       rw[if_pos hsz]at w
       have hsz':zs.length+1<=yas:=of_decide_eq_true hsz
       have r5:=r4.grow (ys:=xs++[y4]) ha4 (λj hj e=>accC σ2 so2 j hj e)
       have ext5:Ext (Cn (cin (Cn c σ) H1 (foO fo) (wm σ fo) acc λj=>(qu nt fr σ)[j]?) σ2) H4 (upd H4 acc (.lst (xs++[y4]))):=⟨λb us hb=>by rw[qm (ux hb ha4 (by intro z;cases z))];exact hb,λb o u hb=>by rw[qm (ux hb ha4 (by intro z;cases z))];exact hb,λb o hb hq=>by rw[qm hb.1.2];exact hq⟩
       refine⟨xs,ha4,by rw[iz3.length];omega,ds.length-(i+1),by omega,rfl,hlt,Z4,zs++[d4],xs++[y4],r5,so2,qi,?_,w⟩
       exact IsL.append (IsL.ext ext5 (λ_ h _=>h) (g4.isL iz3)) (IsL.one (Is.ext ext5 (λ_ h _=>h) i4))
  ·have hie:i=ds.length:=by omega
   subst hie
   rw[yb0 (yak _)]at w
   unfold qG at w
   cases w
   obtain⟨r6,g6⟩:=r1.leave hn hfo (λi j e=>so i (by rw[e];simp[foO])) r'
   exact .inl ⟨iok.stop H' ex,h1 _ H' r6 ⟨acc,xs,rfl,r1.new hn,ha,IsL.ext Ext.refl (λa ha hs=>ha.1.1) iz⟩ g6⟩
end
theorem Rep.io {K:Fr0} {c:Fc} {Z:Env} {σ:St} {H H':Hp} {i:Nat} {a:Addr} {bs:List D} {xs:List V} (r:Rep K c Z σ H) (hi:i∈c.O) (hs:σ[i]? = some (some (.ref a))) (kp:∀b o,b≠a->H b=some o->H' b=some o)
  (ha:H' a=some (.lst xs)) (him:True) (il:IsL K (Cn c σ) H' bs xs) (dm:∀b,H' b=none->H b=none):Rep K c (Z.set i (some (.lst bs))) σ H'/\Gr c.O σ H H':=by
 obtain⟨a',xs0,e0,h0,hown⟩:=r.own i hi _ hs
 cases e0
 have gr:Gr c.O σ H H':=⟨⟨λb us hb=>kp b _ (ux hb h0 (by intro z;cases z)) hb,λb o u hb=>kp b _ (ux hb h0 (by intro z;cases z)) hb,λb o hc hb=>kp b o (λe=>hc i hi (by rw[hs,e])) hb⟩,dm⟩
 refine⟨⟨by rw[lS_];exact r.len,λk d hk=>?_,λj hj v hv=>?_,r.inj,r.b0,λb o hb hio=>?_,λb hb=>r.dm b (dm b hb),r.pO,r.ps⟩,gr⟩
 ·by_cases e:k=i
  ·subst e
   have hl:k<Z.length:=by
    have:=(gI_.mp hk).1
    rwa [lS_]at this
   rw[List.getElem?_set_self hl]at hk
   cases hk
   exact⟨.ref a,hs,.inl ⟨hi,bs,a,xs,rfl,rfl,ha,il⟩⟩
  ·rw [qX e]at hk
   obtain⟨v,h1,h2⟩:=r.val k d hk
   refine⟨v,h1,?_⟩
   rcases h2 with⟨hk2,ds,b,ys,h3,h5,h6,h7⟩|⟨hk2,h3⟩
   ·subst h5
    have ne:b≠a:=λe2=>e (r.inj k i a hk2 hi (by rw[h1,e2]) hs)
    exact .inl ⟨hk2,ds,b,ys,h3,rfl,kp b _ ne h6,gr.isL h7⟩
   ·exact .inr ⟨hk2,gr.is h3⟩
 ·obtain⟨b,ys,h1,h2,h3⟩:=r.own j hj v hv
  subst h1
  by_cases e:b=a
  ·subst e;exact⟨b,xs,rfl,ha,h3⟩
  ·exact⟨b,ys,rfl,kp b _ e h2,h3⟩
 ·have ne:b≠a:=λe=>by
   subst e
   rcases hown with z|z
   ·rw[hb]at z;cases z
   ·exact hio z.2
  exact kp b o ne (r.kp b o hb hio)
def zi (i:Nat) (Z:Env):Option (List D):=match Z[i]? with
 |some (some (.lst ds))=>some ds
 |_=>none
theorem qd6 {i:Nat} {Z:Env} {ds:List D} (h:zi i Z=some ds):Z[i]? = some (some (.lst ds)):=by
 unfold zi at h
 split at h
 ·rename_i e;cases h;exact e
 ·cases h
theorem Rep.getLO {K:Fr0} {c:Fc} {Z:Env} {σ:St} {H:Hp} (r:Rep K c Z σ H) {i:Nat} {ds:List D} (hi:i∈c.O) (h:zi i Z=some ds) :
  ∃a xs,True/\σ[i]? = some (some (.ref a))/\H a=some (.lst xs)/\IsL K (Cn c σ) H ds xs:=by
 obtain⟨ds',a,xs,h1,h3,h4,h5⟩:=r.getO hi (qd6 h)
 cases h1
 exact⟨a,xs,trivial,h3,h4,h5⟩
theorem jp{H:Hp}{a b:Addr}{o u:HO}(h:b≠a)(hb:H b=some o):upd H a u b=some o:=by rw[qm h];exact hb
theorem qd7 {H:Hp} {a b:Addr} {u:HO} (h:upd H a u b=none):H b=none:=by
 by_cases e:b=a
 ·subst e;rw[qi]at h;cases h
 ·rw[qm e]at h;exact h
section
variable{X:Cx}{c:Fc}{a b e:Expr}{pos:Pos}
def ui (i:Nat) (f:M D):M D:=λZ=>match zi i Z with
 |none => .bad
 |some _=>(bnd f λd Z=>match zi i Z with
  |some ds=>if imm d&&qC (ds.length+1)then .ok (.non,Z.set i (some (.lst (ds++[d]))))else .bad
  |none => .bad) Z
theorem qd8 {i:Nat} {x:Str} {p1 apos:Pos} {f:M D} (he:DE X c e f) (ho:i∈c.O:=by exact of_decide_eq_true rfl) (hN:X.N[i]? = some x:=by rfl) (hv:Vis X.env.scope x:=by first|exact ybI rfl|exact ya7 (ybI rfl)|exact ya7 (ya7 rfl)) (hd:(x==("__debug__":Str))=false:=by decide) (hcd:(x==("__classdict__":Str))=false:=by decide)
  (hbase:attributeBase (.Name x p1) "append" X.env (eval (.Name x p1) X.env)=eval (.Name x p1) X.env:=by rfl)
  (hfew:((yaO pos (yae [e] X.env)).all (λx => !x.1)&&(backToKw pos (keywordEach [] X.env)).all (λx=>x.1.isSome)
   && decide ([e].length+([]:List yff).length+(if([]:List yff).isEmpty then 0 else 1)<30))=true:=by rfl)
  (hline:(apos.endLine==pos.line)=true:=by rfl) (hs:yae [e] X.env=(false,eval e X.env)::yae [] X.env:=by rfl) (hplain:(yaO pos (yae [] X.env)).any (·.1)=false:=by rfl) :
  DE X c (.Call (.Attribute (.Name x p1) "append" apos) [e] [] pos) (ui i f):=by
 obtain⟨t,p,w⟩:=he
 refine⟨_,qld PySem.F.plainAttrs_list PySem.F.slot_list_append PySem.F.type_list_append uy (vN hN hv hd hcd) (jP p vQ hs) hbase hfew hline hs hplain,λZ σ H Q r h=>?_⟩
 unfold ui at h
 cases e0:zi i Z with
 |none=>rw[e0]at h;exact h.elim
 | some ds0=>
  simp only[e0]at h
  obtain⟨l,xs0,_,hl,hH,_⟩:=r.getLO ho e0
  refine⟨.ref l,hl,.inl ⟨rfl,xs0,.inl (.inl hH)⟩,w Z σ H _ r (Wp.bnd h λd Z1 v H1 r1 i1 g1 h1=>?_)⟩
  cases e1:zi i Z1 with
  |none=>simp only[e1]at h1;exact h1.elim
  | some ds=>
   simp only[e1]at h1
   by_cases hb:(imm d&&qC (ds.length+1))=true
   ·rw [if_pos hb]at h1
    rw[yaj]at hb
    obtain⟨l',xs,him,hl',hH',il⟩:=r1.getLO ho e1
    rw[hl]at hl'
    cases hl'
    have hsz:ds.length+1<=yas:=of_decide_eq_true hb.2
    have ext:Ext (Cn c σ) H1 (upd H1 l (.lst (xs++[v]))):=⟨λb us hb=>jp (ux hb hH' (by intro z;cases z)) hb,λb o u hb=>jp (ux hb hH' (by intro z;cases z)) hb,λb o hb hq=>jp (λe=>hb.2 i ho (by rw[hl,e])) hq⟩
    obtain ⟨r2,g2⟩:=r1.io (H':=upd H1 l (.lst (xs++[v]))) (bs:=ds++[d]) ho hl (λb o hb ho=>jp hb ho) qi trivial
     (IsL.append (IsL.ext ext (λ_ h _=>h) il) (IsL.one (Is.ext ext (λ_ h _=>h) i1))) (λb hb=>qd7 hb)
    exact⟨l,xs,v,rfl,rfl,hH',by rw[il.length];omega,h1 _ _ r2 rfl g2⟩
   ·rw[if_neg hb]at h1;exact h1.elim
def qfx (i:Nat) (k f:M D):MS:=sbnd f λd Z=>match zi i Z with
 |none => .bad
 | some _=>(sbnd k λj Z=>match j,zi i Z with
  |.int n,some ds=>match ixN ds.length n with
   |some q=>if imm d then .ok (.nx (Z.set i (some (.lst (ds.set q d)))))else .bad
   |none => .bad
  |_,_ => .bad) Z
theorem qhn {i:Nat} {x:Str} {p1 p2:Pos} {ke:Expr} {f k:M D} (he:DE X c e f) (hk:DE X c ke k) (ho:i∈c.O:=by exact of_decide_eq_true rfl) (hN:X.N[i]? = some x:=by rfl) (hv:Vis X.env.scope x:=by first|exact ybI rfl|exact ya7 (ybI rfl)|exact ya7 (ya7 rfl)) (hd:(x==("__debug__":Str))=false:=by decide) (hcd:(x==("__classdict__":Str))=false:=by decide)
  (ha:∀v,ydh (.Subscript (.Name x p1) ke p2) X.env v=(do
   let ov <-ydb [v] (eval (.Name x p1) X.env)
   let iv <-ydb [v,ov] (eval ke X.env)
   standAt p2
   ydb [v,ov,iv] (setItem ov iv v)
   release [v,ov,iv] []):=by intro _;rfl)
  (hs:ycF [.Subscript (.Name x p1) ke p2] e pos.line X.env=pure false:=by rfl) (hw:ycG [.Subscript (.Name x p1) ke p2] e X.env=pure none:=by rfl) (h1:(ybj [.Subscript (.Name x p1) ke p2] X.env).map (·.2)=[ydh (.Subscript (.Name x p1) ke p2) X.env]:=by rfl) :
  DS X c (.Assign [.Subscript (.Name x p1) ke p2] e pos) (qfx i k f):=by
 obtain⟨t,p,w⟩:=he
 obtain⟨tk,pk,wk⟩:=hk
 refine⟨_,qgd p (qiM (vN hN hv hd hcd) pk qfi ha) hs hw h1,λZ σ H D r h=>w Z σ H _ r (Wp.sbnd h λd Z1 v H1 r1 i1 g1 h1=>?_)⟩
 cases e0:zi i Z1 with
 |none=>simp only[e0]at h1;exact h1.elim
 | some ds0=>
  simp only[e0]at h1
  obtain⟨l,xs0,_,hl,hH,_⟩:=r1.getLO ho e0
  refine⟨.ref l,hl,wk Z1 σ H1 _ r1 (Wp.sbnd h1 λj Z2 u H2 r2 i2 g2 h2=>?_)⟩
  cases j with
  | int n=>
   cases e1:zi i Z2 with
   |none=>simp only[e1]at h2;exact h2.elim
   | some ds=>
    simp only[e1]at h2
    cases e2:ixN ds.length n with
    |none=>simp only[e2]at h2;exact h2.elim
    | some q=>
     simp only[e2]at h2
     by_cases hb:imm d=true
     ·rw [if_pos hb]at h2
      obtain⟨l',xs,him,hl',hH',il⟩:=r2.getLO ho e1
      rw[hl]at hl'
      cases hl'
      cases i2
      have i3:=g2.is i1
      have ext:Ext (Cn c σ) H2 (upd H2 l (.lst (xs.set q v))):=⟨λb us hb=>jp (ux hb hH' (by intro z;cases z)) hb,λb o u hb=>jp (ux hb hH' (by intro z;cases z)) hb,λb o hb hq=>jp (λe=>hb.2 i ho (by rw[hl,e])) hq⟩
      obtain ⟨r3,g3⟩:=r2.io (H':=upd H2 l (.lst (xs.set q v))) (bs:=ds.set q d) ho hl (λb o hb ho=>jp hb ho) qi trivial
       (IsL.set (Is.ext ext (λ_ h _=>h) i3) q (IsL.ext ext (λ_ h _=>h) il)) (λb hb=>qd7 hb)
      exact⟨l,xs,n,q,rfl,rfl,hH',by rw[il.length];exact e2,h2 σ _ r3 g3.s⟩
     ·rw[if_neg hb]at h2;exact h2.elim
  |_=>exact h2.elim
structure qfy (K:Fr0) (c:Fc) (Z:Env) (σ:St) (H:Hp) (a:Addr):Prop where
 val:∀i d v,Z[i]? = some (some d)->i ∉ c.O->σ[i]? = some (some v)->Is K (λb=>Cn c σ b/\b≠a) H d v
 cont:∀i ds b xs,Z[i]? = some (some (.lst ds))->i∈c.O->σ[i]? = some (some (.ref b))->H b=some (.lst xs)->IsL K (Cn c σ) H ds xs->IsL K (λb=>Cn c σ b/\b≠a) H ds xs
 own:∀j∈c.O,σ[j]? ≠ some (some (.ref a))
 new:c.H0 a=none
theorem Is.fresh{K:Fr0}{A:Addr->Prop}{H:Hp}{d:D}{v:V}{a:Addr}(h:Is K A H d v)(hn:H a=none):Is K (λb=>A b/\b≠a) H d v:=Is.ext Ext.refl (λb h1 h2=>⟨h1,λe=>by rw[e,hn]at h2;cases h2⟩) h
theorem Rep.apart {K:Fr0} {Z:Env} {σ:St} {H:Hp} {a:Addr} {o:HO} (r:Rep K c Z σ H) (hn:H a=none):qfy K c Z σ (upd H a o) a where
 val:=λi d v h1 h2 h3=>by
  obtain⟨w,h4,h5⟩:=r.get h2 h1
  rw[h3]at h4
  cases h4
  exact Is.ext (Ext.of_same (qs hn _)) (λ_ h _=>h) (h5.fresh hn)
 cont:=λi ds b xs h1 h2 h3 h4 _=>by
  obtain⟨ds',a',ys,e1,e2,e3,e4⟩:=r.getO h2 h1
  cases e1
  rw[h3]at e2
  cases e2
  have:=qs hn o _ _ e3
  rw[h4]at this
  cases this
  exact IsL.ext (Ext.of_same (qs hn _)) (λb hb hs=>⟨hb,λe=>by rw[e,hn]at hs;cases hs⟩) e4
 own:=λj hj e=>(r.new hn).2 j hj e
 new:=r.dm a hn
theorem Rep.apart_same {K:Fr0} {Z:Env} {σ:St} {H H':Hp} {a:Addr} (r:Rep K c Z σ H) (hn:H a=none) (sm:zG H H'):qfy K c Z σ H' a where
 val:=λi d v h1 h2 h3=>by
  obtain⟨w,h4,h5⟩:=r.get h2 h1
  rw[h3]at h4
  cases h4
  exact Is.ext (Ext.of_same sm) (λ_ h _=>h) (h5.fresh hn)
 cont:=λi ds b xs h1 h2 h3 h4 _=>by
  obtain⟨ds',a',ys,e1,e2,e3,e4⟩:=r.getO h2 h1
  cases e1
  rw[h3]at e2
  cases e2
  have:=sm _ _ e3
  rw[h4]at this
  cases this
  exact IsL.ext (Ext.of_same sm) (λb hb hs=>⟨hb,λe=>by rw[e,hn]at hs;cases hs⟩) e4
 own:=λj hj e=>(r.new hn).2 j hj e
 new:=r.dm a hn
def WpN (K:Fr0) (c:Fc) (σ:St) (H:Hp) (Q:VK):R (List D×Env)->Prop
 |.ok (ds,Z)=>∀a xs H',H a=none->Rep K c Z σ H'->qfy K c Z σ H' a->H' a=some (.lst xs)->True->IsL K (λb=>Cn c σ b/\b≠a) H' ds xs->Gr c.O σ H H'->Q (.ref a) H'
 |.exc x Z=>∀H',Rep K c Z σ H'->Gr c.O σ H H'->c.E x H'
 |.bad=>False
def DN(X:Cx)(c:Fc)(e:Expr)(f:M (List D)):Prop:=∃t,PE X e t/\∀Z σ H Q,Rep X.K c Z σ H->WpN X.K c σ H Q (f Z)->t σ H Q
theorem WpN.gr {K:Fr0} {σ:St} {H H1:Hp} {Q:VK}:∀{r:R (List D×Env)},WpN K c σ H Q r->Gr c.O σ H H1->WpN K c σ H1 Q r
 |.ok (d,Z),h,g=>λa xs H' hn h1 h2 h3 h4 h5 hg=>h a xs H' (g.dom a hn) h1 h2 h3 h4 h5 (g.trans hg)
 |.exc x Z,h,g=>λH' hr hg=>h H' hr (g.trans hg)
 |.bad,h,_=>h
theorem WpL.bndN {K:Fr0} {σ:St} {H:Hp} {Q:VK} {f:M (List D)} {k:List D->M (List D)} {Z:Env} {Q':List V->Hp->Prop} (h:WpN K c σ H Q (Sk.bnd f k Z)) (hQ:∀d Z' v H',Rep K c Z' σ H'->IsL K (Cn c σ) H' d v->Gr c.O σ H H'->WpN K c σ H' Q (k d Z')->Q' v H'):WpL K c σ H Q' (f Z):=by
 unfold Sk.bnd at h
 cases e:f Z with
 |ok p=>rw[e]at h;exact λv H' hr hi hg=>hQ p.1 p.2 v H' hr hi hg (h.gr hg)
 |exc x Z'=>rw[e]at h;exact h
 |bad=>rw[e]at h;exact h
def qkJ(f:M (List D)):M (List D):=bnd f λds=>lift (if immL ds&&qC ds.length then some ds else none)
theorem qjs {es:List Expr} {f:M (List D)} (h:DA X c es f):DN X c (.List es pos) (qkJ f):=by
 obtain⟨t,p,w⟩:=h
 refine⟨_,qgk p,λZ σ H Q r h=>w Z σ H _ r (WpL.bndN h λds Z1 vs H1 r1 i1 g1 h1=>?_)⟩
 by_cases hb:(immL ds&&qC ds.length)=true
 ·rw[if_pos hb]at h1
  rw[yaj]at hb
  refine⟨by rw[i1.length];exact of_decide_eq_true hb.2,λp hp=>?_⟩
  exact h1 p vs _ hp (r1.laid hp _) (r1.apart hp) qi trivial (IsL.ext (Ext.of_same (qs hp _)) (λb h hs=>⟨h,λe=>by rw[e,hp]at hs;cases hs⟩) i1) (.of_same (qs hp _))
 ·rw[if_neg hb]at h1;exact h1.elim
theorem Cl.setO {O:List Nat} {σ:St} {i:Nat} {a b:Addr} (h:Cl O σ b) (hb:b≠a):Cl O (σ.set i (some (.ref a))) b:=λj hj e=>by
 by_cases hji:j=i
 ·subst hji
  have hl:j<σ.length:=by
   have:=(gI_.mp e).1
   rwa [lS_]at this
  rw[List.getElem?_set_self hl]at e
  cases e
  exact hb rfl
 ·rw[qX hji]at e
  exact h j hj e
theorem Rep.setO {K:Fr0} {Z:Env} {σ:St} {H:Hp} {i:Nat} {a:Addr} {ds:List D} {xs:List V} (r:Rep K c Z σ H) (hi:i∈c.O) (hP:i ∉ c.P) (ap:qfy K c Z σ H a) (ha:H a=some (.lst xs)) (him:True) (il:IsL K (λb=>Cn c σ b/\b≠a) H ds xs) :
  Rep K c (Z.set i (some (.lst ds))) (σ.set i (some (.ref a))) H where
 len:=by rw[lS_,lS_];exact r.len
 val := λj e hj=>by
  by_cases e1:j=i
  ·subst e1
   have hl:j<Z.length:=by
    have:=(gI_.mp hj).1
    rwa [lS_]at this
   rw[List.getElem?_set_self hl]at hj
   cases hj
   exact⟨.ref a,List.getElem?_set_self (by rw[<-r.len];exact hl),.inl ⟨hi,ds,a,xs,rfl,rfl,ha,IsL.ext Ext.refl (λb hb _=>⟨hb.1.1,hb.1.2.setO hb.2⟩) il⟩⟩
  ·rw [qX e1]at hj
   obtain⟨w,h1,h2⟩:=r.val j e hj
   refine⟨w,by rw[qX e1];exact h1,?_⟩
   rcases h2 with⟨g1,ds',b',xs',g3,g5,g6,g7⟩|⟨h3,h4⟩
   ·subst g3 g5
    exact .inl ⟨g1,ds',b',xs',rfl,rfl,g6,IsL.ext Ext.refl (λb hb _=>⟨hb.1.1,hb.1.2.setO hb.2⟩) (ap.cont j ds' b' xs' hj g1 h1 g6 g7)⟩
   ·exact .inr ⟨h3,Is.ext Ext.refl (λb hb _=>⟨hb.1.1,hb.1.2.setO hb.2⟩) (ap.val j e w hj h3 h1)⟩
 own := λj hj w h=>by
  by_cases e1:j=i
  ·subst e1
   have hl:j<σ.length:=by
    have:=(gI_.mp h).1
    rwa [lS_]at this
   rw[List.getElem?_set_self hl]at h
   cases h
   exact⟨a,xs,rfl,ha,.inl ap.new⟩
  ·rw[qX e1]at h
   exact r.own j hj w h
 inj := λj k b hj hk h1 h2=>by
  by_cases e1:j=i
  ·by_cases e2:k=i
   ·rw[e1,e2]
   ·subst e1
    have hl:j<σ.length:=by
     have:=(gI_.mp h1).1
     rwa [lS_]at this
    rw[List.getElem?_set_self hl]at h1
    cases h1
    rw[qX e2]at h2
    exact absurd h2 (ap.own k hk)
  ·by_cases e2:k=i
   ·subst e2
    have hl:k<σ.length:=by
     have:=(gI_.mp h2).1
     rwa [lS_]at this
    rw[List.getElem?_set_self hl]at h2
    cases h2
    rw[qX e1]at h1
    exact absurd h1 (ap.own j hj)
   ·rw[qX e1]at h1
    rw[qX e2]at h2
    exact r.inj j k b hj hk h1 h2
 b0:=r.b0
 kp:=r.kp
 dm:=r.dm
 pO:=r.pO
 ps:=λj hj=>by
  have e:j≠i:=λe=>hP (e▸hj)
  rw[qX e];exact r.ps j hj
def qas(i:Nat)(f:M (List D)):MS:=sbnd f λds Z => .ok (.nx (Z.set i (some (.lst ds))))
theorem qd9 {i:Nat} {x:Str} {pos':Pos} {f:M (List D)} (hN:X.N.Nodup) (he:DN X c e f) (ho:i∈c.O:=by exact of_decide_eq_true rfl) (hP:i ∉ c.P:=by exact of_decide_eq_false rfl) (hi:X.N[i]? = some x:=by rfl) (hx:Loc X.env.scope x:=by first|exact ybI rfl|exact ya7 rfl) (hs:yd2 e (some (.Name x pos')) pos.line X.env=pure false:=by rfl) (hf:X.fn x=true\/X.env.scope.names.lookup x=some .local:=by first|exact .inl rfl|exact .inr rfl|assumption) :
  DS X c (.Assign [.Name x pos'] e pos) (qas i f):=by
 obtain⟨t,p,w⟩:=he
 refine⟨_,qge hN hi hx p hs hf,λZ σ H D r h=>w Z σ H _ r ?_⟩
 unfold qas sbnd at h
 cases ef:f Z with
 |bad=>rw[ef]at h;exact h
 |exc z Z'=>rw[ef]at h;exact λH' hr hg=>h σ H' hr hg.s
 |ok q=>
  rw[ef]at h
  intro a xs H' hn r' ap ha him il g'
  exact h _ H' (r'.setO ho hP ap ha him il) ⟨g'.ext,λb hb hs=>hb.setO (λe=>by rw[e,hn]at hs;exact absurd hs (by simp)),g'.dom⟩
def qjt (i:Nat):M D:=λZ=>match zi i Z with
 |some ds => .ok (.int ds.length,Z)
 |none => .bad
def qea (i:Nat):M D:=λZ=>match zi i Z with
 |some ds => .ok (.tup ds,Z)
 |none => .bad
theorem qho {i:Nat} {x:Str} {p p1:Pos} (hg:Gl X "tuple") (hm:X.mg "tuple"=none) (hb:yaA "tuple"=some (.type "tuple"):=by first|rfl|exact PySem.boot_tuple) (ho:i∈c.O:=by exact of_decide_eq_true rfl) (hN:X.N[i]? = some x:=by rfl) (hv:Vis X.env.scope x:=by first|exact ybI rfl|exact ya7 (ybI rfl)|exact ya7 (ya7 rfl)) (hd:(x==("__debug__":Str))=false:=by decide) (hcd:(x==("__classdict__":Str))=false:=by decide) :
  DE X c (.Call (.Name "tuple" p) [.Name x p1] [] pos) (qea i):=by
 refine⟨_,qaW yo hg hm hb (jP (vN hN hv hd hcd) vQ),λZ σ H Q r h=>?_⟩
 unfold qea at h
 cases e0:zi i Z with
 |none=>simp only[e0]at h;exact h.elim
 |some ds=>
  simp only[e0]at h
  obtain⟨l,xs,him,hl,hH,il⟩:=r.getLO ho e0
  refine⟨.ref l,hl,l,xs,rfl,.inl ⟨.inl (.inl hH),λp hp=>h _ _ (r.laid hp _) ⟨p,xs,rfl,.inl qi,?_⟩ (.of_same (qs hp _))⟩⟩
  exact IsL.ext (Ext.of_same (qs hp _)) (λ_ h _=>h) il
def qju (i:Nat) (g:M D):M D:=λZ=>match zi i Z with
 |none => .bad
 | some _=>(bnd g λk Z=>match k,zi i Z with
  |.int n,some ds=>match atI ds n with
   |some d => .ok (d,Z)
   |none => .bad
  |_,_ => .bad) Z
theorem qjv {i:Nat} {x:Str} {p1:Pos} {g:M D} (hb:DE X c b g) (hs:qbz b:=by intro _ _;rfl) (ho:i∈c.O:=by exact of_decide_eq_true rfl) (hN:X.N[i]? = some x:=by rfl) (hv:Vis X.env.scope x:=by first|exact ybI rfl|exact ya7 (ybI rfl)|exact ya7 (ya7 rfl)) (hd:(x==("__debug__":Str))=false:=by decide) (hcd:(x==("__classdict__":Str))=false:=by decide) :
  DE X c (.Subscript (.Name x p1) b pos) (qju i g):=by
 obtain⟨tb,pb,wb⟩:=hb
 refine⟨_,qi3 qdO (vN hN hv hd hcd) pb hs,λZ σ H Q r h=>?_⟩
 unfold qju at h
 cases e0:zi i Z with
 |none=>simp only[e0]at h;exact h.elim
 | some ds0=>
  simp only[e0]at h
  obtain⟨l,xs0,_,hl,hH,_⟩:=r.getLO ho e0
  refine⟨.ref l,hl,wb Z σ H _ r (Wp.bnd h λk Z1 v H1 r1 i1 g1 h1=>?_)⟩
  cases k with
  | int n=>
   cases e1:zi i Z1 with
   |none=>simp only[e1]at h1;exact h1.elim
   | some ds=>
    simp only[e1]at h1
    cases e2:atI ds n with
    |none=>simp only[e2]at h1;exact h1.elim
    |some d=>
     simp only[e2]at h1
     obtain⟨l',xs,him,hl',hH',il⟩:=r1.getLO ho e1
     rw[hl]at hl'
     cases hl'
     cases i1
     obtain⟨w,h3,h4⟩:=il.atI e2
     exact⟨l,xs,n,w,rfl,rfl,.inl (.inl hH'),h3,h1 w H1 r1 h4 .refl⟩
  |_=>exact h1.elim
end
def cfn (O P:List Nat) (A:Addr->Prop) (H:Hp) (Io:Addr->Prop) (E:Exn->Hp->Prop) (S:Nat->Option (Option V)):Fc where
 O:=O
 P:=P
 B:=λa=>A a\/H a=none
 H0:=H
 Io:=Io
 E:=E
 S:=S
def jA(n:Nat)(ds:List D):Env:=ds.map some++yag (n-ds.length) none
def spD (K:Fr0) (F:List D->R D):Sp:=λvs H Q _=>∃ds A,IsL K A H ds vs/\qan K H/\match F ds with
 |.ok d=>∀v H',zG H H'->Is K (λa=>A a\/H a=none) H' d v->Q v H'
 |_=>False
def qdu (K:Fr0) (F:List D->List D->R (D×List D)):Sp:=λvs H Q _=>∃(bs ds:List D)(A:Addr->Prop)(a:Addr)(xs vs':List V),vs=.ref a::vs'/\H a=some (.lst xs)/\qan K H/\IsL K A H bs xs/\¬A a/\IsL K A H ds vs'/\match F bs ds with
 |.ok (d,bs')=>∀v H' xs',(∀b o,b≠a->H b=some o->H' b=some o)->(∀b,H' b=none->H b=none)->H' a=some (.lst xs')->True->IsL K (λb=>A b\/H b=none) H' bs' xs'->Is K (λb=>A b\/H b=none) H' d v->Q v H'
 |_=>False
def dfn (n p:Nat) (body:MS) (ds:List D):R D:=if ds.length=p then match body (jA n ds) with
 |.ok (.rt d _) => .ok d
 |.ok (.nx _) => .ok .non
 |_ => .bad else .bad
def uX (n p:Nat) (body:MS) (bs ds:List D):R (D×List D):=if ds.length+1=p then match body (jA n (.lst bs::ds)) with
 |.ok (.rt d Z)=>match zi 0 Z with
  |some bs' => .ok (d,bs')
  |none => .bad
 |.ok (.nx Z)=>match zi 0 Z with
  |some bs' => .ok (.non,bs')
  |none => .bad
 |_ => .bad else .bad
theorem uI {N:List Str} {vs:List V} {i:Nat} {v:V} (h:(ze N vs)[i]? = some (some v)):vs[i]? = some v:=by
 unfold ze at h
 by_cases hi:i<vs.length
 ·rw[List.getElem?_append_left (by simpa using hi),gM_]at h
  cases e:vs[i]? with
  |none=>rw[e]at h;cases h
  |some w=>rw[e]at h;cases h;rfl
 ·rw[List.getElem?_append_right (by simpa using hi),List.getElem?_replicate]at h
  split at h<;>cases h
theorem vF {N:List Str} {vs:List V} {i:Nat} {v:V} (h:vs[i]? = some v):(ze N vs)[i]? = some (some v):=by
 unfold ze
 have hi:i<vs.length:=(gI_.mp h).1
 rw[List.getElem?_append_left (by simpa using hi),gM_,h];rfl
theorem qa7 {n:Nat} {ds:List D} {i:Nat} {d:D} (h:(jA n ds)[i]? = some (some d)):ds[i]? = some d:=by
 unfold jA at h
 by_cases hi:i<ds.length
 ·rw[List.getElem?_append_left (by simpa using hi),gM_]at h
  cases e:ds[i]? with
  |none=>rw[e]at h;cases h
  |some w=>rw[e]at h;cases h;rfl
 ·rw[List.getElem?_append_right (by simpa using hi),List.getElem?_replicate]at h
  split at h<;>cases h
theorem wn {K:Fr0} {N:List Str} {O:List Nat} {A:Addr->Prop} {H:Hp} {E:Exn->Hp->Prop} {ds:List D} {vs:List V} (il:IsL K A H ds vs) (tb:qan K H) (hO:∀i∈O,ds.length<=i) :
  Rep K (cfn O [] A H (λ_=>False) E λ_=>none) (jA N.length ds) (ze N vs) H where
 len:=by unfold jA ze;simp[il.length]
 val:=λi d h=>by
  have h1:=qa7 h
  obtain⟨v,h2,h3⟩:=il.get h1
  have hi:i ∉ O:=λz=>by
   have:=(gI_.mp h1).1
   have:=hO i z
   omega
  refine⟨v,vF h2,.inr ⟨hi,Is.ext Ext.refl (λa ha _=>⟨.inl ha,λj hj e=>?_⟩) h3⟩⟩
  have:=(gI_.mp (uI e)).1
  have:=hO j hj
  rw[il.length]at *
  omega
 own:=λj hj v h=>by
  have:=(gI_.mp (uI h)).1
  have:=hO j hj
  rw[il.length]at *
  omega
 inj:=λi j a hi hj h1 h2=>by
  have:=(gI_.mp (uI h1)).1
  have:=hO i hi
  rw[il.length]at *
  omega
 b0:=⟨λa h => .inr h,tb⟩
 kp:=λb o h _=>h
 dm:=λb h=>h
 pO:=λj hj=>by cases hj
 ps:=λj hj=>by cases hj
section
variable{P:yap}{w:World}{K:yai}{mg:Str->Option Value}{base:Heap}
theorem jb {x qual:Str} {st:Stmt} {f:Addr} {fd:yaN} {N ps:List Str} {k:Nat} {O:List Nat} {body:MS} (F:Fun K x qual st f fd) (S:qy N ps (qd st)) (hO:∀i∈O,ps.length<=i)
  (hb:∀(cdv:Value)(A:yar)(outer:List yaG)(s:yab)(H:Hp)(E:XK)(B:Addr->Prop),yn k (A.deeper (ya0 qual (qd st) s.heap.objs.size f cdv)) ->
   DSs (qeZ CX0 P w K mg base N qual (qd st) f cdv A outer s H E).nox (cfn O [] B H (λ_=>False) (λ_ _=>False) λ_=>none) (qx st) body) :
  uv P w K mg base CX0 (k+1) f fd ps (spD K (dfn N.length ps.length body)):=by
 refine F.ok S (λvs H Q E h=>?_) (λcdv A outer s H vs Q E hr h=>?_)
 ·obtain⟨ds,B,il,_,h⟩:=h
  unfold dfn at h
  by_cases e:ds.length=ps.length
  ·rw[il.length];exact e
  ·rw[if_neg e]at h;exact h.elim
 ·obtain ⟨ds,B,il,tb,h⟩:=h
  obtain⟨t,p,wt⟩:=hb cdv A outer s H E B hr
  refine⟨t,p,?_⟩
  unfold dfn at h
  by_cases e:ds.length=ps.length
  ·rw [if_pos e]at h
   refine wt (jA N.length ds) (ze N vs) H _ (wn il tb (λi hi=>by rw[e];exact hO i hi)) ?_
   have same:∀{Z:Env}{σ:St}{H':Hp},Rep K (cfn O [] B H (λ_=>False) (λ_ _=>False) λ_=>none) Z σ H'->zG H H':=λr b o hb=>r.kp b o hb λz=>z
   cases eb:body (jA N.length ds) with
   |bad=>rw[eb]at h;exact h.elim
   |exc z Z=>rw[eb]at h;exact h.elim
   |ok fl=>
    rw[eb]at h
    cases fl with
    |nx Z=>exact λσ' H' r' _=>h .non H' (same r') rfl
    |rt d Z=>exact λv σ' H' r' i' _=>h v H' (same r') i'
    |bk Z=>exact h.elim
    |ct Z=>exact h.elim
  ·rw[if_neg e]at h;exact h.elim
theorem qfz {x qual:Str} {st:Stmt} {f:Addr} {fd:yaN} {N ps:List Str} {k:Nat} {O:List Nat} {body:MS} (F:Fun K x qual st f fd) (S:qy N ps (qd st)) (hO:∀i∈O,i=0\/ps.length<=i) (h0:0∈O)
  (hb:∀(cdv:Value)(A:yar)(outer:List yaG)(s:yab)(H:Hp)(E:XK)(B Io:Addr->Prop)(S:Nat->Option (Option V)),yn k (A.deeper (ya0 qual (qd st) s.heap.objs.size f cdv)) ->
   DSs (qeZ CX0 P w K mg base N qual (qd st) f cdv A outer s H E).nox (cfn O [0] B H Io (λ_ _=>False) S) (qx st) body) :
  uv P w K mg base CX0 (k+1) f fd ps (qdu K (uX N.length ps.length body)):=by
 refine F.ok S (λvs H Q E h=>?_) (λcdv A outer s H vs Q E hr h=>?_)
 ·obtain⟨bs,ds,B,a,xs,vs',rfl,ha,him,ib,nA,il,h⟩:=h
  unfold uX at h
  by_cases e:ds.length+1=ps.length
  ·rw[lC_,il.length];exact e
  ·rw[if_neg e]at h;exact h.elim
 ·obtain ⟨bs,ds,B,a,xs,vs',rfl,ha,him,ib,nA,il,h⟩:=h
  obtain⟨t,p,wt⟩:=hb cdv A outer s H E B (λb=>b=a) (λj=>(ze N (.ref a::vs'))[j]?) hr
  refine⟨t,p,?_⟩
  unfold uX at h
  by_cases e:ds.length+1=ps.length
  ·rw [if_pos e]at h
   have only:∀j∈O,∀v,(ze N (.ref a::vs'))[j]? = some (some v)->j=0/\v=.ref a:=λj hj v hv=>by
    have h1:=uI hv
    rcases hO j hj with z|z
    ·subst z;cases h1;exact⟨rfl,rfl⟩
    ·have:=(gI_.mp h1).1
     rw[lC_,il.length]at this
     omega
   have r0:Rep K (cfn O [0] B H (λb=>b=a) (λ_ _=>False) λj=>(ze N (.ref a::vs'))[j]?) (jA N.length (.lst bs::ds)) (ze N (.ref a::vs')) H:=by
    refine⟨by unfold jA ze;simp[il.length],λi d hd=>?_,λj hj v hv=>?_,λi j b hi hj h1 h2=>?_,⟨λb hb => .inr hb,λq P pos eP=>⟨(him q P pos eP).1,λz=>by have:=(him q P pos eP).1;rw[z,ha]at this;cases this⟩⟩,λb o hb _=>hb,λb hb=>hb,λj hj=>?_,λ_ _=>rfl⟩
    ·have h1:=qa7 hd
     cases i with
     |zero=>
      cases h1
      exact⟨.ref a,vF rfl,.inl ⟨h0,bs,a,xs,rfl,rfl,ha,IsL.ext Ext.refl (λb hb _=>⟨.inl hb,λj hj e2=>by obtain⟨_,e3⟩:=only j hj _ e2;cases e3;exact nA hb⟩) ib⟩⟩
     | succ i=>
      have h1':ds[i]? = some d:=by simpa using h1
      obtain⟨v,h2,h3⟩:=il.get h1'
      have hi:i+1 ∉ O:=λz=>by
       have h4:=(gI_.mp h1').1
       rcases hO _ z with q|q
       ·cases q
       ·omega
      refine⟨v,vF (by simpa using h2),.inr ⟨hi,Is.ext Ext.refl (λb hb _=>⟨.inl hb,λj hj e2=>?_⟩) h3⟩⟩
      obtain⟨_,e3⟩:=only j hj _ e2
      cases e3
      exact nA hb
    ·obtain⟨rfl,rfl⟩:=only j hj v hv
     exact⟨a,xs,rfl,ha,.inr ⟨by simp[cfn],rfl⟩⟩
    ·rw[(only i hi _ h1).1,(only j hj _ h2).1]
    ·have:j=0:=by simpa [cfn] using hj
     rw[this];exact h0
   refine wt _ _ H _ r0 ?_
   have fin:∀{Z:Env}{σ:St}{H':Hp}{bs':List D},Rep K (cfn O [0] B H (λb=>b=a) (λ_ _=>False) λj=>(ze N (.ref a::vs'))[j]?) Z σ H'->zi 0 Z=some bs' ->
     ∃xs',H' a=some (.lst xs')/\True/\IsL K (λb=>B b\/H b=none) H' bs' xs':=λ{Z σ H' bs'} r e1=>by
    obtain⟨l,ys,h1,h2,h3,h4⟩:=r.getLO h0 e1
    have h5:=r.ps 0 (by simp[cfn])
    have h6:(cfn O [0] B H (λb=>b=a) (λ_ _=>False) λj=>(ze N (.ref a::vs'))[j]?).S 0=some (some (.ref a)):=vF rfl
    rw[h2,h6]at h5
    cases h5
    exact⟨ys,h3,h1,IsL.ext Ext.refl (λb hb _=>hb.1) h4⟩
   have kps:∀{Z:Env}{σ:St}{H':Hp},Rep K (cfn O [0] B H (λb=>b=a) (λ_ _=>False) λj=>(ze N (.ref a::vs'))[j]?) Z σ H'->∀b o,b≠a->H b=some o->H' b=some o:=λr b o hb ho=>r.kp b o ho hb
   cases eb:body (jA N.length (.lst bs::ds)) with
   |bad=>rw[eb]at h;exact h.elim
   |exc z Z=>rw[eb]at h;exact h.elim
   | ok fl=>
    rw[eb]at h
    cases fl with
    | nx Z=>
     cases eg:zi 0 Z with
     |none=>simp only[eg]at h
     | some bs'=>
      simp only[eg]at h
      exact λσ' H' r' _=>by
       obtain⟨xs',h1,h2,h3⟩:=fin r' eg
       exact h .non H' xs' (kps r') (λb hb=>r'.dm b hb) h1 h2 h3 rfl
    | rt d Z=>
     cases eg:zi 0 Z with
     |none=>simp only[eg]at h
     | some bs'=>
      simp only[eg]at h
      exact λv σ' H' r' i' _=>by
       obtain⟨xs',h1,h2,h3⟩:=fin r' eg
       exact h v H' xs' (kps r') (λb hb=>r'.dm b hb) h1 h2 h3 i'
    |bk Z=>exact h.elim
    |ct Z=>exact h.elim
  ·rw[if_neg e]at h;exact h.elim
end
section
variable{X:Cx}{c:Fc}{a b e:Expr}{pos:Pos}
def qt (F:List D->R D) (g:M (List D)):M D:=bnd g λds Z=>match F ds with
 |.ok d => .ok (d,Z)
 |_ => .bad
theorem qhp {k:Nat} {f:Addr} {fd:yaN} {ps:List Str} {F:List D->R D} {x:Str} {p:Pos} {es:List Expr} {g:M (List D)} (G:uv X.prog X.w X.K X.mg X.base CX0 k f fd ps (spD X.K F)) (hr:yn k X.A) (hg:Gl X x) (hm:X.mg x=some (.ref f)) (hk:yam X.K (.ref f)=true) (hb:yF X.K fd ps [])
  (ha:DA X c (e::es) g) (hd:(x==("__debug__":Str))=false:=by decide) (he:yae (e::es) X.env=(false,eval e X.env)::yae es X.env:=by rfl) (hpl:(yaO pos (yae es X.env)).any (·.1)=false:=by rfl):DE X c (.Call (.Name x p) (e::es) [] pos) (qt F g):=by
 obtain⟨t,pa,w⟩:=ha
 refine⟨_,vS G hr hg hm hk hb .nil qhe pa hd he hpl,λZ σ H Q r h=>w Z σ H _ r (WpL.bnd h λds Z1 vs H1 r1 i1 g1 h1=>?_)⟩
 rw[ya4]
 refine⟨ds,Cn c σ,i1,r1.tb,?_⟩
 cases ef:F ds with
 |bad=>simp only[ef]at h1;exact h1.elim
 |exc z Z'=>simp only[ef]at h1;exact h1.elim
 |ok d=>
  simp only[ef]at h1
  exact λv H' sm i=>h1 v H' (r1.same sm) (Is.ext Ext.refl (λa ha _=>ha.elim id r1.new) i) (.of_same sm)
def qo (F:List D->List D->R (D×List D)) (i:Nat) (g:M (List D)):M D:=λZ=>match zi i Z with
 |none => .bad
 | some _=>(bnd g λds Z=>match zi i Z with
  |none => .bad
  |some bs=>match F bs ds with
   |.ok (d,bs') => .ok (d,Z.set i (some (.lst bs')))
   |_ => .bad) Z
theorem qeb {k i:Nat} {f:Addr} {fd:yaN} {ps:List Str} {F:List D->List D->R (D×List D)} {x y:Str} {p p1:Pos} {es:List Expr} {g:M (List D)} (G:uv X.prog X.w X.K X.mg X.base CX0 k f fd ps (qdu X.K F)) (hr:yn k X.A) (hg:Gl X x) (hm:X.mg x=some (.ref f)) (hk:yam X.K (.ref f)=true) (hb:yF X.K fd ps [])
  (ha:DA X c es g) (ho:i∈c.O:=by exact of_decide_eq_true rfl) (hN:X.N[i]? = some y:=by rfl) (hv:Vis X.env.scope y:=by first|exact ybI rfl|exact ya7 (ybI rfl)|exact ya7 (ya7 rfl)) (hdy:(y==("__debug__":Str))=false:=by decide) (hcd:(y==("__classdict__":Str))=false:=by decide)
  (hd:(x==("__debug__":Str))=false:=by decide) (he:yae (.Name y p1::es) X.env=(false,eval (.Name y p1) X.env)::yae es X.env:=by rfl) (hpl:(yaO pos (yae es X.env)).any (·.1)=false:=by rfl):DE X c (.Call (.Name x p) (.Name y p1::es) [] pos) (qo F i g):=by
 obtain⟨t,pa,w⟩:=ha
 refine⟨_,vS G hr hg hm hk hb .nil qhe (jP (vN hN hv hdy hcd) pa he) hd he hpl,λZ σ H Q r h=>?_⟩
 unfold qo at h
 cases e0:zi i Z with
 |none=>simp only[e0]at h;exact h.elim
 | some ds0=>
  simp only[e0]at h
  obtain⟨l,xs0,_,hl,hH,_⟩:=r.getLO ho e0
  refine⟨.ref l,hl,w Z σ H _ r (WpL.bnd h λds Z1 vs H1 r1 i1 g1 h1=>?_)⟩
  show qdu X.K F (.ref l::vs++[]) H1 Q E0
  rw[ya4]
  cases e1:zi i Z1 with
  |none=>simp only[e1]at h1;exact h1.elim
  | some bs=>
   simp only[e1]at h1
   obtain⟨l',xs,him,hl',hH',il⟩:=r1.getLO ho e1
   rw[hl]at hl'
   cases hl'
   refine⟨bs,ds,Cn c σ,l,xs,vs,rfl,hH',r1.tb,il,λhc=>hc.2 i ho hl,i1,?_⟩
   cases ef:F bs ds with
   |bad=>simp only[ef]at h1;exact h1.elim
   |exc z Z'=>simp only[ef]at h1;exact h1.elim
   |ok q=>
    obtain⟨d,bs'⟩:=q
    simp only[ef]at h1
    intro v H' xs' kp dm ha2 him2 il2 i2
    obtain⟨r2,g2⟩:=r1.io (bs:=bs') ho hl kp ha2 him2 (IsL.ext Ext.refl (λa ha _=>ha.elim id r1.new) il2) dm
    exact h1 v H' r2 (Is.ext Ext.refl (λa ha _=>ha.elim id r1.new) i2) g2
end
def qfA:Key->PyData
 |.inl i => .int i
 |.inr x => .str x
mutual
def zt:D->PyData
 |.non => .none
 |.bl b => .bool b
 |.int i => .int i
 |.str x => .str x
 |.tup ds => .tuple (toPDs ds)
 |.lst ds => .list (toPDs ds)
 |.dic kvs => .dict (kvs.map λp=>(qfA p.1,.int p.2))
 |.fz ns => .list (ns.map .int)
 |.exc _ => .dict [(.int (2 ^ 2000),.none)]
def toPDs:List D->List PyData
 | []=>[]
 |d::ds=>zt d::toPDs ds
end
mutual
def noL:D->Bool
 |.tup ds=>noLs ds
 |.lst _=>false
 |.fz _=>false
 |_=>true
def noLs:List D->Bool
 | []=>true
 |d::ds=>noL d&&noLs ds
end
mutual
def noX:D->Bool
 |.tup ds=>noXs ds
 |.lst ds=>noXs ds
 |.exc _=>false
 |_=>true
def noXs:List D->Bool
 | []=>true
 |d::ds=>noX d&&noXs ds
end
mutual
theorem qgu:∀{d:D},(zt d).showable=true->noX d=true
 |.non,_=>rfl
 |.bl _,_=>rfl
 |.int _,_=>rfl
 |.str _,_=>rfl
 |.tup ds,h=>by unfold noX;exact noXs_sh (by simpa [zt,yc4] using h)
 |.lst ds,h=>by unfold noX;exact noXs_sh (by simpa [zt,yc4] using h)
 |.dic _,_=>rfl
 |.fz _,_=>rfl
 |.exc _,h=>by
  have e:(PyData.dict [(.int (2 ^ 2000),.none)]).showable=false:=by decide +kernel
  rw[show zt (.exc _)=PyData.dict [(.int (2 ^ 2000),.none)]from rfl,e]at h
  cases h
theorem noXs_sh:∀{ds:List D},ybY (toPDs ds)=true->noXs ds=true
 | [],_=>rfl
 |d::ds,h=>by
  have h':(zt d).showable=true/\ybY (toPDs ds)=true:=by simpa [toPDs,ybY] using h
  unfold noXs
  rw[qgu h'.1,noXs_sh h'.2];rfl
end
mutual
theorem qec:∀{d:D},(zt d).canLay0=true->noX d=true
 |.non,_=>rfl
 |.bl _,_=>rfl
 |.int _,_=>rfl
 |.str _,_=>rfl
 |.tup ds,h=>by unfold noX;exact noXs_lay (by simpa [zt,ycr] using h)
 |.lst ds,h=>by unfold noX;exact noXs_lay (by simpa [zt,ycr] using h)
 |.dic _,_=>rfl
 |.fz _,_=>rfl
 |.exc _,h=>by simp[zt,ycr]at h
theorem noXs_lay:∀{ds:List D},ydC (toPDs ds)=true->noXs ds=true
 | [],_=>rfl
 |d::ds,h=>by
  have h':(zt d).canLay0=true/\ydC (toPDs ds)=true:=by simpa [toPDs,ydC] using h
  unfold noXs
  rw[qec h'.1,noXs_lay h'.2];rfl
end
theorem uJ {h:Heap}:∀{ns:List Int}{us:List Value},qK (ns.map V.int) us->∃as,yfv h us (ns.map .int) as
 | [],us,r=>by
  rw[yc0]at r;cases r;exact⟨[],.nil⟩
 | n::ns,us,r=>by
  rw[mC_]at r
  cases r with
  |cons r1 r2=>
   obtain⟨t,e⟩:=r1
   subst e
   obtain⟨as,q⟩:=uJ (ns:=ns) r2
   exact⟨[]++as,.cons (.int n t) q⟩
theorem qbC{α:Type}{x:α}{l l':List α}(h1:x ∉ l)(h2:x ∉ l'):x ∉ l++l':=λh=>(mA_.mp h).elim h1 h2
theorem wo {P:yap} {w:World} {h:Heap}:∀{kvs:List (Key×Int)}{es:List DictEntry}{vs:List (Key×Value)},KV (kvs.map λp=>(p.1,V.int p.2)) vs->Pairs (vM P w) es vs ->
  yfv h (es.map (·.key)) ((kvs.map λp=>(qfA p.1,PyData.int p.2)).map (·.1)) []/\yfv h (es.map (·.val)) ((kvs.map λp=>(qfA p.1,PyData.int p.2)).map (·.2)) []
 | [],es,vs,r,p=>by
  have r':KV ([]:List (Key×V)) vs:=r
  unfold KV at r'
  cases r'
  cases p
  exact⟨.nil,.nil⟩
 | (k,i)::kvs,es,vs,r,p=>by
  have r':KV ((k,V.int i)::kvs.map λp=>(p.1,V.int p.2)) vs:=r
  unfold KV at r'
  cases r' with
  | cons r1 r2=>
   cases p with
   | cons p1 p2 p3=>
    obtain⟨q1,q2⟩:=wo (h:=h) (kvs:=kvs) r2 p3
    obtain⟨e1,t,e2⟩:=r1
    have hk:∀{e:DictEntry}{kv:Key×Value},k=kv.1->(vM P w).is kv.1 e.key=true->Reads h e.key (qfA k) []:=λ{e kv} hk hi=>by
     subst hk
     rcases qQ hi with⟨i,t,e1,e2⟩|⟨x,t,e1,e2⟩
     ·rw[e1,e2];exact .int i t
     ·rw[e1,e2];exact .str x t
    refine⟨.cons (as:=[]) (bs:=[]) (hk e1 p1) q1,.cons (as:=[]) (bs:=[]) ?_ q2⟩
    show Reads h _ (.int i) []
    dsimp only
    rw[p2,e2]
    exact .int i t
section
variable{X:Cx}{pins:List (Addr×Obj)}{σ:St}{H:Hp}{s:yab}{A:Addr->Prop}
mutual
theorem jm (I:Inv X pins σ H s):∀{d:D}{v:V}{u:Value},noX d=true->Is X.K A H d v->zU v u->∃as,Reads s.heap u (zt d) as/\(noL d=true->yb4 ∉ as)
 |.non,_,_,_,h,r=>by cases h;cases r;exact⟨[],.none,by simp⟩
 |.bl b,_,_,_,h,r=>by cases h;cases r;exact⟨[],.bool b,by simp⟩
 |.int i,_,_,_,h,r=>by cases h;obtain⟨t,rfl⟩:=r;exact⟨[],.int i t,by simp⟩
 |.str x,_,_,_,h,r=>by cases h;obtain⟨t,rfl⟩:=r;exact⟨[],.str x t,by simp⟩
 |.tup ds,_,_,nx,⟨a,xs,hv,ta,il⟩,r=>by
  subst hv
  cases r
  obtain⟨its,rv,p,_⟩:=I.tuple ta.sq
  obtain⟨o,h1,h2,n,h3⟩:=p
  obtain⟨as,q,nl⟩:=readsL_of I (by simpa [noX] using nx) il rv
  exact⟨as,.tuple h1 h2 h3 (by simpa using q),λz=>nl (by simpa [noL] using z)⟩
 |.lst ds,_,_,nx,⟨a,xs,hv,_,ta,il⟩,r=>by
  subst hv
  cases r
  obtain⟨its,rv,p,_⟩:=I.list (SqL.of ta)
  obtain⟨o,h1,h2,n,h3⟩:=p.isList
  obtain⟨as,q,nl⟩:=readsL_of I (by simpa [noX] using nx) il rv
  exact⟨a::as,.list h1 h2 h3 (by simpa using q),λz=>by simp[noL]at z⟩
 |.dic kvs,_,_,_,⟨a,hv,_,ta⟩,r=>by
  subst hv
  cases r
  obtain⟨hz,hS,vs,rk,o,es,ep,h1,h2,h3,h4,h5,h6⟩:=(show jx X.prog X.w H s.heap a (.dK _)from I.hok a _ ta)
  obtain⟨q1,q2⟩:=wo (h:=s.heap) rk h5
  refine⟨_,Reads.dict (as:=[]) (bs:=[]) h1 h2.1 h3 q1 q2,λ_ hm=>?_⟩
  have:yb4=a:=by simpa using hm
  rw[<-this]at hS
  simp at hS
 |.exc _,_,_,nx,_,_=>by simp[noX]at nx
 |.fz ns,_,_,_,⟨a,hv,ta⟩,r=>by
  subst hv
  cases r
  obtain⟨its,rv,p,_⟩:=I.list ta.sq
  obtain⟨o,h1,h2,n,h3⟩:=p.isList
  obtain⟨as,q⟩:=uJ rv
  exact⟨a::as,.list h1 h2 h3 (by simpa using q),λz=>by simp[noL]at z⟩
theorem readsL_of (I:Inv X pins σ H s):∀{ds:List D}{xs:List V}{us:List Value},noXs ds=true->IsL X.K A H ds xs->qK xs us->∃as,yfv s.heap us (toPDs ds) as/\(noLs ds=true->yb4 ∉ as)
 | [],_,_,_,h,r=>by cases h;cases r;exact⟨[],.nil,by simp⟩
 | d :: ds,_,_,nx,⟨x,ys,hx,h1,h2⟩,r=>by
  subst hx
  cases r with
  | cons r1 r2=>
   have nx':noX d=true/\noXs ds=true:=by simpa [noXs] using nx
   obtain⟨as,q1,n1⟩:=jm I nx'.1 h1 r1
   obtain⟨bs,q2,n2⟩:=readsL_of I nx'.2 h2 r2
   exact ⟨as++bs,.cons q1 q2,λz=>by
    have z':noL d=true/\noLs ds=true:=by simpa [noLs] using z
    exact qbC (n1 z'.1) (n2 z'.2)⟩
end
end
def yg(d:D):Bool:=(zt d).showable&&decide ((zt d).shown.length<=yas)&&decide ((zt d).depth<=50)&&(!(zt d).hasDict||noL d)
def qjw(K:Fr0):List V->Hp->VK->Prop:=λxs H Q=>∃v d A,xs=[v]/\Is K A H d v/\yg d=true/\Q (.str (zt d).shown) H
section
variable{X:Cx}
theorem jF {k:Nat} (hr:yn k X.A):jO X (.builtin "repr") (qjw X.K):=by
 intro pins s σ H xs us Q I r h
 obtain⟨v,d,A,rfl,hi,ok,q⟩:=h
 obtain⟨u,rfl,ru⟩:=qK.one r
 unfold yg at ok
 simp only[yaj,decide_eq_true_eq]at ok
 obtain⟨⟨⟨o1,o2⟩,o3⟩,o4⟩:=ok
 obtain⟨as,rd,nl⟩:=jm I (qgu o1) hi ru
 have hun:=hr.un
 have big:∀a,u=.ref a->wpAny (model X.prog X.w) X.A (call (.builtin "repr") [u]) (EP X pins σ Q) X.xe s:=λa e=>by
  subst e
  refine repr_of_reads' rd o1 (λhd=>nl ?_) hr.gd (by omega) (λ_ _ e=>e) (λh' u tk hk=>⟨.str _,H,I.kept hk,⟨_,rfl⟩,q⟩) o2
  rw[hd]at o4
  simpa using o4
 cases d with
 |non=>cases hi;cases ru;exact PySem.P.repr_of_none ⟨.str _,H,I.tok _,⟨_,rfl⟩,q⟩
 |bl b=>cases hi;cases ru;exact PySem.P.repr_of_bool ⟨.str _,H,I.tok _,⟨s.toks,by cases b<;>rfl⟩,q⟩
 |int i=>
  cases hi;obtain⟨t,rfl⟩:=ru
  exact PySem.P.repr_of_int (of_decide_eq_true o1) ⟨.str _,H,I.tok _,⟨_,rfl⟩,q⟩
 |str x=>cases hi;obtain⟨t,rfl⟩:=ru;exact PySem.P.repr_of_str ⟨.str _,H,I.tok _,⟨_,rfl⟩,q⟩ o2
 |tup ds=>obtain⟨a,zs,rfl,_⟩:=hi;exact big a ru
 |lst ds=>obtain⟨a,zs,rfl,_⟩:=hi;exact big a ru
 |dic kvs=>obtain⟨a,rfl,_⟩:=hi;exact big a ru
 |fz ns=>obtain⟨a,rfl,_⟩:=hi;exact big a ru
 |exc C=>obtain⟨a,rfl,_⟩:=hi;exact big a ru
end
def qL:List D->Option D
 | [d]=>if yg d then some (.str (zt d).shown)else none
 |_=>none
theorem jG {K:Fr0}:uT K qL (qjw K):=by
 intro A H xs d vs Q hn h e k
 unfold qL at e
 split at e
 ·rename_i d0
  obtain⟨v,rfl,e2⟩:=IsL.inv1 h
  obtain⟨e6,e7⟩:=zj e
  subst e7
  exact⟨v,d0,A,rfl,e2,e6,k _ H (zG.refl H) rfl⟩
 ·cases e
def qaR(d:D):Bool:=(zt d).canLay0&&decide ((zt d).depth<=50)
def qe2(K:Fr0)(neg:Bool):R2:=λx y H Q=>∃d e A,Is K A H d x/\Is K A H e y/\qaR d=true/\qaR e=true/\Q (.bl (if neg then !yb6 (zt d) (zt e)else yb6 (zt d) (zt e))) H
section
variable{X:Cx}
theorem uY {d:D} (h:qaR d=true):SeqAt.shaped (zt d)=true:=by
 unfold qaR at h
 unfold SeqAt.shaped
 simp only[yaj,decide_eq_true_eq]at h |-
 exact⟨h.1,by omega⟩
theorem vm {d:D} (h:qaR d=true):noX d=true:=by
 unfold qaR at h
 rw[yaj]at h
 exact qec h.1
theorem qjx {k:Nat} (hr:yn k X.A):OpR X (yaI .Eq) (qe2 X.K false):=by
 intro pins s σ H x y v u Q I rx ry h
 obtain⟨d,e,A,h1,h2,o1,o2,q⟩:=h
 obtain⟨as,r1,_⟩:=jm I (vm o1) h1 rx
 obtain⟨bs,r2,_⟩:=jm I (vm o2) h2 ry
 exact yee r1 r2 (uY o1) (uY o2) hr.units ⟨.bl _,H,I,rfl,by simpa using q⟩
theorem qjy {k:Nat} (hr:yn k X.A):OpR X (yaI .NotEq) (qe2 X.K true):=by
 intro pins s σ H x y v u Q I rx ry h
 obtain⟨d,e,A,h1,h2,o1,o2,q⟩:=h
 obtain⟨as,r1,_⟩:=jm I (vm o1) h1 rx
 obtain⟨bs,r2,_⟩:=jm I (vm o2) h2 ry
 exact SeqAt.compareNe_shaped r1 r2 (uY o1) (uY o2) hr.units ⟨.bl _,H,I,rfl,by simpa using q⟩
end
def eqA(x y:D):Option D:=if qaR x&&qaR y then some (.bl (yb6 (zt x) (zt y)))else none
def neA(x y:D):Option D:=if qaR x&&qaR y then some (.bl (!yb6 (zt x) (zt y)))else none
theorem qhq {K:Fr0}:OpS K eqA (qe2 K false):=by
 intro A H x y d v u Q hn ix iy e k
 obtain⟨e1,e2⟩:=zj e
 rw[yaj]at e1
 subst e2
 exact⟨x,y,A,ix,iy,e1.1,e1.2,k _ H (zG.refl H) rfl⟩
theorem qhr {K:Fr0}:OpS K neA (qe2 K true):=by
 intro A H x y d v u Q hn ix iy e k
 obtain⟨e1,e2⟩:=zj e
 rw[yaj]at e1
 subst e2
 exact⟨x,y,A,ix,iy,e1.1,e1.2,k _ H (zG.refl H) rfl⟩
section
variable{X:Cx}{c:Fc}{a b e:Expr}{pos:Pos}
def ql1 (i:Nat) (g:M D):M D:=λZ=>match zi i Z with
 |none => .bad
 |some _=>(bnd g λy Z=>match zi i Z with
  |none => .bad
  |some ds=>lift (neA (.lst ds) y) Z) Z
end
section
variable{prog:yap}{w:World}{A:yar}{E:Value->yab->Prop}{s:yab}
theorem qhs {it tu:Addr} {k:Nat} {arr:Array Value} {x:Value} {Q:Value->yab->Prop} (hI:s.heap.IsTupleIter it tu k) (hT:s.heap.IsTuple tu arr) (hx:arr[k]? = some x)
  (q:∀h',h'.IsTupleIter it tu (k+1)->ybi it s.heap h'->Q x {s with heap:=h' }):wpAny (model prog w) A (yaB (.ref it)) Q E s:=by
 obtain⟨ob,e1,e2,e3⟩:=id hI
 obtain⟨ot,f1,_,m,f2⟩:=hT
 unfold yaB
 refine yaa (wpAny_callSpecial?_slot (name:=ybb "__next__") hI.typeIs ybG (ya6 ybG hI.typeIs ydm ?_ (yde _)))
 show wpAny (model prog w) _ (field (yad it) 0 >>= _) _ _ s
 refine yaa (yaz e1 e3 (x:=yad tu) rfl ?_)
 show wpAny (model prog w) _ (if(yad tu==yau)=true then _ else _) _ _ s
 rw[if_neg (show ¬((yad tu==yau)=true)from yal)]
 show wpAny (model prog w) _ (field (yad it) 1 >>= _) _ _ s
 refine yaa (yaz e1 e3 (x:=yci k 0) rfl ?_)
 show wpAny (model prog w) _ (seqItems? (yad tu) >>= _) _ _ s
 refine yaa (ya8 f1 f2 ?_)
 simp only[ybq,hx]
 refine yaa (yb3 e1 e3 (by simp) (yaf ⟨x,rfl,yaf (q _ ?_ (ycb ..))⟩))
 exact⟨_,Heap.get?_update_self _ e1 (ycT (ybC e3 _)),(yfn ..).trans e2,by rw[ybC e3];simp[ybA]⟩
theorem qht {it tu:Addr} {k:Nat} {arr:Array Value} {Q:Value->yab->Prop} (hh:A.handled=none) (hI:s.heap.IsTupleIter it tu k) (hT:s.heap.IsTuple tu arr) (hx:arr[k]? = none)
  (q:∀h' e,Heap.ExtBut it s.heap h'->(∃o,h'.get? e=some o/\o.cls=.type "StopIteration")->E (.ref e) {s with heap:=h' }):wpAny (model prog w) A (yaB (.ref it)) Q E s:=by
 obtain⟨ob,e1,e2,e3⟩:=id hI
 obtain⟨ot,f1,_,m,f2⟩:=hT
 unfold yaB
 refine yaa (wpAny_callSpecial?_slot (name:=ybb "__next__") hI.typeIs ybG (ya6 ybG hI.typeIs ydm ?_ (yde _)))
 show wpAny (model prog w) _ (field (yad it) 0 >>= _) _ _ s
 refine yaa (yaz e1 e3 (x:=yad tu) rfl ?_)
 show wpAny (model prog w) _ (if(yad tu==yau)=true then _ else _) _ _ s
 rw[if_neg (show ¬((yad tu==yau)=true)from yal)]
 show wpAny (model prog w) _ (field (yad it) 1 >>= _) _ _ s
 refine yaa (yaz e1 e3 (x:=yci k 0) rfl ?_)
 show wpAny (model prog w) _ (seqItems? (yad tu) >>= _) _ _ s
 refine yaa (ya8 f1 f2 ?_)
 simp only[ybq,hx]
 refine yaa (ycq (yaa (yb3 e1 e3 (by simp) ?_)))
 show wpAny (model prog w) _ (newExc (yaR "StopIteration") [] >>= _) _ _ _
 refine yaa ?_
 simp only[newExc,newTuple]
 refine yaa (yaM ?_ (by size_fits))
 refine yaa (m:=ydf _ _) (wpAny_of_eq (a:=yau) (by first|rfl|(simp only[ydf];rfl)) ?_)
 refine yaM ?_ (by size_fits)
 simp only[raiseNew]
 refine yaa (wpAny_handled ?_)
 first|rw[show A.in1.handled=none from hh]|rw[hh]
 exact yaa (yaf (wpAny_throw (q _ _ (((ycb ..).extBut.push _).push _) ⟨_,Heap.get?_push_size _ rfl,rfl⟩)))
end
theorem j7 {prog:yap} {w:World} {A:yar} (hh:A.handled=none) (it tu:Addr) (hne:tu≠it) (arr:Array Value) :
  Draws prog w A it [it,tu] arr.size (λi x=>arr[i]? = some x) (λi h=>h.IsTupleIter it tu i/\h.IsTuple tu arr) where
 live:=λi h st=>by obtain⟨⟨o,e,_⟩,_⟩:=st;exact⟨o,e⟩
 frame:=λi h h' st k=>by
  obtain⟨h1,o,e,r⟩:=st
  exact⟨h1.at λo q=>k it (by simp) o q,o,k tu (by simp) o e,r⟩
 item:=λi s Q E hi st q=>qhs st.1 st.2 (Array.getElem?_eq_getElem hi) λh' h1 sb=>q _ h' s.toks (Array.getElem?_eq_getElem hi) ⟨h1,by
  obtain⟨o,e,r⟩:=st.2
  exact⟨o,sb.extBut _ _ hne e,r⟩⟩ sb
 done:=λs Q E st q=>qht hh st.1 st.2 (Array.getElem?_eq_none (yak _)) q
structure ZAp (z TI TO i1 i2:Addr) (fp1 fp2:List Addr):Prop where
 zTI:z≠TI
 zTO:z≠TO
 zi1:z≠i1
 zi2:z≠i2
 IO:TI≠TO
 Ii1:TI≠i1
 Ii2:TI≠i2
 Oi1:TO≠i1
 Oi2:TO≠i2
 ii:i1≠i2
 z1:z ∉ fp1
 z2:z ∉ fp2
 O1:TO ∉ fp1
 O2:TO ∉ fp2
 i21:i2 ∉ fp1
 i12:i1 ∉ fp2
section
variable{prog:yap}{w:World}{A:yar}{E:Value->yab->Prop}{s:yab}{z TI TO i1 i2:Addr}{fp1 fp2:List Addr}{n1 n2 k:Nat}{P1 P2:Nat->Value->Prop}{S1 S2:Nat->Heap->Prop}
theorem zc{fp:List Addr}{a:Addr}{h h':Heap}(sb:ybi a h h')(ha:a ∉ fp):∀b∈fp,∀o,h.get? b=some o->h'.get? b=some o:=λb hb o e=>sb.extBut _ _ (λq=>ha (q▸hb)) e
theorem qgv (D1:Draws prog w A i1 fp1 n1 P1 S1) (D2:Draws prog w A i2 fp2 n2 P2 S2) (ap:ZAp z TI TO i1 i2 fp1 fp2) {p q:Value} (zz:IsZip s.heap z TI TO .none) (zI:yaT s.heap TI (.ref i1) (.ref i2)) (zO:yaT s.heap TO p q)
  (t1:S1 k s.heap) (t2:S2 k s.heap) (l1:k<n1) (l2:k<n2) {Q:Value->yab->Prop}
  (fin:∀x y h' tk,P1 k x->P2 k y->IsZip h' z TI TO (ybA s.heap.objs.size)->yaT h' TO x y->S1 (k+1) h'->S2 (k+1) h'->yaT h' s.heap.objs.size x y ->
   (∀c o,c≠z->c≠TO->c≠i1->c≠i2->s.heap.get? c=some o->h'.get? c=some o)->Q (.ref s.heap.objs.size) {s with heap:=h',toks:=tk}) :
  wpAny (model prog w) A (ybM.«zip.__next__» ⟨[.ref z],[]⟩) (λr s'=>∃v,r=.done (.ret v)/\Q v s') E s:=by
 show wpAny (model prog w) A (field (yad z) 2 >>= _) _ _ _
 refine yaa (yaz zz rfl (x:=yaY false) rfl ?_)
 show wpAny (model prog w) A (field (yad z) 3 >>= _) _ _ _
 refine yaa (yaz zz rfl (x:=yad TI) rfl (yaa (ya8 zI rfl ?_)))
 show wpAny (model prog w) A (yaD (yad z) >>= _) _ _ _
 refine yaa ?_
 unfold yaD
 refine yaa (yaz zz rfl (x:=yau) rfl (yaf ?_))
 simp only[if_true]
 refine yaa (ycq (yaa (yaz zz rfl (x:=yad TO) rfl (yaa (ybf zz (by simp) λh1 zz1 b1=>?_)))))
 replace zz1:IsZip h1 z TI TO .ellipsis:=zz1
 refine yaa ?_
 simp only[List.zipIdx_cons,List.zipIdx_nil,ych,ycs]
 refine yaa (yaa (ycI ?_))
 show wpAny (model prog w) A (yaB (yad i1) >>= _) _ _ _
 refine yaa (D1.item k _ _ _ l1 (D1.frame _ _ _ t1 (zc b1 ap.z1)) λx h2 tk2 px u1 b2=>yaf ?_)
 have zO2:yaT h2 TO p q:=b2.extBut _ _ ap.Oi1 (b1.extBut _ _ ap.zTO.symm zO)
 refine yaa (ya8 zO2 rfl (yaa (yc5 zO2 λh3 zO3 b3=>?_)))
 replace zO3:yaT h3 TO x q:=zO3
 refine yaa (yef (yaf (yaa (yaa (ycI ?_)))))
 show wpAny (model prog w) A (yaB (yad i2) >>= _) _ _ _
 have t2':S2 k h3:=D2.frame _ _ _ (D2.frame _ _ _ (D2.frame _ _ _ t2 (zc b1 ap.z2)) (zc b2 ap.i12)) (zc b3 ap.O2)
 refine yaa (D2.item k _ _ _ l2 t2' λy h4 tk4 py u2 b4=>yaf ?_)
 have zO4:yaT h4 TO x q:=b4.extBut _ _ ap.Oi2 zO3
 refine yaa (ya8 zO4 rfl (yaa (yc5 zO4 λh5 zO5 b5=>?_)))
 replace zO5:yaT h5 TO x y:=zO5
 refine yaa (yef (yaf (yaf (yaa (ya8 zO5 rfl (yaa (yep ?_)))))))
 have sz:h5.objs.size=s.heap.objs.size:=by rw[b5.1,b4.1,b3.1,b2.1,b1.1]
 have zz5:IsZip h5 z TI TO .ellipsis:=b5.extBut _ _ ap.zTO (b4.extBut _ _ ap.zi2 (b3.extBut _ _ ap.zTO (b2.extBut _ _ ap.zi1 zz1)))
 have keep5:∀c o,c≠z->c≠TO->c≠i1->c≠i2->s.heap.get? c=some o->h5.get? c=some o:=λc o c1 c2 c3 c4 e=>b5.extBut _ _ c2 (b4.extBut _ _ c4 (b3.extBut _ _ c2 (b2.extBut _ _ c3 (b1.extBut _ _ c1 e))))
 have v1:S1 (k+1) h5:=D1.frame _ _ _ (D1.frame _ _ _ (D1.frame _ _ _ u1 (zc b3 ap.O1)) (zc b4 ap.i21)) (zc b5 ap.O1)
 have v2:S2 (k+1) h5:=D2.frame _ _ _ u2 (zc b5 ap.O2)
 have lz:z<h5.objs.size:=yac zz5
 show wpAny (model prog w) A (ycm (yad z) (yad h5.objs.size) >>= _) _ _ _
 refine yaa ?_
 unfold ycm
 have zz6:IsZip (h5.push {cls:=.type "tuple",data:=.seq #[x,y]}) z TI TO .ellipsis:=Heap.get?_push_of_some _ zz5
 refine yaa (ybf zz6 (by simp) λh7 zz7 b7=>?_)
 replace zz7:IsZip h7 z TI TO (ybA h5.objs.size):=zz7
 refine ybf zz7 (by simp) λh8 zz8 b8=>?_
 replace zz8:IsZip h8 z TI TO (ybA h5.objs.size):=zz8
 have up:∀c o,c≠z->h5.get? c=some o->h8.get? c=some o:=λc o c1 e=>b8.extBut _ _ c1 (b7.extBut _ _ c1 (Heap.get?_push_of_some _ e))
 have new8:yaT h8 h5.objs.size x y:=b8.extBut _ _ (ycX lz) (b7.extBut _ _ (ycX lz) (Heap.get?_push_size _ rfl))
 rw[sz]at zz8 new8
 refine yaf ⟨_,rfl,?_⟩
 show Q (yad h5.objs.size) _
 rw[sz]
 exact fin x y h8 tk4 px py zz8 (up _ _ ap.zTO.symm zO5) (D1.frame _ _ _ v1 λb hb o e=>up b o (λq=>ap.z1 (q▸hb)) e) (D2.frame _ _ _ v2 λb hb o e=>up b o (λq=>ap.z2 (q▸hb)) e) new8 λc o c1 c2 c3 c4 e=>up c o c1 (keep5 c o c1 c2 c3 c4 e)
theorem qca (hh:A.handled=none) (D1:Draws prog w A i1 fp1 n1 P1 S1) (D2:Draws prog w A i2 fp2 n2 P2 S2) (ap:ZAp z TI TO i1 i2 fp1 fp2) {p q:Value} (zz:IsZip s.heap z TI TO .none) (zI:yaT s.heap TI (.ref i1) (.ref i2)) (zO:yaT s.heap TO p q)
  (t1:S1 k s.heap) (t2:S2 k s.heap) (hk:k=min n1 n2) {Q:Fin->yab->Prop}
  (fin:∀h' tk e,(∀c o,c≠z->c≠TO->c≠i1->c≠i2->s.heap.get? c=some o->h'.get? c=some o)->(∃o,h'.get? e=some o/\o.cls=.type "StopIteration")->E (.ref e) {s with heap:=h',toks:=tk}) :
  wpAny (model prog w) A (ybM.«zip.__next__» ⟨[.ref z],[]⟩) Q E s:=by
 show wpAny (model prog w) A (field (yad z) 2 >>= _) _ _ _
 refine yaa (yaz zz rfl (x:=yaY false) rfl ?_)
 show wpAny (model prog w) A (field (yad z) 3 >>= _) _ _ _
 refine yaa (yaz zz rfl (x:=yad TI) rfl (yaa (ya8 zI rfl ?_)))
 show wpAny (model prog w) A (yaD (yad z) >>= _) _ _ _
 refine yaa ?_
 unfold yaD
 refine yaa (yaz zz rfl (x:=yau) rfl (yaf ?_))
 simp only[if_true]
 refine yaa (ycq (yaa (yaz zz rfl (x:=yad TO) rfl (yaa (ybf zz (by simp) λh1 zz1 b1=>?_)))))
 replace zz1:IsZip h1 z TI TO .ellipsis:=zz1
 refine yaa ?_
 simp only[List.zipIdx_cons,List.zipIdx_nil,ych,ycs]
 refine yaa (yaa (ycI ?_))
 show wpAny (model prog w) A (yaB (yad i1) >>= _) _ _ _
 have t1':S1 k h1:=D1.frame _ _ _ t1 (zc b1 ap.z1)
 by_cases h12:n1<=n2
 ·have e1:k=n1:=by rw[hk];exact yc6 h12
  rw[e1]at t1'
  refine yaa (D1.done _ _ _ t1' λh2 e b2 he=>?_)
  obtain⟨oe,f1,f2⟩:=he
  have zz2:IsZip h2 z TI TO .ellipsis:=b2 _ _ ap.zi1 zz1
  have ez:e≠z:=λx=>by subst x;rw[zz2]at f1;cases f1;simp at f2
  refine ybf zz2 (by simp) λh3 _ b3=>?_
  exact fin h3 s.toks e (λc o c1 _ c3 _ x=>b3.extBut _ _ c1 (b2 _ _ c3 (b1.extBut _ _ c1 x))) ⟨oe,b3.extBut _ _ ez f1,f2⟩
 ·have e1:k=n2:=by rw[hk];exact ydS (by omega)
  refine yaa (D1.item k _ _ _ (by omega) t1' λx h2 tk2 px u1 b2=>yaf ?_)
  have zO2:yaT h2 TO p q:=b2.extBut _ _ ap.Oi1 (b1.extBut _ _ ap.zTO.symm zO)
  refine yaa (ya8 zO2 rfl (yaa (yc5 zO2 λh3 zO3 b3=>?_)))
  refine yaa (yef (yaf (yaa (yaa (ycI ?_)))))
  show wpAny (model prog w) A (yaB (yad i2) >>= _) _ _ _
  have t2':S2 k h3:=D2.frame _ _ _ (D2.frame _ _ _ (D2.frame _ _ _ t2 (zc b1 ap.z2)) (zc b2 ap.i12)) (zc b3 ap.O2)
  rw[e1]at t2'
  refine yaa (D2.done _ _ _ t2' λh4 e b4 he=>?_)
  obtain⟨oe,f1,f2⟩:=he
  have zz4:IsZip h4 z TI TO .ellipsis:=b4 _ _ ap.zi2 (b3.extBut _ _ ap.zTO (b2.extBut _ _ ap.zi1 zz1))
  have ez:e≠z:=λx=>by subst x;rw[zz4]at f1;cases f1;simp at f2
  refine ybf zz4 (by simp) λh5 _ b5=>?_
  exact fin h5 tk2 e (λc o c1 c2 c3 c4 x=>b5.extBut _ _ c1 (b4 _ _ c4 (b3.extBut _ _ c2 (b2.extBut _ _ c3 (b1.extBut _ _ c1 x))))) ⟨oe,b5.extBut _ _ ez f1,f2⟩
theorem qcb {l1 l2:Addr} {xs ys:Array Value} {Q:Value->yab->Prop} (t1:s.heap.IsTuple l1 xs) (t2:s.heap.IsTuple l2 ys)
  (fin:∀h',IsZip h' (s.heap.objs.size+4) (s.heap.objs.size+2) (s.heap.objs.size+3) .none->yaT h' (s.heap.objs.size+2) (.ref s.heap.objs.size) (.ref (s.heap.objs.size+1))->yaT h' (s.heap.objs.size+3) .none .none ->
   h'.IsTupleIter s.heap.objs.size l1 0->h'.IsTupleIter (s.heap.objs.size+1) l2 0->(∀c o,s.heap.get? c=some o->h'.get? c=some o)->Q (.ref (s.heap.objs.size+4)) {s with heap:=h' }) :
  wpAny (model prog w) A (call (.type "zip") [.ref l1,.ref l2]) Q E s:=by
 have meets:Meets (ybM.«zip.__new__» ⟨[.type "zip",.ref l1,.ref l2],[]⟩) (λ_ R s=>s.heap.IsTuple l1 xs/\s.heap.IsTuple l2 ys /\
   R (.ok (.ret (.ref (s.heap.objs.size+4)))) {s with heap:=((((s.heap.push {cls:=.type "tuple_iterator",data:=.fields #[.ref l1,.int 0 0]}).push {cls:=.type "tuple_iterator",data:=.fields #[.ref l2,.int 0 0]}).push {cls:=.type "tuple",data:=.seq #[.ref s.heap.objs.size,.ref (s.heap.objs.size+1)]}).push {cls:=.type "tuple",data:=.seq #[.none,.none]}).push {cls:=.type "zip",data:=.fields #[.none,.bool false,.bool false,.ref (s.heap.objs.size+2),.ref (s.heap.objs.size+3)]} }) :=
  .of_wp λprog w A R s h=>by
   obtain⟨hp,g,d,tk,os⟩:=s
   obtain⟨ha,hb,h⟩:=h
   have hsub:=sub_zip
   have hA:Heap.IsTuple (Shared.heap ⟨hp,g,d,tk,os⟩) l1 xs:=ha
   have hB:Heap.IsTuple (Shared.heap ⟨hp.push {cls:=.type "tuple_iterator",data:=.fields #[.ref l1,.int 0 0]},g,d,tk,os⟩) l2 ys:=by
    obtain⟨o,e,r⟩:=hb
    exact⟨o,Heap.get?_push_of_some _ e,r⟩
   wp_walk using ydl hA,ydl hB
   simp only[yby]at *
   exact⟨_,rfl,h⟩
 refine callType_new F.called_zip (by decide) (F.typeCall_zip_2 _ _) (F.newCall_zip_2 _ _) (λobj=>F.args_object_init_3 obj _ _) F.entry_zip_new meets ⟨t1,t2,?_⟩
 generalize e1:s.heap.push {cls:=.type "tuple_iterator",data:=.fields #[.ref l1,.int 0 0]}=m1
 have s1:m1.objs.size=s.heap.objs.size+1:=by rw[<-e1,yby]
 have q1:m1.get? s.heap.objs.size=some {cls:=.type "tuple_iterator",data:=.fields #[.ref l1,.int 0 0]}:=by rw[<-e1];exact Heap.get?_push_size _ rfl
 have k1:∀c o,s.heap.get? c=some o->m1.get? c=some o:=λc o x=>by rw[<-e1];exact Heap.get?_push_of_some _ x
 generalize e2:m1.push {cls:=.type "tuple_iterator",data:=.fields #[.ref l2,.int 0 0]}=m2
 have s2:m2.objs.size=s.heap.objs.size+2:=by rw[<-e2,yby,s1]
 have q2:m2.get? (s.heap.objs.size+1)=some {cls:=.type "tuple_iterator",data:=.fields #[.ref l2,.int 0 0]}:=by rw[<-e2,<-s1];exact Heap.get?_push_size _ rfl
 have k2:∀c o,m1.get? c=some o->m2.get? c=some o:=λc o x=>by rw[<-e2];exact Heap.get?_push_of_some _ x
 generalize e3:m2.push {cls:=.type "tuple",data:=.seq #[.ref s.heap.objs.size,.ref (s.heap.objs.size+1)]}=m3
 have s3:m3.objs.size=s.heap.objs.size+3:=by rw[<-e3,yby,s2]
 have q3:m3.get? (s.heap.objs.size+2)=some {cls:=.type "tuple",data:=.seq #[.ref s.heap.objs.size,.ref (s.heap.objs.size+1)]}:=by rw[<-e3,<-s2];exact Heap.get?_push_size _ rfl
 have k3:∀c o,m2.get? c=some o->m3.get? c=some o:=λc o x=>by rw[<-e3];exact Heap.get?_push_of_some _ x
 generalize e4:m3.push {cls:=.type "tuple",data:=.seq #[.none,.none]}=m4
 have s4:m4.objs.size=s.heap.objs.size+4:=by rw[<-e4,yby,s3]
 have q4:m4.get? (s.heap.objs.size+3)=some {cls:=.type "tuple",data:=.seq #[.none,.none]}:=by rw[<-e4,<-s3];exact Heap.get?_push_size _ rfl
 have k4:∀c o,m3.get? c=some o->m4.get? c=some o:=λc o x=>by rw[<-e4];exact Heap.get?_push_of_some _ x
 generalize e5:m4.push {cls:=.type "zip",data:=.fields #[.none,.bool false,.bool false,.ref (s.heap.objs.size+2),.ref (s.heap.objs.size+3)]}=m5
 have q5:m5.get? (s.heap.objs.size+4)=some {cls:=.type "zip",data:=.fields #[.none,.bool false,.bool false,.ref (s.heap.objs.size+2),.ref (s.heap.objs.size+3)]}:=by rw[<-e5,<-s4];exact Heap.get?_push_size _ rfl
 have k5:∀c o,m4.get? c=some o->m5.get? c=some o:=λc o x=>by rw[<-e5];exact Heap.get?_push_of_some _ x
 show _/\_
 exact⟨⟨_,q5,rfl⟩,fin m5 q5 (k5 _ _ (k4 _ _ q3)) (k5 _ _ q4) ⟨_,k5 _ _ (k4 _ _ (k3 _ _ (k2 _ _ q1))),rfl,rfl⟩ ⟨_,k5 _ _ (k4 _ _ (k3 _ _ q2)),rfl,rfl⟩ λc o x=>k5 _ _ (k4 _ _ (k3 _ _ (k2 _ _ (k1 _ _ x))))⟩
end
section
variable{X:Cx}{pins:List (Addr×Obj)}{σ:St}{H:Hp}{s:yab}{h':Heap}
theorem qhu {ch:List Addr} {T:Addr} {o:HO} {t':Nat} (I:Inv X pins σ H s) (k:∀b u,b ∉ ch->s.heap.get? b=some u->h'.get? b=some u) (hf:∀b∈ch,wT X pins H b) (hT:s.heap.objs.size<=T) (new:jx X.prog X.w (upd H T o) h' T o) :
  Inv X pins σ (upd H T o) {s with heap:=h',toks:=t' }:=by
 have hn:H T=none:=I.hok.fresh hT
 have nch:∀b u,H b=some u->b ∉ ch:=λb u e z=>by rw[(hf b z).1]at e;cases e
 refine I.step (g':=s.gens) (d':=s.drawn) (ch:=ch) (λb hb=>⟨(hf b hb).2.2.2.1,(hf b hb).2.1,(hf b hb).2.2.2.2.1,(hf b hb).2.2.2.2.2⟩) (λb u _ _ hc e _=>k b u hc e) (λb u _ _ hc e _=>⟨u.slots,k b u hc e⟩) (λb u hc e n=>?_)
  (λb u hc e=>⟨u,k b u hc e⟩) (λb xs e=>by rw[qm (qA e hn)];exact e) (λb u xs e=>by rw[qm (qA e hn)];exact e) (λb ps y e=>by rw[qm (qA e hn)];exact e) (λm hm=>?_) (λb u e=>?_) I.bare
 ·rw[qm (yaq (yat (yac e) hT))];exact n
 ·obtain⟨ob,es,ep,ho,r⟩:=hm
  exact⟨ob,es,ep,k _ ob (λz=>(hf _ z).2.1 rfl) ho,r⟩
 ·by_cases hb:b=T
  ·subst hb;rw[qi]at e;cases e;exact new
  ·rw[qm hb]at e
   refine(I.hok b u e).stay (λc v hc q=>k c v ?_ q) (λc q=>by rw[qm (qA q hn)];exact q) (λc xs q=>by rw[qm (qA q hn)];exact q) λc ob y q=>by rw[qm (qA q hn)];exact q
   rcases hc with z|z
   ·rw[z];exact nch b u e
   ·exact nch c _ z
theorem qhv {ch:List Addr} {t':Nat} (I:Inv X pins σ H s) (k:∀b u,b ∉ ch->s.heap.get? b=some u->h'.get? b=some u) (hf:∀b∈ch,wT X pins H b):Inv X pins σ H {s with heap:=h',toks:=t' }:=by
 have nch:∀b u,H b=some u->b ∉ ch:=λb u e z=>by rw[(hf b z).1]at e;cases e
 refine I.step (g':=s.gens) (d':=s.drawn) (ch:=ch) (λb hb=>⟨(hf b hb).2.2.2.1,(hf b hb).2.1,(hf b hb).2.2.2.2.1,(hf b hb).2.2.2.2.2⟩) (λb u _ _ hc e _=>k b u hc e) (λb u _ _ hc e _=>⟨u.slots,k b u hc e⟩) (λb u hc e n=>n)
  (λb u hc e=>⟨u,k b u hc e⟩) (λb xs e=>e) (λb u xs e=>e) (λ_ _ _ e=>e) (λm hm=>?_) (λb u e=>?_) I.bare
 ·obtain⟨ob,es,ep,ho,r⟩:=hm
  exact⟨ob,es,ep,k _ ob (λz=>(hf _ z).2.1 rfl) ho,r⟩
 ·refine(I.hok b u e).stay (λc v hc q=>k c v ?_ q) (λc q=>q) λc xs q=>q
  rcases hc with z|z
  ·rw[z];exact nch b u e
  ·exact nch c _ z
end
def Itz (K:Fr0) (a1 a2:Addr) (xs ys:List V):It :=
 ⟨λi H=>i<min xs.length ys.length/\SqT K H a1 xs/\SqT K H a2 ys,λi H x H'=>∃p u v,H p=none/\xs[i]? = some u/\ys[i]? = some v/\x=.ref p/\H'=upd H p (.tup [u,v]),λi H=>i=min xs.length ys.length/\SqT K H a1 xs/\SqT K H a2 ys⟩
def ZSt(z TI TO i1 i2 a1 a2:Addr)(i:Nat)(h:Heap):Prop:=IsZip h z TI TO .none/\yaT h TI (.ref i1) (.ref i2)/\(∃p q,yaT h TO p q)/\h.IsTupleIter i1 a1 i/\h.IsTupleIter i2 a2 i
theorem qfB {P:yap} {w:World} {K:Fr0} {es:List Expr} {kk:Nat} {pos:Pos} {z TI TO i1 i2 a1 a2:Addr} {xs ys:List V} (ap:ZAp z TI TO i1 i2 [i1,a1] [i2,a2]) (n1:a1≠i1) (n2:a2≠i2) :
  qiO P w K (.Tuple es kk pos) (Itz K a1 a2 xs ys) [z,TI,TO,i1,i2] z (ZSt z TI TO i1 i2 a1 a2) where
 mem:=by simp
 obj:=λi h st b hb=>by
  obtain⟨h1,h2,⟨p,q,h3⟩,⟨o4,h4,c4,d4⟩,⟨o5,h5,c5,d5⟩⟩:=st
  simp only[yao,nN_,or_false]at hb
  rcases hb with rfl|rfl|rfl|rfl|rfl
  ·exact⟨_,h1,λv e=>by cases (show ycA _=yd3 v from e)⟩
  ·exact⟨_,h2,λv e=>by cases (show ycN _ _=yd3 v from e)⟩
  ·exact⟨_,h3,λv e=>by cases (show ycN _ _=yd3 v from e)⟩
  ·exact⟨_,h4,λv e=>by rw[d4]at e;cases e⟩
  ·exact⟨_,h5,λv e=>by rw[d5]at e;cases e⟩
 keep:=λi h h' st k=>by
  obtain⟨h1,h2,⟨p,q,h3⟩,h4,h5⟩:=st
  exact⟨k z (by simp) _ h1,k TI (by simp) _ h2,⟨p,q,k TO (by simp) _ h3⟩,h4.at λo e=>k i1 (by simp) o e,h5.at λo e=>k i2 (by simp) o e⟩
 item:=by
  intro X hP hw hK hc i pins s σ H E I hf st hg
  subst hP hw hK
  obtain⟨hlt,hx,hy⟩:=hg
  obtain⟨h1,h2,⟨p,q,h3⟩,h4,h5⟩:=st
  obtain⟨it1,r1,p1,z1⟩:=I.tuple hx
  obtain⟨it2,r2,p2,z2⟩:=I.tuple hy
  have l1:i<it1.toArray.size:=by rw[sT_,<-r1.length];omega
  have l2:i<it2.toArray.size:=by rw[sT_,<-r2.length];omega
  have hT:s.TypeIs (.ref z) "zip":=⟨_,h1,rfl⟩
  have hh:X.A.in1.handled=none:=I.ok.hd hc
  unfold ybT
  refine yaa (ycJ (wpAny_callSpecial?_slot (name:=ybb "__next__") hT ybn (ya6 ybn hT ycO
   (qgv (j7 hh i1 a1 n1 it1.toArray) (j7 hh i2 a2 n2 it2.toArray) ap h1 h2 h3 ⟨h4,p1⟩ ⟨h5,p2⟩ l1 l2 λx y h' tk px py zz zO u1 u2 new kp=>yaf ?_) (ycx _))))
  refine⟨.ref s.heap.objs.size,rfl,wpAny_letOwnedTupleGo_zip zz λh2' zz2 sb=>?_⟩
  obtain⟨xv,hxv⟩:∃v,xs[i]? = some v:=⟨xs[i]'(by omega),gG (by omega)⟩
  obtain⟨yv,hyv⟩:∃v,ys[i]? = some v:=⟨ys[i]'(by omega),gG (by omega)⟩
  obtain⟨x',ex,rx⟩:=r1.get hxv
  obtain⟨y',ey,ry⟩:=r2.get hyv
  have exx:x'=x:=by
   have:it1.toArray[i]? = some x:=px
   rw[List.getElem?_toArray,ex]at this
   exact yaF this
  have eyy:y'=y:=by
   have:it2.toArray[i]? = some y:=py
   rw[List.getElem?_toArray,ey]at this
   exact yaF this
  subst exx eyy
  have lz:z<s.heap.objs.size:=yac h1
  have keep:∀b u,b ∉ [z,TI,TO,i1,i2]->s.heap.get? b=some u->h2'.get? b=some u:=λb u hb e=>by
   simp only[yao,nN_,or_false,not_or]at hb
   exact sb.extBut _ _ hb.1 (kp b u hb.1 hb.2.2.1 hb.2.2.2.1 hb.2.2.2.2 e)
  have I2:Inv X pins σ (upd H s.heap.objs.size (.tup [xv,yv])) {s with heap:=h2',toks:=tk} :=
   qhu I keep hf (yak _) ⟨by show 2<=yas;decide,[x',y'],.cons rx (.cons ry .nil),⟨_,sb.extBut _ _ (ycX lz) new,rfl,_,rfl⟩⟩
  refine⟨.ref s.heap.objs.size,upd H s.heap.objs.size (.tup [xv,yv]),I2,rfl,⟨s.heap.objs.size,xv,yv,I.hok.fresh (yak _),hxv,hyv,rfl,rfl⟩,?_,λb hb=>?_⟩
  ·exact⟨zz2,sb.extBut _ _ ap.zTI.symm (kp _ _ ap.zTI.symm ap.IO ap.Ii1 ap.Ii2 h2),⟨_,_,sb.extBut _ _ ap.zTO.symm zO⟩,u1.1.at λo e=>sb.extBut _ _ ap.zi1.symm e,u2.1.at λo e=>sb.extBut _ _ ap.zi2.symm e⟩
  ·have hb1:b≠s.heap.objs.size:=by
    simp only[yao,nN_,or_false]at hb
    obtain⟨o4,g4,_⟩:=h4
    obtain⟨o5,g5,_⟩:=h5
    rcases hb with rfl|rfl|rfl|rfl|rfl
    ·exact yaq (yac h1)
    ·exact yaq (yac h2)
    ·exact yaq (yac h3)
    ·exact yaq (yac g4)
    ·exact yaq (yac g5)
   rw[qm hb1]
   exact(hf b hb).1
 done:=by
  intro X hP hw hK hc i pins s σ H E I hf st hg
  subst hP hw hK
  obtain⟨hlt,hx,hy⟩:=hg
  obtain⟨h1,h2,⟨p,q,h3⟩,h4,h5⟩:=st
  obtain⟨it1,r1,p1,z1⟩:=I.tuple hx
  obtain⟨it2,r2,p2,z2⟩:=I.tuple hy
  have hT:s.TypeIs (.ref z) "zip":=⟨_,h1,rfl⟩
  have hh:X.A.in1.handled=none:=I.ok.hd hc
  unfold ybT
  refine yaa (ycJ (wpAny_callSpecial?_slot (name:=ybb "__next__") hT ybn (ya6 ybn hT ycO
   (qca hh (j7 hh i1 a1 n1 it1.toArray) (j7 hh i2 a2 n2 it2.toArray) ap h1 h2 h3 ⟨h4,p1⟩ ⟨h5,p2⟩ (by rw[sT_,sT_,<-r1.length,<-r2.length];exact hlt) λh' tk e kp he=>?_) (ycx _))))
  obtain⟨o,ho,hcl⟩:=he
  refine yaa (ycP (T:="StopIteration") (b:=true) ⟨o,ho,hcl⟩ ydg (yaf ⟨rfl,qhv I (λb u hb e=>?_) hf⟩))
  simp only[yao,nN_,or_false,not_or]at hb
  exact kp b u hb.1 hb.2.2.1 hb.2.2.2.1 hb.2.2.2.2 e
 self:=λA i s Q E st h=>ydT st.1 h
section
variable{X:Cx}{c:Fc}{a b e:Expr}{pos:Pos}{es:List Expr}{kk:Nat}{tp:Pos}
theorem qed (n l1 l2:Nat) (h1:l1<n) (h2:l2<n):ZAp (n+4) (n+2) (n+3) n (n+1) [n,l1] [n+1,l2]:=by
 refine⟨?_,?_,?_,?_,?_,?_,?_,?_,?_,?_,?_,?_,?_,?_,?_,?_⟩<;>simp only[yao,nN_,or_false,not_or,ne_eq]<;>(unfold Addr at *)<;>omega
def qmJ(K:Fr0)(ta:TA):TI:=λσ H R=>ta σ H λvs H1=>∃a1 a2 xs ys,vs=[.ref a1,.ref a2]/\SqT K H1 a1 xs/\SqT K H1 a2 ys/\R (Itz K a1 a2 xs ys) H1
theorem qjz {ta:TA} {p:Pos} (hg:Gl X "zip") (hm:X.mg "zip"=none) (ha:PA X [a,b] ta) (hs:yae [a,b] X.env=[(false,eval a X.env),(false,eval b X.env)]:=by rfl) (hs2:yae [b] X.env=[(false,eval b X.env)]:=by rfl) :
  PI X (.Tuple es kk tp) (.Call (.Name "zip" p) [a,b] [] pos) (qmJ X.K ta):=by
 intro pins s σ H R I h
 refine Call_ (vh I hg hm yeq (yaX (thn (ha pos pins s σ H _ I h) λus s1 ⟨vs,H1,I1,r1,q1⟩=>?_) (by rw[hs,hs2]) (by rw[hs2];rfl)))
 obtain⟨a1,a2,xs,ys,e1,hx,hy,q⟩:=q1
 subst e1
 obtain⟨u1,u2,rfl,ru1,ru2⟩:=qK.two r1
 cases (show u1=yad a1 from ru1)
 cases (show u2=yad a2 from ru2)
 obtain⟨it1,v1,p1,z1⟩:=I1.tuple hx
 obtain⟨it2,v2,p2,z2⟩:=I1.tuple hy
 refine qcb (show s1.heap.IsTuple a1 it1.toArray from p1) (show s1.heap.IsTuple a2 it2.toArray from p2) λh' zz zI zO g1 g2 kp=>?_
 refine ydT zz ?_
 have la1:a1<s1.heap.objs.size:=by obtain⟨o,e,_⟩:=p1;exact yac e
 have la2:a2<s1.heap.objs.size:=by obtain⟨o,e,_⟩:=p2;exact yac e
 have ap:ZAp (s1.heap.objs.size+4) (s1.heap.objs.size+2) (s1.heap.objs.size+3) s1.heap.objs.size (s1.heap.objs.size+1) [s1.heap.objs.size,a1] [s1.heap.objs.size+1,a2]:=by
  exact qed _ _ _ la1 la2
 refine⟨s1.heap.objs.size+4,[s1.heap.objs.size+4,s1.heap.objs.size+2,s1.heap.objs.size+3,s1.heap.objs.size,s1.heap.objs.size+1],_,_,H1,rfl,I1.kept (t':=s1.toks) kp,qfB (xs:=xs) (ys:=ys) ap (yaq la1) (yaq (ycy la2)),⟨zz,zI,⟨_,_,zO⟩,g1,g2⟩,λb hb=>?_,q⟩
 simp only[yao,nN_,or_false]at hb
 have hb2:s1.heap.objs.size<=b:=by
  rcases hb with e|e|e|e|e<;>rw[e]
  ·exact ybR _ _
  ·exact ybR _ _
  ·exact ybR _ _
  ·exact yak _
  ·exact ybR _ _
 exact I1.fpOk hb2 (I1.hok.fresh hb2)
def vn:List D->List D->List D
 |x::xs,y::ys => .tup [x,y]::vn xs ys
 |_,_=>[]
theorem qcc:∀{xs ys:List D}{i:Nat}{d:D},(vn xs ys)[i]? = some d->∃x y,xs[i]? = some x/\ys[i]? = some y/\d=.tup [x,y]
 | [],_,_,_,h=>by simp[vn]at h
 |_::_,[],_,_,h=>by simp[vn]at h
 |x::xs,y::ys,0,d,h=>by
  have:D.tup [x,y]=d:=by simpa [vn] using h
  exact⟨x,y,rfl,rfl,this.symm⟩
 |x::xs,y::ys,i+1,d,h=>by
  obtain⟨u,v,h1,h2,h3⟩:=qcc (xs:=xs) (ys:=ys) (i:=i) (d:=d) (by simpa [vn] using h)
  exact⟨u,v,by simpa using h1,by simpa using h2,h3⟩
theorem vG:∀(xs ys:List D),(vn xs ys).length=min xs.length ys.length
 | [],ys=>by simp[vn]
 |_::_,[]=>by simp[vn]
 |x::xs,y::ys=>by simp[vn,vG xs ys]
theorem qjA {K:Fr0} {A:Addr->Prop} {H:Hp} {ds es:List D} {xs ys:List V} {a1 a2:Addr} (t1:uS K H a1 xs) (t2:uS K H a2 ys) (i1:IsL K A H ds xs) (i2:IsL K A H es ys):qgr K A H (vn ds es) (Itz K a1 a2 xs ys) where
 go:=λH' i d ex hd=>by
  have hl:i<(vn ds es).length:=(gI_.mp hd).1
  rw[vG,<-i1.length,<-i2.length]at hl
  exact⟨hl,(t1.elim (λh => .inl (ex.tup _ _ h)) .inr:uS K H' a1 xs).sq,(t2.elim (λh => .inl (ex.tup _ _ h)) .inr:uS K H' a2 ys).sq⟩
 yl:=λH' i d x H'' ex hd y=>by
  obtain⟨p,u,v,hp,hu,hv,rfl,rfl⟩:=y
  obtain⟨dx,dy,h1,h2,rfl⟩:=qcc hd
  obtain⟨u',g1,g2⟩:=i1.get h1
  obtain⟨v',g3,g4⟩:=i2.get h2
  rw[hu]at g1
  rw[hv]at g3
  cases g1
  cases g3
  have sm:=qs hp (.tup [u,v])
  exact⟨sm,p,[u,v],rfl,.inl qi,u,[v],rfl,Is.ext (Ext.of_same sm) (λ_ h _=>h) (Is.ext ex (λ_ h _=>h) g2),v,[],rfl,Is.ext (Ext.of_same sm) (λ_ h _=>h) (Is.ext ex (λ_ h _=>h) g4),rfl⟩
 stop:=λH' ex=>⟨by rw[vG,i1.length,i2.length],(t1.elim (λh => .inl (ex.tup _ _ h)) .inr:uS K H' a1 xs).sq,(t2.elim (λh => .inl (ex.tup _ _ h)) .inr:uS K H' a2 ys).sq⟩
def qc6:List D->Option (List D)
 | [.tup xs,.tup ys]=>some (vn xs ys)
 |_=>none
def qee(f:M (List D)):M (List D):=bnd f λds=>lift (qc6 ds)
theorem qcd {f:M (List D)} {p:Pos} (hg:Gl X "zip") (hm:X.mg "zip"=none) (ha:DA X c [a,b] f) (hs:yae [a,b] X.env=[(false,eval a X.env),(false,eval b X.env)]:=by rfl) (hs2:yae [b] X.env=[(false,eval b X.env)]:=by rfl) :
  DI X c (.Tuple es kk tp) (.Call (.Name "zip" p) [a,b] [] pos) (qee f):=by
 obtain⟨t,pa,w⟩:=ha
 refine⟨_,qjz hg hm pa hs hs2,λZ σ H Q r h=>w Z σ H _ r (WpL.bndI h λds Z1 vs H1 r1 i1 g1 h1=>?_)⟩
 obtain⟨es',e,h2⟩:=vE h1
 unfold qc6 at e
 split at e
 ·obtain⟨v,u,rfl,j1,j2⟩:=IsL.inv2 i1
  cases e
  obtain⟨a1,xs,rfl,t1,il1⟩:=Is.tr j1
  obtain⟨a2,ys,rfl,t2,il2⟩:=Is.tr j2
  exact⟨a1,a2,xs,ys,rfl,t1.sq,t2.sq,h2 _ H1 r1 (qjA t1 t2 il1 il2) .refl⟩
 ·cases e
end
theorem yt:fillsNumberSlot (.type "tuple") "mul"=pure false:=by
 first|kernel_rfl|(unfold fillsNumberSlot;kernel_rfl)|decide +kernel
theorem uZ:seqRepeat? (.type "tuple")=pure (some (.builtin "tuple.__mul__")):=by
 first|kernel_rfl|(unfold seqRepeat?;kernel_rfl)|decide +kernel
theorem yM (a:Int) (t:Tok) (l:Addr) (dd:Option Addr) (items:Array Value) (n:Nat) (sl:Array (Option Value)) :
  Meets (ybM.«int.__rmul__» ⟨[.int a t,.ref l],[]⟩) (λ_ R s=>s.heap.get? l=some {cls:=.type "tuple",dict:=dd,data:=.seq items n,slots:=sl}/\R (.ok (.ret .notImplemented)) s) :=
 .of_wp λprog w A R s h=>by
  obtain⟨hp,g,d,tk,os⟩:=s
  obtain⟨hl,h⟩:=h
  wp_walk using ybk hl
  exact⟨_,rfl,h⟩
theorem qjB (l:Addr) (dd:Option Addr) (items:Array Value) (n:Nat) (sl:Array (Option Value)) (k:Int) (t:Tok) (h0:¬items.isEmpty=true) (h1:¬(k==1)=true) (h2:¬k<=0) (h3:¬(decide (k < -(2 ^ 63))||decide (k >= 2 ^ 63))=true)
  (h4:¬(items.size:Int)*k>(2 ^ 63-1)/8) (h5:¬Builtin.Tuple.tupleTooMany ((items.size:Int)*k)=true) (h6:((yag k.toNat items).foldl (·++·) #[]).size<=yas) :
  Meets (ybM.«tuple.__mul__» ⟨[.ref l,.int k t],[]⟩) (λ_ R s=>s.heap.get? l=some {cls:=.type "tuple",dict:=dd,data:=.seq items n,slots:=sl} /\
   R (.ok (.ret (.ref s.heap.objs.size))) {s with heap:=s.heap.push {cls:=.type "tuple",data:=.seq ((yag k.toNat items).foldl (·++·) #[])} }) :=
 .of_wp λprog w A R s h=>by
  obtain⟨hp,g,d,tk,os⟩:=s
  obtain⟨hl,h⟩:=h
  have f1:=ydU
  have f2:=ybO
  have h01:¬(items.isEmpty||k==1)=true:=by simp only[yc2,not_or];exact⟨h0,h1⟩
  have h02:¬(decide (k<=0)||items.isEmpty)=true:=by simp only[yc2,decide_eq_true_eq,not_or];exact⟨h2,h0⟩
  wp_walk using ybk hl
  rw[if_neg h3]
  wp_walk using ybk hl
  rw[if_neg h4]
  wp_walk using ybk hl
  exact⟨_,rfl,h⟩
section
variable{X:Cx}
def qjC(K:Fr0):R2:=λx y H Q=>∃a xs k,x=.ref a/\y=.int k/\SqT K H a xs/\xs≠[]/\2<=k/\xs.length*k.toNat<=yas/\∀p,H p=none->Q (.ref p) (upd H p (.tup (yag k.toNat xs).flatten))
theorem qhw:OpR X (ya3 .Mult) (qjC X.K):=by
 intro pins s σ H x y v u Q I rx ry h
 obtain⟨a,xs,k,rfl,rfl,hx,hne,hk,hz,q⟩:=h
 cases rx
 obtain⟨t,rfl⟩:=ry
 obtain⟨its,r,p1,_⟩:=I.tuple hx
 obtain⟨⟨cls,dd,data,sl⟩,ho,hc,n,hd⟩:=id p1
 simp only at hc hd
 subst hc hd
 have hl:=r.length
 have hnew:yeB (λx1 x2=>x1++x2) #[] (yag k.toNat its.toArray)=(yag k.toNat its).flatten.toArray:=by
  have:=vW its k.toNat []
  rw[ybF]at this
  exact this
 have hlen:(yag k.toNat its).flatten.length=k.toNat*its.length:=qbB its k.toNat
 have hsl:(yas:Nat)=16777216:=ybz
 have e0:¬its.toArray.isEmpty=true:=by
  intro e
  have:its=[]:=by simpa using e
  rw[this]at hl
  exact hne (List.length_eq_zero_iff.mp hl)
 have pos1:1<=its.length:=by
  cases its with
  |nil=>simp at e0
  |cons z zs=>simp
 have kk:((k.toNat:Nat):Int)=k:=Int.toNat_of_nonneg (by omega)
 have mm:(its.toArray.size:Int)*k=((its.length*k.toNat:Nat):Int):=by rw[sT_,Int.natCast_mul,kk]
 have zz:its.length*k.toNat<=yas:=by rw[<-hl];exact hz
 have kle:k.toNat<=its.length*k.toNat:=Nat.le_mul_of_pos_left _ pos1
 have T1:s.TypeIs (.ref a) "tuple":=⟨_,ho,rfl⟩
 refine ybL (T:="tuple") (U:="int") (by decide) T1 (λs'=>ybX s' k t) yt yc1 ybl uZ F.slot_int_index.lookup
  (ybK ybl (ybX s k t) ycL (ycw _ _) (yM k t a dd its.toArray n sl)
   ⟨ho,rfl,T1,ybK ydV T1 ydD (ydn _ _) (qjB a dd its.toArray n sl k t e0 (by simp;omega) (by omega) (by simp;omega) (by rw[mm];omega) ?_ (by rw[hnew,sT_,hlen,ye5];exact zz)) ⟨ho,?_⟩⟩)
 ·rw[mm]
  show ¬decide (((its.length*k.toNat:Nat):Int)>(yas:Int))=true
  rw[decide_eq_true_eq]
  omega
 ·rw[hnew]
  refine⟨.ref s.heap.objs.size,_,I.laid (t':=s.toks) (o:=.tup (yag k.toNat xs).flatten) (λb ob q=>Heap.get?_push_of_some _ q) (yak _) ?_,rfl,q _ (I.hok.fresh (yak _))⟩
  exact⟨by rw[qbB,ye5];exact hz,_,r.rep k.toNat,ydj _ _⟩
def qfC(K:Fr0):R2:=λx y H Q=>(rI qiS (λi j => .int (i*j))) x y H Q\/(qjC K x y H Q\/qlW x y H Q)
theorem jz:OpR X (ya3 .Mult) (qfC X.K):=OpR.or qiU (OpR.or qhw qi9)
end
def jq:D->D->Option D
 |.int i,.int j=>if qdX i j then some (.int (i*j))else none
 |.tup ds,.int k=>if(!ds.isEmpty&&decide (2<=k))&&qC (ds.length*k.toNat)then some (.tup (yag k.toNat ds).flatten)else none
 |.lst ds,.int k=>if(decide (-(2 ^ 62)<=k)&&decide (k<2 ^ 62))&&qC (ds.length*k.toNat)then some (.lst (yag k.toNat ds).flatten)else none
 |_,_=>none
theorem IsL.rep {K:Fr0} {A:Addr->Prop} {H:Hp} {ds:List D} {xs:List V} (h:IsL K A H ds xs):∀k:Nat,IsL K A H (yag k ds).flatten (yag k xs).flatten
 |0=>by simp[IsL]
 |k+1=>by
  rw[rS_,rS_,ybr,ybr]
  exact IsL.append h (IsL.rep h k)
theorem zu {K:Fr0}:OpS K jq (qfC K):=by
 intro A H x y d v u Q hn ix iy e k
 cases x<;>cases y<;>simp only[jq]at e<;>try (cases e;done)
 ·rename_i i j
  obtain⟨e1,e2⟩:=zj e
  subst e2
  cases ix;cases iy
  exact .inl ⟨i,j,rfl,rfl,qfl e1,k _ H (zG.refl H) rfl⟩
 ·rename_i ds j
  obtain⟨a,xs,rfl,ta,il⟩:=ix
  cases iy
  obtain⟨e1,e2⟩:=zj e
  subst e2
  rw[yaj,yaj]at e1
  obtain⟨⟨e3,e4⟩,e5⟩:=e1
  refine .inr (.inl ⟨a,xs,j,rfl,rfl,ta.sq,λz=>?_,of_decide_eq_true e4,by rw[il.length];exact of_decide_eq_true e5,λp hp=>k _ _ (qs hp _) ⟨p,_,rfl,.inl qi,IsL.ext (Ext.of_same (qs hp _)) (λ_ h _=>h) (IsL.rep il _)⟩⟩)
  have:=il.length
  rw[z]at this
  have:ds=[]:=List.length_eq_zero_iff.mp this.symm
  rw[this]at e3
  simp at e3
 ·rename_i ds j
  obtain⟨a,xs,rfl,_,ta,il⟩:=ix
  cases iy
  obtain⟨e1,e2⟩:=zj e
  subst e2
  rw[yaj,yaj]at e1
  obtain⟨⟨e3,e4⟩,e5⟩:=e1
  have e3':=of_decide_eq_true e3
  have e4':=of_decide_eq_true e4
  refine .inr (.inr ⟨a,j,xs,rfl,rfl,ta,by omega,by omega,by rw[il.length];exact of_decide_eq_true e5,λp hp=>k _ _ (qs hp _) ⟨p,_,rfl,hn p hp,qi,IsL.ext (Ext.of_same (qs hp _)) (λ_ h _=>h) (IsL.rep il _)⟩⟩)
def qhx:D->Option D
 |.int i=>some (.int (-i))
 |_=>none
def d1(F:D->Option D)(f:M D):M D:=bnd f λx=>lift (F x)
def qfD(i j:Int):Bool:=decide (0<=j)&&decide (j<=1000000)&&decide (i.natAbs<2 ^ 64)
def qhy:D->D->Option D:=qfk qfD λi j => .int (i ^ j.toNat)
theorem qef {K:Fr0}:OpS K qhy (rI qlS λi j => .int (i ^ j.toNat)):=qdV (λi j h=>by
 unfold qfD at h
 rw[yaj,yaj]at h
 exact⟨of_decide_eq_true h.1.1,of_decide_eq_true h.1.2,of_decide_eq_true h.2⟩) λ_ _ _ _=>rfl
section
variable{X:Cx}{c:Fc}{a b e:Expr}{pos:Pos}
theorem qeg {f:M D} (h:DE X c a f):DE X c (.UnaryOp .USub a pos) (d1 qhx f):=by
 obtain⟨t,p,w⟩:=h
 refine⟨_,qk2 qiV p,λZ σ H Q r h=>w Z σ H _ r (Wp.bnd h λd Z1 v H1 r1 i1 g1 h1=>?_)⟩
 obtain⟨d',e,h2⟩:=h1.lift
 cases d<;>simp only[qhx]at e<;>try (cases e;done)
 rename_i i
 cases e
 cases i1
 exact⟨i,rfl,h2 _ H1 r1 rfl .refl⟩
def qhz(X:Cx)(key:Key)(n:Int):TE:=λ_ H Q=>∀p,H p=none->Q (.ref p) (upd H p (.dK [(key,.int n)]))
theorem qjD {pins:List (Addr×Obj)} {σ:St} {H:Hp} {s:yab} (I:Inv X pins σ H s):yb4<s.heap.objs.size:=by
 obtain⟨mb,h1,_⟩:=I.ok.mod.blt
 have hlt:ybS<X.base.objs.size:=h1.lt
 have hle:X.base.objs.size<=s.heap.objs.size:=yaJ I.ok.bsz I.sz
 have hd:yb4<ybS\/yb4<yah:=by decide
 have hg:yah<X.base.objs.size:=I.ok.mod.glob.lt
 rcases hd with z|z
 ·exact yat (Nat.lt_trans z hlt) hle
 ·exact yat (Nat.lt_trans z hg) hle
theorem qfE {key:Key} {n:Int} {ke:Expr} {j:Nat} {p1:Pos} (hk:∀(s:yab)(Q:Value->yab->Prop)(E:Value->yab->Prop),(∀u tk,qcN key u=true->Q u {s with toks:=tk})->wpAny (model X.prog X.w) X.A (eval ke X.env) Q E s) :
  PE X (.Dict [some ke] [.Constant (.int n) j p1] pos) (qhz X key n):=by
 intro pins s σ H Q I h
 have hf:H s.heap.objs.size=none:=I.hok.fresh (yak _)
 refine wpAny_Dict_walk (knd:=vM X.prog X.w) rfl rfl (by simp) (by show 1<=15;decide) ?_
 refine evalPairs_cons (hk _ _ _ λu tk hu=>?_)
 refine yaa (yeT (yaa (ydr (yaf (evalPairs_nil ?_)))))
 refine⟨[(key,.int n tk)],⟨hu,rfl,trivial⟩,Heap.DictOf.new _,λh' hd sb=>?_⟩
 have e:merged [] [(key,yci n tk)]=[(key,yci n tk)]:=by simp[merged,stored]
 rw[e]at hd
 refine⟨.ref s.heap.objs.size,upd H s.heap.objs.size (.dK [(key,.int n)]),I.laid (λb o q=>sb.extBut _ _ (yaq (yac q)) (Heap.get?_push_of_some _ q)) (yak _) ?_,rfl,h _ hf⟩
 exact⟨by show 1<=yas;decide,beq_eq_false_iff_ne.mpr (ya2 (yaq (qjD I))),[(key,.int n tk)],.cons ⟨rfl,tk,rfl⟩ .nil,hd⟩
theorem qfF {key:Key} {n:Int} {ke:Expr} {j:Nat} {p1:Pos} (hk:∀(s:yab)(Q:Value->yab->Prop)(E:Value->yab->Prop),(∀u tk,qcN key u=true->Q u {s with toks:=tk})->wpAny (model X.prog X.w) X.A (eval ke X.env) Q E s) :
  DE X c (.Dict [some ke] [.Constant (.int n) j p1] pos) (ret (.dic [(key,n)])):=by
 refine⟨_,qfE hk,λZ σ H Q r h p hp=>h _ _ (r.laid hp _) ⟨p,rfl,r.new hp,qi⟩ (.of_same (qs hp _))⟩
theorem qfG {x:Str} {n:Int} {j j2:Nat} {p1 p2:Pos}:DE X c (.Dict [some (.Constant (.str x) j2 p2)] [.Constant (.int n) j p1] pos) (ret (.dic [(.inr x,n)])) :=
 qfF λs Q E h=>yeU (h _ _ (qdv _ _))
def qiw (i j:Nat) (f:M (List D)):MS:=sbnd f λds Z=>match ds with
 | [d,e] => .ok (.nx ((Z.set i (some d)).set j (some e)))
 |_ => .bad
theorem qjE {i j:Nat} {x y:Str} {f:M (List D)} {px py pt:Pos} {kt k2 pt2} (hN:X.N.Nodup) (ha:DA X c [a,b] f) (hw:ycG [.Tuple [.Name x px,.Name y py] kt pt] (.Tuple [a,b] k2 pt2) X.env=pure (some [x,y])) (hc:X.calm=true:=by rfl) (hi:X.N[i]? = some x:=by rfl) (hj:X.N[j]? = some y:=by rfl) (hij:i≠j:=by decide)
  (hx:X.env.scope.names.lookup x=some .local:=by rfl) (hy:X.env.scope.names.lookup y=some .local:=by rfl) (ho:i ∉ c.O:=by exact of_decide_eq_false rfl) (hp:j ∉ c.O:=by exact of_decide_eq_false rfl)
  (hs:ycF [.Tuple [.Name x px,.Name y py] kt pt] (.Tuple [a,b] k2 pt2) pos.line X.env=pure false:=by rfl) :
  DS X c (.Assign [.Tuple [.Name x px,.Name y py] kt pt] (.Tuple [a,b] k2 pt2) pos) (qiw i j f):=by
 obtain⟨t,p,w⟩:=ha
 refine⟨_,qiN hc hN hi hj hij hx hy p hw hs,λZ σ H D r h=>w Z σ H _ r (WpL.sbnd h λds Z1 vs H1 r1 i1 g1 h1=>?_)⟩
 match ds,i1,h1 with
 | [],_,h1=>exact h1.elim
 | [_],_,h1=>exact h1.elim
 | [d,e],i1,h1=>
  obtain⟨v,u,rfl,j1,j2⟩:=IsL.inv2 i1
  refine⟨v,u,rfl,h1 _ H1 ((r1.set ho j1).set hp ?_) ((GrS.set ho).trans (GrS.set hp))⟩
  exact(GrS.set (H:=H1) ho).is j2
 |_::_::_::_,_,h1=>exact h1.elim
mutual
def immF:D->Bool
 |.tup ds=>immFs ds
 |.lst _=>false
 |.dic _=>false
 |_=>true
def immFs:List D->Bool
 | []=>true
 |d::ds=>immF d&&immFs ds
end
mutual
theorem Is.immF {K:Fr0} {A B:Addr->Prop} {H:Hp}:∀{d:D}{v:V},immF d=true->Is K A H d v->Is K B H d v
 |.non,_,_,h=>h
 |.bl _,_,_,h=>h
 |.int _,_,_,h=>h
 |.str _,_,_,h=>h
 |.tup ds,_,i,⟨a,xs,hv,h,r⟩=>⟨a,xs,hv,h,IsL.immF (by simpa [Sk.immF] using i) r⟩
 |.lst _,_,i,_=>by simp[Sk.immF]at i
 |.dic _,_,i,_=>by simp[Sk.immF]at i
 |.fz _,_,_,h=>h
 |.exc _,_,_,h=>h
theorem IsL.immF {K:Fr0} {A B:Addr->Prop} {H:Hp}:∀{ds:List D}{xs:List V},immFs ds=true->IsL K A H ds xs->IsL K B H ds xs
 | [],_,_,h=>h
 |d::ds,_,i,⟨x,ys,hx,h,r⟩=>by
  have i':Sk.immF d=true/\immFs ds=true:=by simpa [immFs] using i
  exact⟨x,ys,hx,Is.immF i'.1 h,IsL.immF i'.2 r⟩
end
def qa8 (F:List D->R D) (g:M (List D)):M (List D):=bnd g λds Z=>if immFs ds then match F ds with
 |.ok (.lst bs)=>if immL bs then .ok (bs,Z)else .bad
 |_ => .bad else .bad
theorem qhA {k:Nat} {f:Addr} {fd:yaN} {ps:List Str} {F:List D->R D} {x:Str} {p:Pos} {es:List Expr} {g:M (List D)} (G:uv X.prog X.w X.K X.mg X.base CX0 k f fd ps (spD X.K F)) (hr:yn k X.A) (hg:Gl X x) (hm:X.mg x=some (.ref f)) (hk:yam X.K (.ref f)=true) (hb:yF X.K fd ps [])
  (ha:DA X c (e::es) g) (hd:(x==("__debug__":Str))=false:=by decide) (he:yae (e::es) X.env=(false,eval e X.env)::yae es X.env:=by rfl) (hpl:(yaO pos (yae es X.env)).any (·.1)=false:=by rfl):DN X c (.Call (.Name x p) (e::es) [] pos) (qa8 F g):=by
 obtain⟨t,pa,w⟩:=ha
 refine⟨_,vS G hr hg hm hk hb .nil qhe pa hd he hpl,λZ σ H Q r h=>w Z σ H _ r (WpL.bndN h λds Z1 vs H1 r1 i1 g1 h1=>?_)⟩
 rw[ya4]
 by_cases him:immFs ds=true
 ·rw [if_pos him]at h1
  refine⟨ds,λ_=>False,IsL.immF him i1,r1.tb,?_⟩
  cases ef:F ds with
  |bad=>simp only[ef]at h1;exact h1.elim
  |exc z Z'=>simp only[ef]at h1;exact h1.elim
  | ok d=>
   cases d with
   | lst bs=>
    simp only[ef]at h1
    by_cases hb2:immL bs=true
    ·rw[if_pos hb2]at h1
     intro v H' sm i
     obtain⟨a,xs,rfl,hA,ha2,il⟩:=i
     have hn:H1 a=none:=hA.elim yaS id
     exact h1 a xs H' hn (r1.same sm) (r1.apart_same hn sm) ha2 trivial (IsL.imm hb2 il) (.of_same sm)
    ·rw[if_neg hb2]at h1;exact h1.elim
   |_=>simp only[ef]at h1;exact h1.elim
 ·rw[if_neg him]at h1;exact h1.elim
end
structure qhB (outer:Scope) (N:List Str) (scope:Scope) (N':List Str) (nt:Nat) (fr:List Nat):Prop where
 kind:scope.kind=.function
 nocell:∀y∈scope.names,y.2 ≠ .cell
 names:∀y∈scope.names,y.2=.local->scope.names.lookup y.1=some .local
 frees:∀y∈scope.names,y.2=.free->outer.names.lookup y.1=some .cell
 len:N'.length=nt+fr.length
 slots:∀p∈fr.zipIdx,N'[nt+p.2]? = N[p.1]? /\ ((N[p.1]?).bind λx=>scope.names.lookup x)=some .free
theorem qhB.ok {X:Cx} {outer:Scope} {N:List Str} {scope:Scope} {N':List Str} {nt:Nat} {fr:List Nat} (S:qhB outer N scope N' nt fr) (h1:X.env.scope=outer) (h2:X.N=N):jo X scope N' nt fr:=by
 subst h1 h2
 refine⟨S.kind,S.nocell,S.names,S.frees,S.len,λi j h=>?_⟩
 have hm:(j,i)∈fr.zipIdx:=by
  rw[ycU]
  refine⟨i,?_⟩
  rw[List.getElem?_zipIdx,h]
  simp
 obtain⟨h3,h4⟩:=S.slots (j,i) hm
 cases e:X.N[j]? with
 |none=>
  have h4':((X.N[j]?).bind λx=>scope.names.lookup x)=some .free:=h4
  rw[e]at h4';cases h4'
 | some x=>
  have h4':((X.N[j]?).bind λx=>scope.names.lookup x)=some .free:=h4
  rw[e]at h4'
  exact ⟨x,by
    have h3':N'[nt+i]? = X.N[j]? := h3
    rw[h3',e],rfl,h4'⟩
structure zX (P:yap) (w:World) (K:yai) (mg:Str->Option Value) (base:Heap) (k:Nat) (x:Str) (ps:List Str) (sp:Sp):Prop where
 ex:∃f fd,uv P w K mg base CX0 k f fd ps sp/\mg x=some (.ref f)/\yam K (.ref f)=true/\yF K fd ps []
theorem yN:yaA "len"=some (.builtin "len"):=by decide +kernel
theorem qjF:yaA "max"=some (.builtin "max"):=by decide +kernel
theorem qjG:yaA "min"=some (.builtin "min"):=by decide +kernel
theorem qa9:yaA "all"=some (.builtin "all"):=by decide +kernel
theorem qce:yaA "sum"=some (.builtin "sum"):=by decide +kernel
theorem qeh:yaA "divmod"=some (.builtin "divmod"):=by decide +kernel
theorem u0:yaA "repr"=some (.builtin "repr"):=by decide +kernel
theorem qei:yaA "int"=some (.type "int"):=by decide +kernel
theorem qbD:yaA "bool"=some (.type "bool"):=by decide +kernel
theorem yu:yaA "tuple"=some (.type "tuple"):=by decide +kernel
theorem qhC:yaA "list"=some (.type "list"):=by decide +kernel
theorem qp:yaA "isinstance"=some (.builtin "isinstance"):=by decide +kernel
def yE:MS:=λZ => .ok (.nx Z)
theorem qV{X:Cx}{c:Fc}:DSs X c [] yE:=qhf
theorem zY{X:Cx}:IxR X (λx y H Q=>qla X.K x y H Q\/qlb X.K x y H Q):=qdO.or qi4
theorem qhD {c:Fc} {nt:Nat} {fr:List Nat} {i j:Nat} (h1:j∈c.O) (h2:nt<=i) (h3:fr[i-nt]? = some j) (h4:∀p∈fr.zipIdx,nt+p.2≠i->p.1 ∉ c.O):qgt c nt fr (some (i,j)) :=
 ⟨h1,h2,h3,λk j' h hk=>h4 (j',k) (by rw[ycU];exact⟨k,by rw[List.getElem?_zipIdx,h];simp⟩) hk⟩
def eqB (x y:D):Option D:=match sc2 x y with
 |some b=>some (.bl b)
 |none=>eqA x y
def neB (x y:D):Option D:=match sc2 x y with
 |some b=>some (.bl (!b))
 |none=>neA x y
theorem qba{X:Cx}{k:Nat}(hr:yn k X.A):OpR X (yaI .Eq) (λx y H Q=>rEq x y H Q\/qe2 X.K false x y H Q):=OpR.or qiW (qjx hr)
theorem vo{X:Cx}{k:Nat}(hr:yn k X.A):OpR X (yaI .NotEq) (λx y H Q=>rNe x y H Q\/qe2 X.K true x y H Q):=OpR.or qk4 (qjy hr)
theorem uj {K:Fr0}:OpS K eqB (λx y H Q=>rEq x y H Q\/qe2 K false x y H Q):=by
 intro A H x y d v u Q hn ix iy e k
 unfold eqB at e
 cases e1:sc2 x y with
 |some b=>simp only[e1]at e;exact .inl (qhg A H x y d v u Q hn ix iy (by unfold eqS;rw[e1];exact e) k)
 |none=>simp only[e1]at e;exact .inr (qhq A H x y d v u Q hn ix iy e k)
theorem yO {K:Fr0}:OpS K neB (λx y H Q=>rNe x y H Q\/qe2 K true x y H Q):=by
 intro A H x y d v u Q hn ix iy e k
 unfold neB at e
 cases e1:sc2 x y with
 |some b=>simp only[e1]at e;exact .inl (qhh A H x y d v u Q hn ix iy (by unfold neS;rw[e1];exact e) k)
 |none=>simp only[e1]at e;exact .inr (qhr A H x y d v u Q hn ix iy e k)
end L2.Sk
namespace L2.Sk
section
variable{α β:Type}{Z:Env}{f g k:M D}{t u:M Bool}{l m:M (List D)}{p q r:MS}
theorem qc7(a:α):ret a Z=.ok (a,Z):=rfl
theorem qej(o:Option α):lift o Z=match o with|some a => .ok (a,Z)|none => .bad:=by cases o<;>rfl
theorem qlh{f:M α}{k:α->M β}:bnd f k Z=match f Z with|.ok (a,Z')=>k a Z'|.exc x Z' => .exc x Z'|.bad => .bad:=rfl
theorem qmK(i:Nat):dv i Z=match Z[i]? with|some (some d) => .ok (d,Z)|_ => .bad:=rfl
theorem yw:qa f l Z=match f Z with|.ok (d,Z1)=>(match l Z1 with|.ok (ds,Z2) => .ok (d::ds,Z2)|.exc x Z' => .exc x Z'|.bad => .bad)|.exc x Z' => .exc x Z'|.bad => .bad:=by
 simp only[qa,bnd,sbnd]
 cases f Z with
 |ok z=>
  obtain⟨z1,Z1⟩:=z
  simp only[ret]
  cases l Z1 with
  |ok z=>obtain⟨z2,Z2⟩:=z;rfl
  |exc x Z'=>rfl
  |bad=>rfl
 |exc x Z'=>rfl
 |bad=>rfl
theorem qcf:jw l Z=match l Z with|.ok (ds,Z1)=>(if qC ds.length then .ok (.tup ds,Z1)else .bad)|.exc x Z' => .exc x Z'|.bad => .bad:=by
 simp only[jw,bnd,sbnd]
 cases l Z with
 |ok z=>
  obtain⟨z1,Z1⟩:=z
  cases h:qC z1.length<;>simp[h,lift,ret]
 |exc x Z'=>rfl
 |bad=>rfl
theorem qbb:yp l Z=match l Z with|.ok (ds,Z1)=>(if qC ds.length then .ok (.lst ds,Z1)else .bad)|.exc x Z' => .exc x Z'|.bad => .bad:=by
 simp only[yp,bnd,sbnd]
 cases l Z with
 |ok z=>
  obtain⟨z1,Z1⟩:=z
  cases h:qC z1.length<;>simp[h,lift,ret]
 |exc x Z'=>rfl
 |bad=>rfl
theorem qjH:qkJ l Z=match l Z with|.ok (ds,Z1)=>(if immL ds&&qC ds.length then .ok (ds,Z1)else .bad)|.exc x Z' => .exc x Z'|.bad => .bad:=by
 simp only[qkJ,bnd,sbnd]
 cases l Z with
 |ok z=>
  obtain⟨z1,Z1⟩:=z
  cases h:(immL z1&&qC z1.length)<;>simp[h,lift,ret]
 |exc x Z'=>rfl
 |bad=>rfl
theorem qkK (F:D->D->Option D):d2 F f g Z=match f Z with|.ok (x,Z1)=>(match g Z1 with|.ok (y,Z2)=>(match F x y with|some d => .ok (d,Z2)|none => .bad)|.exc x Z' => .exc x Z'|.bad => .bad)|.exc x Z' => .exc x Z'|.bad => .bad:=by
 simp only[d2,bnd,sbnd]
 cases f Z with
 |ok z=>
  obtain⟨z1,Z1⟩:=z
  dsimp only <;>
  cases g Z1 with
  |ok z=>obtain⟨z2,Z2⟩:=z;(dsimp only;cases F z1 z2<;>rfl)
  |exc x Z'=>rfl
  |bad=>rfl
 |exc x Z'=>rfl
 |bad=>rfl
theorem qmL (F:D->Option D):d1 F f Z=match f Z with|.ok (x,Z1)=>(match F x with|some d => .ok (d,Z1)|none => .bad)|.exc x Z' => .exc x Z'|.bad => .bad:=by
 simp only[d1,bnd,sbnd]
 cases f Z with
 |ok z=>
  obtain⟨z1,Z1⟩:=z
  (dsimp only;cases F z1<;>rfl)
 |exc x Z'=>rfl
 |bad=>rfl
theorem qbE (F:List D->Option D):qj F l Z=match l Z with|.ok (xs,Z1)=>(match F xs with|some d => .ok (d,Z1)|none => .bad)|.exc x Z' => .exc x Z'|.bad => .bad:=by
 simp only[qj,bnd,sbnd]
 cases l Z with
 |ok z=>
  obtain⟨z1,Z1⟩:=z
  (dsimp only;cases F z1<;>rfl)
 |exc x Z'=>rfl
 |bad=>rfl
theorem vH (F:List D->R D):qt F l Z=match l Z with|.ok (xs,Z1)=>(match F xs with|.ok d => .ok (d,Z1)|_ => .bad)|.exc x Z' => .exc x Z'|.bad => .bad:=by
 simp only[qt,bnd,sbnd]
 cases l Z with
 |ok z=>
  obtain⟨z1,Z1⟩:=z
  cases F z1<;>rfl
 |exc x Z'=>rfl
 |bad=>rfl
theorem qek (T:String):wS T f Z=match f Z with|.ok (d,Z1) => .ok (.bl (qao (tyD d) T),Z1)|.exc x Z' => .exc x Z'|.bad => .bad:=by
 simp only[wS,bnd,sbnd]
 cases f Z with
 |ok z=>
  obtain⟨z1,Z1⟩:=z
  rfl
 |exc x Z'=>rfl
 |bad=>rfl
theorem qjI:tst f Z=match f Z with|.ok (d,Z1)=>(match asB d with|some b => .ok (b,Z1)|none => .bad)|.exc x Z' => .exc x Z'|.bad => .bad:=by
 simp only[tst,bnd,sbnd]
 cases f Z with
 |ok z=>
  obtain⟨z1,Z1⟩:=z
  (dsimp only;cases asB z1<;>rfl)
 |exc x Z'=>rfl
 |bad=>rfl
theorem wv(b:Bool):asB (.bl b)=some b:=rfl
theorem qgw:vB t Z=match t Z with|.ok (b,Z1) => .ok (!b,Z1)|.exc x Z' => .exc x Z'|.bad => .bad:=by
 simp only[vB,bnd,sbnd]
 cases t Z with
 |ok z=>
  obtain⟨z1,Z1⟩:=z
  rfl
 |exc x Z'=>rfl
 |bad=>rfl
theorem qjJ:qlY t u Z=match t Z with|.ok (b,Z1)=>(bif b then u Z1 else .ok (false,Z1))|.exc x Z' => .exc x Z'|.bad => .bad:=by
 simp only[qlY,bnd,sbnd]
 cases t Z with
 |ok z=>
  obtain⟨z1,Z1⟩:=z
  cases z1<;>rfl
 |exc x Z'=>rfl
 |bad=>rfl
theorem qfH:tor t u Z=match t Z with|.ok (b,Z1)=>(bif b then .ok (true,Z1)else u Z1)|.exc x Z' => .exc x Z'|.bad => .bad:=by
 simp only[tor,bnd,sbnd]
 cases t Z with
 |ok z=>
  obtain⟨z1,Z1⟩:=z
  cases z1<;>rfl
 |exc x Z'=>rfl
 |bad=>rfl
theorem qel:qdT f g Z=match f Z with|.ok (d,Z1)=>(match asB d with|some b=>(bif b then g Z1 else .ok (.bl false,Z1))|none => .bad)|.exc x Z' => .exc x Z'|.bad => .bad:=by
 simp only[qdT,bnd,sbnd]
 cases f Z with
 |ok z=>
  obtain⟨z1,Z1⟩:=z
  simp only[qej]
  cases asB z1 with
  |none=>rfl
  |some b=>cases b<;>rfl
 |exc x Z'=>rfl
 |bad=>rfl
theorem qjK:dor f g Z=match f Z with|.ok (d,Z1)=>(match asB d with|some b=>(bif b then .ok (.bl true,Z1)else g Z1)|none => .bad)|.exc x Z' => .exc x Z'|.bad => .bad:=by
 simp only[dor,bnd,sbnd]
 cases f Z with
 |ok z=>
  obtain⟨z1,Z1⟩:=z
  simp only[qej]
  cases asB z1 with
  |none=>rfl
  |some b=>cases b<;>rfl
 |exc x Z'=>rfl
 |bad=>rfl
theorem qjL:qje f Z=match f Z with|.ok (d,Z1)=>(match asB d with|some b => .ok (.bl (!b),Z1)|none => .bad)|.exc x Z' => .exc x Z'|.bad => .bad:=by
 simp only[qje,bnd,sbnd]
 cases f Z with
 |ok z=>
  obtain⟨z1,Z1⟩:=z
  simp only[qej]
  cases asB z1 with
  |none=>rfl
  |some b=>cases b<;>rfl
 |exc x Z'=>rfl
 |bad=>rfl
theorem qc8:dif t f g Z=match t Z with|.ok (b,Z1)=>(bif b then f Z1 else g Z1)|.exc x Z' => .exc x Z'|.bad => .bad:=by
 simp only[dif,bnd,sbnd]
 cases t Z with
 |ok z=>
  obtain⟨z1,Z1⟩:=z
  cases z1<;>rfl
 |exc x Z'=>rfl
 |bad=>rfl
theorem qhE:sif t p q Z=match t Z with|.ok (b,Z1)=>(bif b then p Z1 else q Z1)|.exc x Z' => .exc x Z'|.bad => .bad:=by
 simp only[sif,bnd,sbnd]
 cases t Z with
 |ok z=>
  obtain⟨z1,Z1⟩:=z
  cases z1<;>rfl
 |exc x Z'=>rfl
 |bad=>rfl
theorem qgx:qI p q Z=match p Z with|.ok (.nx Z')=>q Z'|z=>z:=by
 unfold qI
 cases p Z with
 |ok z=>cases z<;>rfl
 |exc x Z'=>rfl
 |bad=>rfl
theorem qcg:jk f Z=match f Z with|.ok (d,Z1) => .ok (.rt d Z1)|.exc x Z' => .exc x Z'|.bad => .bad:=by
 simp only[jk,bnd,sbnd]
 cases f Z with
 |ok z=>
  obtain⟨z1,Z1⟩:=z
  rfl
 |exc x Z'=>rfl
 |bad=>rfl
theorem qgy (i:Nat):zb i f Z=match f Z with|.ok (d,Z1) => .ok (.nx (Z1.set i (some d)))|.exc x Z' => .exc x Z'|.bad => .bad:=by
 simp only[zb,bnd,sbnd]
 cases f Z with
 |ok z=>
  obtain⟨z1,Z1⟩:=z
  rfl
 |exc x Z'=>rfl
 |bad=>rfl
theorem qhF (i:Nat):qas i l Z=match l Z with|.ok (ds,Z1) => .ok (.nx (Z1.set i (some (.lst ds))))|.exc x Z' => .exc x Z'|.bad => .bad:=by
 simp only[qas,bnd,sbnd]
 cases l Z with
 |ok z=>
  obtain⟨z1,Z1⟩:=z
  rfl
 |exc x Z'=>rfl
 |bad=>rfl
theorem qbF:uD f Z=match f Z with|.ok (_,Z1) => .ok (.nx Z1)|.exc x Z' => .exc x Z'|.bad => .bad:=by
 simp only[uD,bnd,sbnd]
 cases f Z with
 |ok z=>
  obtain⟨z1,Z1⟩:=z
  rfl
 |exc x Z'=>rfl
 |bad=>rfl
theorem qjM:yE Z=.ok (.nx Z):=rfl
theorem qjN (i j:Nat):qiw i j l Z=match l Z with|.ok ([d,e],Z1) => .ok (.nx ((Z1.set i (some d)).set j (some e)))|.ok _ => .bad|.exc x Z' => .exc x Z'|.bad => .bad:=by
 simp only[qiw,bnd,sbnd]
 cases l Z with
 |ok z=>
  obtain⟨z1,Z1⟩:=z
  match z1 with
  | []=>rfl
  | [_]=>rfl
  | [_,_]=>rfl
  |_::_::_::_=>rfl
 |exc x Z'=>rfl
 |bad=>rfl
theorem qjO (G:D->Env->Option Env):qkH f G Z=match f Z with|.ok (d,Z1)=>(match G d Z1 with|some Z2 => .ok (.nx Z2)|none => .bad)|.exc x Z' => .exc x Z'|.bad => .bad:=by
 simp only[qkH,bnd,sbnd]
 cases f Z with
 |ok z=>
  obtain⟨z1,Z1⟩:=z
  dsimp only <;>
  cases G z1 Z1<;>rfl
 |exc x Z'=>rfl
 |bad=>rfl
theorem qbc (G:D->Env->Option Env) (b:MS):qe1 l G b Z=match l Z with|.ok (ds,Z1)=>uh G b ds Z1|.exc x Z' => .exc x Z'|.bad => .bad:=by
 simp only[qe1,bnd,sbnd]
 cases l Z with
 |ok z=>
  obtain⟨z1,Z1⟩:=z
  rfl
 |exc x Z'=>rfl
 |bad=>rfl
theorem qem:yf f Z=match f Z with|.ok (d,Z1)=>(match qkI d with|some ds => .ok (ds,Z1)|none => .bad)|.exc x Z' => .exc x Z'|.bad => .bad:=by
 simp only[yf,bnd,sbnd]
 cases f Z with
 |ok z=>
  obtain⟨z1,Z1⟩:=z
  (dsimp only;cases qkI z1<;>rfl)
 |exc x Z'=>rfl
 |bad=>rfl
theorem qhG:z8 l Z=match l Z with|.ok (d,Z1)=>(match qfv d with|some ds => .ok (ds,Z1)|none => .bad)|.exc x Z' => .exc x Z'|.bad => .bad:=by
 simp only[z8,bnd,sbnd]
 cases l Z with
 |ok z=>
  obtain⟨z1,Z1⟩:=z
  (dsimp only;cases qfv z1<;>rfl)
 |exc x Z'=>rfl
 |bad=>rfl
theorem qbd:qee l Z=match l Z with|.ok (d,Z1)=>(match qc6 d with|some ds => .ok (ds,Z1)|none => .bad)|.exc x Z' => .exc x Z'|.bad => .bad:=by
 simp only[qee,bnd,sbnd]
 cases l Z with
 |ok z=>
  obtain⟨z1,Z1⟩:=z
  (dsimp only;cases qc6 z1<;>rfl)
 |exc x Z'=>rfl
 |bad=>rfl
theorem u4 {nt:Nat} {fr:List Nat} {fo:Option (Nat×Nat)} {G:D->Env->Option Env} {e:M D}:qE nt fr fo l G t e Z=match l Z with
  |.ok (ds,Z1)=>(match qG G t e ds [] (zC nt fr Z1) with|.ok (ys,Ze) => .ok (.lst ys,qfw fo Ze Z1)|_ => .bad)|.exc x Z' => .exc x Z'|.bad => .bad:=by
 simp only[qE,bnd,sbnd]
 cases l Z with
 |ok z=>
  obtain⟨z1,Z1⟩:=z
  dsimp only <;>
  cases qG G t e z1 [] (zC nt fr Z1) with
  |ok z=>obtain⟨z2,Z2⟩:=z;rfl
  |exc x Z'=>rfl
  |bad=>rfl
 |exc x Z'=>rfl
 |bad=>rfl
theorem ww (F:List D->List D->R (D×List D)) (i:Nat):qo F i l Z=match zi i Z with
  |none => .bad
  | some _=>(match l Z with
   |.ok (ds,Z1)=>(match zi i Z1 with
    |none => .bad
    |some bs=>(match F bs ds with|.ok (d,bs') => .ok (d,Z1.set i (some (.lst bs')))|_ => .bad))
   |.exc x Z' => .exc x Z'|.bad => .bad):=by
 simp only[qo,bnd]
 cases zi i Z with
 |none=>rfl
 | some _=>
  dsimp only <;>
  cases l Z with
  | ok z=>
   obtain⟨z1,Z1⟩:=z
   dsimp only <;>
   cases zi i Z1 with
   |none=>rfl
   |some bs=>
    dsimp only <;>
    cases F bs z1 with
    |ok z=>obtain⟨z2,z3⟩:=z;rfl
    |exc x Z'=>rfl
    |bad=>rfl
  |exc x Z'=>rfl
  |bad=>rfl
theorem qhH (F:List D->R D):qa8 F l Z=match l Z with
  |.ok (ds,Z1)=>(if immFs ds then(match F ds with|.ok (.lst bs)=>(if immL bs then .ok (bs,Z1)else .bad)|_ => .bad)else .bad)|.exc x Z' => .exc x Z'|.bad => .bad:=by
 simp only[qa8,bnd,sbnd]
 cases l Z with
 | ok z=>
  obtain⟨z1,Z1⟩:=z
  dsimp only <;>
  cases immFs z1 with
  |false=>rfl
  |true=>
   simp only[if_true]
   cases F z1 with
   |ok z=>cases z<;>rfl
   |exc x Z'=>rfl
   |bad=>rfl
 |exc x Z'=>rfl
 |bad=>rfl
theorem qjP (i:Nat):qju i f Z=match zi i Z with
  |none => .bad
  | some _=>(match f Z with
   |.ok (k,Z1)=>(match k,zi i Z1 with
    |.int n,some ds=>(match atI ds n with|some d => .ok (d,Z1)|none => .bad)
    |_,_ => .bad)
   |.exc x Z' => .exc x Z'|.bad => .bad):=by
 simp only[qju,bnd]
 cases zi i Z with
 |none=>rfl
 | some _=>
  dsimp only <;>
  cases f Z with
  |ok z=>
   obtain⟨z1,Z1⟩:=z
   dsimp only <;>
   cases z1<;>cases zi i Z1<;>try rfl
  |exc x Z'=>rfl
  |bad=>rfl
theorem qhI (i:Nat):qfx i k f Z=match f Z with
  | .ok (d,Z1)=>(match zi i Z1 with
   |none => .bad
   | some _=>(match k Z1 with
    | .ok (j,Z2)=>(match j,zi i Z2 with
     |.int n,some ds=>(match ixN ds.length n with
      |some q=>if imm d then .ok (.nx (Z2.set i (some (.lst (ds.set q d)))))else .bad
      |none => .bad)
     |_,_ => .bad)
    |.exc x Z' => .exc x Z'|.bad => .bad))
  |.exc x Z' => .exc x Z'|.bad => .bad:=by
 simp only[qfx,bnd,sbnd]
 cases f Z with
 | ok z=>
  obtain⟨z1,Z1⟩:=z
  dsimp only <;>
  cases zi i Z1 with
  |none=>rfl
  | some _=>
   dsimp only <;>
   cases k Z1 with
   |ok z=>
    obtain⟨z2,Z2⟩:=z
    dsimp only <;>
    cases z2<;>cases zi i Z2<;>try rfl
   |exc x Z'=>rfl
   |bad=>rfl
 |exc x Z'=>rfl
 |bad=>rfl
theorem qhJ (i:Nat):qjt i Z=match zi i Z with|some ds => .ok (.int ds.length,Z)|none => .bad:=by
 unfold qjt
 cases zi i Z<;>rfl
theorem qhK (i:Nat):qea i Z=match zi i Z with|some ds => .ok (.tup ds,Z)|none => .bad:=by
 unfold qea
 cases zi i Z<;>rfl
theorem qjQ (i:Nat):ql1 i f Z=match zi i Z with
  |none => .bad
  | some _=>(match f Z with
   |.ok (y,Z1)=>(match zi i Z1 with
    |none => .bad
    |some ds=>(match neA (.lst ds) y with|some d => .ok (d,Z1)|none => .bad))
   |.exc x Z' => .exc x Z'|.bad => .bad):=by
 simp only[ql1,bnd]
 cases zi i Z with
 |none=>rfl
 | some _=>
  dsimp only <;>
  cases f Z with
  |ok z=>
   obtain⟨z1,Z1⟩:=z
   dsimp only <;>
   cases zi i Z1 with
   |none=>rfl
   |some ds=>(dsimp only;cases neA (.lst ds) z1<;>rfl)
  |exc x Z'=>rfl
  |bad=>rfl
theorem qen (i:Nat):ui i f Z=match zi i Z with
  |none => .bad
  | some _=>(match f Z with
   |.ok (d,Z1)=>(match zi i Z1 with
    |some ds=>if imm d&&qC (ds.length+1)then .ok (.non,Z1.set i (some (.lst (ds++[d]))))else .bad
    |none => .bad)
   |.exc x Z' => .exc x Z'|.bad => .bad):=by
 simp only[ui,bnd]
 cases zi i Z with
 |none=>rfl
 | some _=>
  dsimp only <;>
  cases f Z with
  |ok z=>
   obtain⟨z1,Z1⟩:=z
   dsimp only <;>
   cases zi i Z1<;>rfl
  |exc x Z'=>rfl
  |bad=>rfl
theorem qli {g k:M (Option Int)}:dsl f g k Z=match f Z with
  | .ok (d,Z1)=>(match g Z1 with
   |.ok (lo,Z2)=>(match k Z2 with
    |.ok (hi,Z3)=>(match slD d lo hi with|some x => .ok (x,Z3)|none => .bad)
    |.exc x Z' => .exc x Z'|.bad => .bad)
   |.exc x Z' => .exc x Z'|.bad => .bad)
  |.exc x Z' => .exc x Z'|.bad => .bad:=by
 simp only[dsl,bnd,sbnd]
 cases f Z with
 | ok z=>
  obtain⟨z1,Z1⟩:=z
  dsimp only <;>
  cases g Z1 with
  |ok z=>
   obtain⟨z2,Z2⟩:=z
   dsimp only <;>
   cases k Z2 with
   |ok z=>obtain⟨z3,Z3⟩:=z;(dsimp only;cases slD z1 z2 z3<;>rfl)
   |exc x Z'=>rfl
   |bad=>rfl
  |exc x Z'=>rfl
  |bad=>rfl
 |exc x Z'=>rfl
 |bad=>rfl
theorem qeo:wX f Z=match f Z with|.ok (.int i,Z1) => .ok (some i,Z1)|.ok _ => .bad|.exc x Z' => .exc x Z'|.bad => .bad:=by
 simp only[wX,bnd,sbnd]
 cases f Z with
 |ok z=>
  obtain⟨z1,Z1⟩:=z
  cases z1<;>rfl
 |exc x Z'=>rfl
 |bad=>rfl
end
theorem jc {n:Nat} (h:n<=1000000):qC n=true:=by
 unfold qC
 exact decide_eq_true (yaJ h (by rw[yfo];decide))
theorem qhL {n p:Nat} {body:MS} {ds:List D} {d:D} {Z:Env} (h:ds.length=p) (e:body (jA n ds)=.ok (.rt d Z)):dfn n p body ds=.ok d:=by
 unfold dfn;rw[if_pos h,e]
theorem qbe {n p:Nat} {body:MS} {bs ds bs':List D} {d:D} {Z:Env} (h:ds.length+1=p) (e:body (jA n (.lst bs::ds))=.ok (.rt d Z)) (g:zi 0 Z=some bs'):uX n p body bs ds=.ok (d,bs'):=by
 unfold uX;rw[if_pos h,e];simp only[g]
end L2.Sk
namespace L2.Sk
open PySem PySem.Spec PyProof.Rows
section
variable{prog:yap}{w:World}{A:yar}{E:Value->yab->Prop}{s:yab}
end
section
variable{X:Cx}{c:Fc}{a b e:Expr}{pos:Pos}{es:List Expr}{kk:Nat}{tp:Pos}
def qhM (k:Nat):List D->List D
 | []=>[]
 |x::xs => .tup [.int (k:Nat),x]::qhM (k+1) xs
def qhN:List D->Option (List D)
 | [.tup xs]=>some (qhM 0 xs)
 |_=>none
def qhO(f:M (List D)):M (List D):=bnd f λds=>lift (qhN ds)
end
def vD:D->V
 |.bl b => .bl b
 |.int i => .int i
 |.str x => .str x
 |_ => .non
def flD:D->Bool
 |.non=>true
 |.bl _=>true
 |.int _=>true
 |.str _=>true
 |_=>false
def sqD:D->Option (List D)
 |.tup ds=>some ds
 |.lst ds=>some ds
 |_=>none
def inD (x y:D):Option D:=match sqD y with
 |some ds=>if flD x&&ds.all flD then some (.bl (ds.any λd=>eqV (vD d) (vD x)))else none
 |none=>none
theorem qgz {K:Fr0} {A:Addr->Prop} {H:Hp} {d:D} {v:V} (h:Is K A H d v) (f:flD d=true):v=vD d/\vw v=true:=by
 cases d<;>first|(cases h;exact⟨rfl,rfl⟩)|cases f
theorem qbG {K:Fr0} {A:Addr->Prop} {H:Hp}:∀{ds:List D}{vs:List V},IsL K A H ds vs->ds.all flD=true->vs=ds.map vD/\vs.all vw=true
 | [],_,h,_=>by cases h;exact⟨rfl,rfl⟩
 |d::ds,_,⟨x,ys,hx,h1,h2⟩,f=>by
  rw[ybt,yaj]at f
  obtain⟨e1,e2⟩:=qgz h1 f.1
  obtain⟨e3,e4⟩:=qbG h2 f.2
  subst hx
  rw[mC_,<-e1,<-e3,ybt,e2,e4]
  exact⟨rfl,rfl⟩
theorem qjR {K:Fr0} {A:Addr->Prop} {H:Hp} {x y:D} {ds:List D} {v u:V} (ix:Is K A H x v) (iy:Is K A H y u) (e:sqD y=some ds) (f:(flD x&&ds.all flD)=true) :
  ∃p xs,u=.ref p/\(SqL K H p xs\/SqT K H p xs)/\vw v=true/\xs.all vw=true/\inV v xs=ds.any λd=>eqV (vD d) (vD x):=by
 rw[yaj]at f
 obtain⟨e1,e2⟩:=qgz ix f.1
 cases y<;>simp only[sqD]at e<;>try (cases e;done)
 ·cases e
  obtain⟨a,zs,rfl,ta,il⟩:=iy
  obtain⟨e3,e4⟩:=qbG il f.2
  exact⟨a,zs,rfl,.inr ta.sq,e2,e4,by rw[e3,e1];unfold inV;rw[List.any_map];rfl⟩
 ·cases e
  obtain⟨a,zs,rfl,_,ta,il⟩:=iy
  obtain⟨e3,e4⟩:=qbG il f.2
  exact⟨a,zs,rfl,.inl (SqL.of ta),e2,e4,by rw[e3,e1];unfold inV;rw[List.any_map];rfl⟩
theorem qjS {K:Fr0}:OpS K inD (rIn K false):=by
 intro A H x y d v u Q hn ix iy e k
 unfold inD at e
 split at e
 ·rename_i ds es
  obtain⟨e1,e2⟩:=zj e
  subst e2
  obtain⟨p,xs,h1,h2,h3,h4,h5⟩:=qjR ix iy es e1
  exact⟨p,xs,h1,h2,h3,h4,by rw[<-h5]at k;exact k _ H (zG.refl H) rfl⟩
 ·cases e
theorem qhP {l:M (List D)} {Z:Env}:qhO l Z=match l Z with|.ok (d,Z1)=>(match qhN d with|some ds => .ok (ds,Z1)|none => .bad)|.exc x Z' => .exc x Z'|.bad => .bad:=by
 simp only[qhO,bnd]
 cases l Z with
 |ok z=>obtain⟨z1,Z1⟩:=z;(dsimp only;cases qhN z1<;>rfl)
 |exc x Z'=>rfl
 |bad=>rfl
section
variable{X:Cx}{tg iter elt:Expr}{ifs:List Expr}{scope:Scope}{pos:Pos}{wi:TI}{N':List Str}{nt:Nat}{fr:List Nat}
end
section
variable{X:Cx}{c:Fc}
end
def qlj:List Int->Int
 | []=>0
 | [n]=>n
 |n::m::ns=>max n (qlj (m::ns))
section
variable{X:Cx}
end
def qmM:List D->Option D
 | [.lst ds]=>match yJ ds with
  |some (n::ns)=>some (.int (qlj (n::ns)))
  |_=>none
 |_=>none
def qjT (t:M Bool) (b:MS):Nat->MS
 |0,_ => .bad
 | n+1,Z=>match t Z with
  |.ok (true,Z1)=>match b Z1 with
   |.ok (.nx Z2)=>qjT t b n Z2
   |.ok (.ct Z2)=>qjT t b n Z2
   |.ok (.bk Z2) => .ok (.nx Z2)
   |.ok (.rt d Z2) => .ok (.rt d Z2)
   |.exc x Z2 => .exc x Z2
   |.bad => .bad
  |.ok (false,Z1) => .ok (.nx Z1)
  |.exc x Z1 => .exc x Z1
  |.bad => .bad
open Classical in
section
variable{X:Cx}{c:Fc}{pos:Pos}
end
def qkL(K:Fr0)(a:Addr)(ns:List Int):Prop:=∃(o:Obj)(its:Array Value)(n:Nat),K.lookup a=some o/\o.cls=.type "tuple"/\o.data=.seq its n/\its.size<=yas/\qK (ns.map V.int) its.toList
theorem qkL.is{K:Fr0}{a:Addr}{ns:List Int}(h:qkL K a ns)(H:Hp)(A:Addr->Prop):Is K A H (.tup (ns.map .int)) (.ref a):=⟨a,_,rfl,.inr h,qar ns⟩
theorem qfI {X:Cx} {c:Fc} {x:Str} {a:Addr} {ns:List Int} {pos:Pos} (hg:Gl X x) (hm:X.mg x=some (.ref a)) (ht:qkL X.K a ns) (hdb:(x==("__debug__":Str))=false:=by decide):DE X c (.Name x pos) (ret (.tup (ns.map .int))) :=
 qdS (v:=.ref a) hg hm rfl (λH A=>ht.is H A) hdb
def qat (h:Heap) (e T:Addr) (cls:Value):Prop :=
 ∃oe vs oT ts a0,h.get? e=some oe/\(oe.cls=cls/\vs[2]? = some .none/\vs[0]? = some a0)/\oe.data=.fields vs/\vs[1]? = some (.ref T)/\T≠e/\h.get? T=some oT/\oT.data=.fields ts/\ts[3]? = some .none
def CX1 (P:yap) (w:World):CXT:=λouter H s E u s'=>∃e T C H',u=.ref e/\s'.os=s.os/\yb8 s'.gens/\Un (frs outer) [] H H' s.heap s'.heap/\HOk P w H' s'.heap /\
 s.heap.get? e=none/\s.heap.get? T=none/\H' e=none/\H' T=none/\qat s'.heap e T (.ref C)/\E (.ref C) none H'
structure Lft (h h':Heap) (ch fs:List Addr):Prop where
 keep:∀b o,b ∉ ch->b ∉ fs->h.get? b=some o->h'.get? b=some o
 slot:∀b o,b∈fs->h.get? b=some o->∃sl,h'.get? b=some {o with slots:=sl}
section
variable{M:Model}{A:yar}{E:Value->yab->Prop}{s:yab}
abbrev u5:Obj->Obj:=yeJ (·.setIfInBounds 3 yau)
theorem qhQ {base:Heap} {l:List yaG} {h:Heap} {b:Addr} {o:Obj} {vs:Array Value} (hl:h.FunFrames base l) (hb:h.get? b=some o) (hd:o.data=.fields vs):b ∉ frs l:=λz=>by
 obtain⟨_,o',ho',hn⟩:=hl.mem z
 rw[hb]at ho'
 cases ho'
 exact hn vs hd
theorem qch {e T:Addr} {oe oT:Obj} {vs ts:Array Value} {Q:Unit->yab->Prop} (he:s.heap.get? e=some oe) (hd:oe.data=.fields vs) (h1:vs[1]? = some (.ref T)) (hT:s.heap.get? T=some oT) (hdT:oT.data=.fields ts) (h3:3<ts.size)
  (k:Q () {s with heap:=s.heap.update T u5}):wpAny M A (ycV (.ref e) none) Q E s:=by
 unfold ycV
 refine yaa (yaz he hd h1 ?_)
 have t:(yad T != yau)=true:=by simp
 rw[if_pos t]
 exact yb3 hT hdT h3 k
theorem u6 {h:Heap} {T:Addr} {oT:Obj} {ts:Array Value} (hT:h.get? T=some oT) (hdT:oT.data=.fields ts) (h3:3<ts.size):∃o2 t2,(h.update T u5).get? T=some o2/\o2.data=.fields t2/\t2[3]? = some .none :=
 ⟨_,_,Heap.get?_update_self _ hT (ycT (ybC hdT _)),ybC hdT _,by simp[h3]⟩
theorem qY{h:Heap}{T b:Addr}(n:b≠T):(h.update T u5).get? b=h.get? b:=Heap.get?_update_other _ _ (ya2 n)
theorem qfJ {base:Heap} {env:yaG} {outer:List yaG} {L e:Addr} {oe:Obj} {vs:Array Value} {head:Value} {had:Bool} {Q:Unit->yab->Prop} (hfr:A.frames=some (env::outer)) (hl:s.heap.FunFrames base (env::outer)) (hf:env.frame=some L)
  (he:s.heap.get? e=some oe) (hd:oe.data=.fields vs) (h1:1<vs.size)
  (k:∀h' T,s.heap.get? T=none->T≠e->(∀b o,b≠e->b ∉ frs (env::outer)->s.heap.get? b=some o->h'.get? b=some o)->(∀b o,b∈frs (env::outer)->s.heap.get? b=some o->∃sl,h'.get? b=some {o with slots:=sl}) ->
   h'.get? e=some (yeJ (·.setIfInBounds 1 (yad T)) oe)->(∃oT ts,h'.get? T=some oT/\oT.data=.fields ts/\3<ts.size)->h'.FunFrames base (env::outer)->Q () {s with heap:=h' }) :
  wpAny M A (do let a <-frameOf env;let pl <-entryPlaceOf L had;let b <-yda head a .none (ybA L) .none pl;setField (.ref e) 1 b) Q E s:=by
 have hene:=qhQ hl he hd
 refine yaa (wpAny_frameOf_fun hfr hl hf λhX hs1=>yaa (wpAny_entryPlaceOf λpl hpl=>?_))
 unfold yda newFields
 have he1:hX.get? e=some oe:=(hs1.2.1 e hene).trans he
 refine yaa (yaM ?_ (hpl.sizeOk5 _ _ _ _ _))
 generalize hob:({cls:=yaR "traceback",dict:=none,data:=ycA ([head,yad L,yau,ybA L,yau]++(if pl.isEmpty then yag 6 yau else pl)).toArray}:Obj)=ob
 have nT:hX.objs.size≠e:=ycX (yac he1)
 have hnT:s.heap.get? hX.objs.size=none:=by
  cases q:s.heap.get? hX.objs.size with
  |none=>rfl
  |some o=>
   obtain⟨sl,q'⟩:=hs1.2.2 _ o q
   exact absurd (yac q') (ybc _)
 refine yb3 (Heap.get?_push_of_some _ he1) hd h1 ?_
 have keep:∀b o,b≠e->hX.get? b=some o->((hX.push ob).update e (yeJ (·.setIfInBounds 1 (yad hX.objs.size)))).get? b=some o:=λb o hb q=>(Heap.get?_update_other _ _ (ya2 hb)).trans (Heap.get?_push_of_some _ q)
 refine k _ hX.objs.size hnT nT (λb o hb hf q=>keep b o hb ((hs1.2.1 b hf).trans q)) (λb o hb q=>?_) (Heap.get?_update_self _ (Heap.get?_push_of_some _ he1) (ycT (ybC hd _))) ⟨ob,([head,yad L,yau,ybA L,yau]++(if pl.isEmpty then yag 6 yau else pl)).toArray,?_,by rw[<-hob],by simp⟩ (hl.of_keeps λb o q hn=>?_)
 ·obtain⟨sl,q'⟩:=hs1.2.2 b o q
  exact⟨sl,keep b _ (λz=>hene (z▸hb)) q'⟩
 ·exact(Heap.get?_update_other _ _ (ya2 nT)).trans (Heap.get?_push_size _ (by rw[<-hob];rfl))
 ·obtain⟨sl,q'⟩:=hs1.2.2 b o q
  exact⟨_,keep b _ (λz=>by subst z;rw[he]at q;cases q;exact hn vs hd) q',rfl⟩
theorem qci {base:Heap} {env:yaG} {outer:List yaG} {L e:Addr} {oe:Obj} {vs:Array Value} {a0 head:Value} {had:Bool} {Q:Unit->yab->Prop} (hfr:A.frames=some (env::outer)) (hl:s.heap.FunFrames base (env::outer)) (hf:env.frame=some L)
  (he:s.heap.get? e=some oe) (hd:oe.data=.fields vs) (h1:1<vs.size) (h2:vs[2]? = some .none) (h0:vs[0]? = some a0)
  (k:∀h' T',Lft s.heap h' [e] (frs (env::outer))->qat h' e T' oe.cls->s.heap.get? T'=none->Q () {s with heap:=h' }) :
  wpAny M A (do let a <-frameOf env;let pl <-entryPlaceOf L had;let b <-yda head a .none (ybA L) .none pl;setField (.ref e) 1 b) (λ_ s'=>wpAny M A (ycV (.ref e) none) Q E s') E s:=by
 refine qfJ hfr hl hf he hd h1 λh' T nT ne kp sl ee eT _=>?_
 obtain⟨oT,ts,gT,dT,sT⟩:=eT
 have dd:=ybC hd (·.setIfInBounds 1 (yad T))
 refine qch (s:={s with heap:=h' }) ee dd (by simp[h1]) gT dT sT ?_
 obtain⟨o2,t2,q1,q2,q3⟩:=u6 gT dT sT
 have nf:∀b o,s.heap.get? b=some o->b≠T:=λb o q z=>by rw[z,nT]at q;cases q
 refine k _ T ⟨λb o hb hf q=>(qY (nf b o q)).trans (kp b o (by simpa using hb) hf q),λb o hb q=>?_⟩ ⟨_,_,o2,t2,a0,(qY (ya2 ne)).trans ee,⟨yfn _ _,?_,?_⟩,dd,by simp[h1],ne,q1,q2,q3⟩ nT
 ·obtain⟨sl,q'⟩:=sl b o hb q
  exact⟨sl,(qY (nf b o q)).trans q'⟩
 ·rw[Array.getElem?_setIfInBounds_ne (by decide)];exact h2
 ·rw[Array.getElem?_setIfInBounds_ne (by decide)];exact h0
theorem wx {base:Heap} {env:yaG} {outer:List yaG} {L e T:Addr} {cls:Value} {Q:Unit->yab->Prop} (hfr:A.frames=some (env::outer)) (hl:s.heap.FunFrames base (env::outer)) (hf:env.frame=some L) (F:qat s.heap e T cls)
  (k:∀h' T',Lft s.heap h' [e,T] (frs (env::outer))->qat h' e T' cls->(T'=T\/s.heap.get? T'=none)->Q () {s with heap:=h' }) :
  wpAny M A (ydk (.ref e) env) (λ_ sV=>wpAny M A (ycV (.ref e) none) Q E sV) E s:=by
 obtain⟨oe,vs,oT,ts,a0,he,⟨hc,h2,h0⟩,hd,h1,hne,hT,hdT,h3⟩:=F
 subst hc
 have z3:3<ts.size:=(Array.getElem?_eq_some_iff.mp h3).1
 have z1:1<vs.size:=(Array.getElem?_eq_some_iff.mp h1).1
 have tT:(yad T != yau)=true:=by simp
 have tL:¬((yau==ybA L)=true):=by simp[ybA]
 have nf:=qhQ hl hT hdT
 unfold ydk
 simp only[hf]
 refine yaa (yaz he hd h1 ?_)
 rw[if_pos tT]
 refine yaa (yaz hT hdT h3 ?_)
 rw[if_neg tL]
 refine yaa (yb3 hT hdT z3 ?_)
 have hl1:(s.heap.update T u5).FunFrames base (env::outer):=hl.of_keeps λb o q hn=>⟨o,(qY λz=>by subst z;rw[hT]at q;cases q;exact hn ts hdT).trans q,rfl⟩
 refine qci (s:={s with heap:=s.heap.update T u5}) hfr hl1 hf ((qY (ya2 hne)).trans he) hd z1 h2 h0 λh' T' x y z=>?_
 refine k h' T' ⟨λb o hb hf q=>?_,λb o hb q=>?_⟩ y (.inr ?_)
 ·simp only[yao,nN_,or_false,not_or]at hb
  exact x.keep b o (by simpa using hb.1) hf ((qY hb.2).trans q)
 ·exact x.slot b o hb ((qY λ(z:b=T)=>nf (z▸hb)).trans q)
 ·by_cases e2:T'=T
  ·subst e2
   obtain⟨_,_,q,_⟩:=u6 hT hdT z3
   have z':(s.heap.update T' u5).get? T'=none:=z
   rw[q]at z';cases z'
  ·exact(qY e2).symm.trans z
theorem qc9 {base:Heap} {env:yaG} {outer:List yaG} {L e T:Addr} {cls:Value} {Q:Unit->yab->Prop} (hfr:A.frames=some (env::outer)) (hl:s.heap.FunFrames base (env::outer)) (hf:env.frame=some L) (F:qat s.heap e T cls)
  (k:∀h' T',Lft s.heap h' [e,T] (frs (env::outer))->qat h' e T' cls->(T'=T\/s.heap.get? T'=none)->Q () {s with heap:=h' }):wpAny M A (ydd env (.ref e)) Q E s:=by
 unfold ydd
 exact yaa (wx hfr hl hf F k)
theorem qda {base h:Heap} {env:yaG} {outer:List yaG} {L e:Addr} {cls:Value} {args:List Value} {Q:Unit->yab->Prop} (hfr:A.frames=some (env::outer)) (hl:h.FunFrames base (env::outer)) (hf:env.frame=some L) (hx:yer h s.heap e cls args)
  (k:∀h' T',Lft s.heap h' [e] (frs (env::outer))->qat h' e T' cls->s.heap.get? T'=none->Q () {s with heap:=h' }):wpAny M A (ydd env (.ref e)) Q E s:=by
 obtain⟨t,he,htn,ht⟩:=hx.there
 have hl1:s.heap.FunFrames base (env::outer):=hl.of_keeps λb o q _=>⟨o,hx.keeps b o q,rfl⟩
 unfold ydd ydk
 simp only[hf]
 refine yaa (yaa (yaz he rfl (x:=.none) rfl ?_))
 rw[if_neg (by decide)]
 exact qci hfr hl1 hf he rfl (of_decide_eq_true rfl) rfl rfl k
theorem qac {base:Heap} {l:List yaG} {e T:Addr} {cls:Value} {Q:Unit->yab->Prop} (hl:s.heap.FunFrames base l) (F:qat s.heap e T cls)
  (k:∀h' T',Lft s.heap h' [e,T] (frs l)->qat h' e T' cls->(T'=T\/s.heap.get? T'=none)->Q () {s with heap:=h' }) :
  wpAny M A (ycV (.ref e) none) Q E s:=by
 obtain⟨oe,vs,oT,ts,a0,he,hc,hd,h1,hne,hT,hdT,h3⟩:=F
 have z3:3<ts.size:=(Array.getElem?_eq_some_iff.mp h3).1
 have nf:=qhQ hl hT hdT
 refine qch he hd h1 hT hdT z3 ?_
 obtain⟨o2,t2,q1,q2,q3⟩:=u6 hT hdT z3
 refine k _ T ⟨λb o hb _ q=>?_,λb o hb q=>⟨o.slots,(qY λ(z:b=T)=>nf (z▸hb)).trans q⟩⟩ ⟨oe,vs,o2,t2,a0,(qY (ya2 hne)).trans he,hc,hd,h1,hne,q1,q2,q3⟩ (.inl rfl)
 simp only[yao,nN_,or_false,not_or]at hb
 exact(qY hb.2).trans q
end
theorem qgA {P:yap} {w:World} {H:Hp} {h h':Heap} (x:HOk P w H h) (k:∀b o,(H b).isSome=true->h.get? b=some o->h'.get? b=some o):HOk P w H h':=λa o e=>
 (x a o e).stay (λb u hb q=>k b u (by
   rcases hb with rfl|hb;· rw[e];rfl
   ·rw[hb];rfl) q) (λ_ z=>z) λ_ _ z=>z
theorem jS {P:yap} {w:World} {H:Hp} {h:Heap} {a:Addr} {o:HO} (x:jx P w H h a o):∃u,h.get? a=some u:=by
 cases o with
 |lst xs=>obtain⟨_,_,_,_,e⟩:=x;exact⟨_,e⟩
 |tup xs=>obtain⟨_,_,_,ob,e,_⟩:=x;exact⟨_,e⟩
 |dK kvs=>obtain⟨_,_,_,_,o,_,_,e,_⟩:=x;exact⟨_,e⟩
 |dT kvs=>obtain⟨_,_,_,_,o,_,_,e,_⟩:=x;exact⟨_,e⟩
 |set S n=>obtain⟨o,_,_,_,e,_⟩:=x;exact⟨_,e⟩
 |ins C dx fs=>obtain⟨_,_,_,e,_⟩:=x;exact⟨_,e⟩
 |own y=>obtain⟨_,e⟩:=x;exact⟨_,e⟩
 |xd fs=>obtain⟨_,⟨_,_,_,e,_⟩,_⟩:=x;exact⟨_,e⟩
 |rng lo hi=>obtain⟨_,_,_,e⟩:=x;exact⟨_,e⟩
 |frz ob u=>obtain⟨e,_⟩:=x;exact⟨_,e⟩
 |tbl ps=>exact⟨_,(show h.get? a=some _ from x)⟩
 |met f y=>exact⟨_,(show h.get? a=some _ from x)⟩
 |ext φ=>obtain⟨_,e,_⟩:=x;exact e
 |lam pos q=>rcases x with e|⟨_,_,_,_,_,_,_,e⟩<;>exact⟨_,e⟩
section
variable{X:Cx}{pins:List (Addr×Obj)}{σ:St}{H:Hp}{s:yab}
theorem qcj {H':Hp} {s':yab} {h':Heap} {ch:List Addr} (I:Inv X pins σ H s) (hs:X.stack=X.env::X.outer) (hf:X.env.frame=some X.env.locals) (hex:X.ex=[])
  (u:Un (frs X.stack) [] H H' s.heap s'.heap) (hok:HOk X.prog X.w H' s'.heap) (hch:∀b∈ch,H' b=none) (hchn:∀b∈ch,s.heap.get? b=none) (x:Lft s'.heap h' ch (frs X.stack)) :
  Un (frs X.outer) [] X.H₀ H' X.s₀.heap h'/\HOk X.prog X.w H' h':=by
 have hfs:frs X.stack=X.env.locals::frs X.outer:=by rw[hs];unfold frs;rw[ybv,hf]
 have hb:=I.base
 rw[hex]at hb
 have nL:∀b o,X.s₀.heap.get? b=some o->b≠X.env.locals:=λb o q z=>absurd (yat (yac q) (z▸I.ok.above)) (ybc _)
 have nch:∀b o,X.s₀.heap.get? b=some o->b ∉ ch:=λb o q z=>by
  obtain⟨o',q'⟩:=hb.there b o q (by simp)
  rw[hchn b z]at q';cases q'
 have nfs:∀b o,X.s₀.heap.get? b=some o->b ∉ frs X.outer->b ∉ frs X.stack:=λb o q z y=>by
  rw[hfs]at y
  exact(List.mem_cons.mp y).elim (nL b o q) z
 have yfs:∀b,b∈frs X.outer->b∈frs X.stack:=λb z=>by rw[hfs];exact mM _ z
 refine⟨⟨λb o q n hb1 _=>?_,λb o q n hb1 _=>?_,λb o q n _=>?_,λb o q _=>?_,λb xs q=>u.tups b xs (hb.tups b xs q),λb o v q=>u.frzs b o v (hb.frzs b o v q),λb ps y q=>u.tbls b ps y (hb.tbls b ps y q)⟩,?_⟩
 ·exact x.keep b o (nch b o q) (nfs b o q hb1) (u.keep b o (hb.keep b o q n hb1 (by simp)) (hb.free b o q n (by simp)) (nfs b o q hb1) (by simp))
 ·obtain⟨sl,q1⟩:=hb.slot b o q n hb1 (by simp)
  obtain⟨sl2,q2⟩:=u.slot b _ q1 (hb.free b o q n (by simp)) (yfs b hb1) (by simp)
  obtain⟨sl3,q3⟩:=x.slot b _ (yfs b hb1) q2
  exact⟨sl3,q3⟩
 ·obtain⟨o',q'⟩:=hb.there b o q (by simp)
  exact u.free b o' q' (hb.free b o q n (by simp)) (by simp)
 ·obtain ⟨o1,q1⟩:=hb.there b o q (by simp)
  obtain⟨o2,q2⟩:=u.there b o1 q1 (by simp)
  by_cases hb1:b∈frs X.stack
  ·obtain⟨sl,q3⟩:=x.slot b o2 hb1 q2
   exact⟨_,q3⟩
  ·exact⟨o2,x.keep b o2 (nch b o q) hb1 q2⟩
 ·refine qgA hok λb o hb1 q=>x.keep b o (λz=>?_) (λz=>?_) q
  ·rw[hch b z]at hb1;cases hb1
  ·obtain⟨_,o1,ho1,_⟩:=I.stack.mem z
   rw[u.free b o1 ho1 (I.stkFree b z) (by simp)]at hb1
   cases hb1
theorem qhR {s':yab} {E:XK} {u:Value} {A:yar} (I:Inv X pins σ H s) (hs:X.stack=X.env::X.outer) (hf:X.env.frame=some X.env.locals) (hex:X.ex=[]) (hA:A.frames=some X.stack) (x:CX1 X.prog X.w X.stack H s E u s') {E':Value->yab->Prop} :
  wpAny (model X.prog X.w) A (ydd X.env u) (λ_ s''=>CX1 X.prog X.w X.outer X.H₀ X.s₀ E u s'') E' s':=by
 obtain⟨e,T,C,H',rfl,os,bare,un,hok,he,hT,hHe,hHT,F,q⟩:=x
 have hl:s'.heap.FunFrames X.base X.stack:=by
  have h0:=I.stack
  have all:∀(l:List yaG),(∀b∈frs l,b∈frs X.stack)->s.heap.FunFrames X.base l->s'.heap.FunFrames X.base l:=by
   intro l
   induction l with
   |nil=>intro _ _;trivial
   |cons env r ih=>
    intro hss hl
    obtain⟨hk,⟨L,o,hf',hn,ho,hd⟩,hr⟩:=hl
    have hfr:frs (env::r)=L::frs r:=by unfold frs;rw[ybv,hf']
    rw[hfr]at hss
    have hL:=hss L mS_
    obtain⟨sl,e⟩:=un.slot L o ho (I.stkFree L hL) hL (by simp)
    exact⟨hk,⟨L,_,hf',hn,e,hd⟩,ih (λb hb=>hss b (mM _ hb)) hr⟩
  exact all X.stack (λ_ z=>z) h0
 rw[hs]at hl hA
 refine qc9 hA hl hf F λh' T' y1 y2 y3=>?_
 rw[<-hs]at y1
 have hz:∀b∈[e,T],H' b=none:=λb hb=>by
  simp only[yao,nN_,or_false]at hb
  rcases hb with rfl|rfl
  ·exact hHe
  ·exact hHT
 have hzn:∀b∈[e,T],s.heap.get? b=none:=λb hb=>by
  simp only[yao,nN_,or_false]at hb
  rcases hb with rfl|rfl
  ·exact he
  ·exact hT
 obtain⟨z1,z2⟩:=qcj I hs hf hex un hok hz hzn y1
 have up:∀b,s.heap.get? b=none->X.s₀.heap.get? b=none:=λb hb=>by
  cases q:X.s₀.heap.get? b with
  |none=>rfl
  |some o=>
   obtain⟨o',q'⟩:=I.base.there b o q (by rw[hex];simp)
   rw[hb]at q';cases q'
 have up':∀b,s'.heap.get? b=none->s.heap.get? b=none:=λb hb=>by
  cases q:s.heap.get? b with
  |none=>rfl
  |some o=>
   obtain⟨o',q'⟩:=un.there b o q (by simp)
   rw[hb]at q';cases q'
 have hT2:s.heap.get? T'=none:=y3.elim (λz=>z▸hT) (up' T')
 have hHT2:H' T'=none:=y3.elim (λz=>z▸hHT) λz=>by
  cases q:H' T' with
  |none=>rfl
  |some o=>
   obtain⟨o',q'⟩:=jS (hok _ _ q)
   rw[z]at q';cases q'
 exact⟨e,T',C,H',rfl,os.trans I.os,bare,z1,z2,up e he,up T' hT2,hHe,hHT2,y2,q⟩
end
structure XC (base:Heap) (C:Addr) (bm:List Value):Prop where
 hasBase:bm.contains (.type "BaseException")=true
 ex:∃nm q N bs hdct sn sub ab col dd k0 k1 k2 k3 k5 newId initId B bmB mN,base.get? C=some (yft nm q C N bs bm hdct sn sub ab col dd k0 k1 k2 k3 k5 newId)/\base.Ns N mN/\mN "__init__"=none/\OwnTail base bmB bm/\ExcBaseFacts B newId initId bmB
def wy (n p:Nat) (body:MS) (ds:List D):R D:=if ds.length=p then match body (jA n ds) with
 |.ok (.rt d _) => .ok d
 |.ok (.nx _) => .ok .non
 |.exc x Z => .exc x Z
 |_ => .bad else .bad
section
variable{X:Cx}{c:Fc}{e:Expr}{es:List Expr}{pos cpos np:Pos}
theorem qfK {x:Str} {C:Addr} {bm:List Value} {t:TA} {E:XK} (hc:X.calm=true) (hg:Gl X x) (hm:X.mg x=some (.ref C)) (xc:XC X.base C bm) (ha:PA X (e::es) t)
  (made:∀pins σ H s h' a us,Inv X pins σ H s->yer s.heap h' a (.ref C) us->E (.ref C) none H->X.xe (.ref a) {s with heap:=h' })
  (hd:(x==("__debug__":Str))=false:=by decide) (he:yae (e::es) X.env=(false,eval e X.env)::yae es X.env:=by rfl) (hpl:(yaO cpos (yae es X.env)).any (·.1)=false:=by rfl) :
  PS X (.Raise (some (.Call (.Name x np) (e::es) [] cpos)) none pos) (λ_ σ H=>t σ H λvs H1=>vs.length<=yas/\E (.ref C) none H1):=by
 intro pins s σ H D I h
 obtain⟨nm,q,N,bs,hdct,sn,sub,ab,col,dd,k0,k1,k2,k3,k5,newId,initId,B,bmB,mN,hC,hN,hni,T,FB⟩:=xc.ex
 refine wpAny_Raise_call_subT (C:=C) (nm:=nm) (q:=q) (N:=N) (bs:=bs) (bm:=bm) (hdct:=hdct) (sn:=sn) (sub:=sub) (ab:=ab) (col:=col) (dd:=dd) (k0:=k0) (k1:=k1) (k2:=k2) (k3:=k3) (k5:=k5)
  FB (mN:=mN) xc.hasBase (I.ok.hd hc) (by rw[he];show(false||(yaO cpos (yae es X.env)).any (·.1))=false;rw[hpl];rfl) hni ?_
 have hn:PE X (.Name x np) (λ_ H Q=>Q (.ref C) H):=qbw hg hm rfl hd
 refine thn (hn pins s σ H (λv H1=>v=.ref C/\H1=H) I ⟨rfl,rfl⟩) λf s1 h1=>?_
 obtain⟨v,H1,I1,rv,rfl,rfl⟩:=h1
 refine⟨rv,?_⟩
 have h2:=ha cpos pins s1 σ _ _ I1 h
 rw[he]at h2 |-
 refine yeA (thn h2 λvs s2 h3=>?_)
 obtain⟨ws,H2,I2,r2,hl,hE⟩:=h3
 refine⟨rfl,by rw[<-r2.length];exact hl,I2.bk _ _ hC,hN.keeps I2.bk,T.keeps I2.bk,λh' a hx=>made pins σ H2 s2 h' a vs I2 hx hE⟩
structure XL (X:Cx) (c:Fc) (cl:Str->Option Addr) (E:XK):Prop where
 made:∀C pins σ H s h' a us,Inv X pins σ H s->yer s.heap h' a (.ref C) us->E (.ref C) none H->X.xe (.ref a) {s with heap:=h' }
 pass:vR (CX1 X.prog X.w) X E
 wish:∀x C H',cl x.cls=some C->c.E x H'->E (.ref C) none H'
structure XL2 (X:Cx) (c:Fc) (cl:Str->Option Addr) (E:XK):Prop where
 pass:vR (CX1 X.prog X.w) X E
 wish:∀x C H',cl x.cls=some C->c.E x H'->E (.ref C) none H'
theorem XL.two{X:Cx}{c:Fc}{cl:Str->Option Addr}{E:XK}(L:XL X c cl E):XL2 X c cl E:=⟨L.pass,L.wish⟩
def wz (x:Str) (f:M (List D)):MS:=λZ=>match f Z with
 |.ok (ds,Z')=>if qC ds.length then .exc ⟨x,.non⟩ Z' else .bad
 |.exc z Z' => .exc z Z'
 |.bad => .bad
theorem vI {x:Str} {C:Addr} {bm:List Value} {f:M (List D)} {E:XK} {cl:Str->Option Addr} (hc:X.calm=true) (L:XL X c cl E) (hcl:cl x=some C) (hg:Gl X x) (hm:X.mg x=some (.ref C)) (xc:XC X.base C bm) (ha:DA X c (e::es) f)
  (hd:(x==("__debug__":Str))=false:=by decide) (he:yae (e::es) X.env=(false,eval e X.env)::yae es X.env:=by rfl) (hpl:(yaO cpos (yae es X.env)).any (·.1)=false:=by rfl) :
  DS X c (.Raise (some (.Call (.Name x np) (e::es) [] cpos)) none pos) (wz x f):=by
 obtain⟨t,pa,w⟩:=ha
 refine⟨_,qfK (E:=E) hc hg hm xc pa (L.made C) hd he hpl,λZ σ H D r h=>w Z σ H _ r ?_⟩
 unfold wz at h
 cases ef:f Z with
 |bad=>rw[ef]at h;exact h
 |exc z Z'=>rw[ef]at h;exact λH' r' g'=>h σ H' r' g'.s
 | ok p=>
  obtain⟨ds,Z'⟩:=p
  rw[ef]at h
  intro vs H' r' i' g'
  by_cases hs:qC ds.length=true
  ·simp only[hs,if_true]at h
   exact⟨by rw[i'.length];exact of_decide_eq_true hs,L.wish ⟨x,.non⟩ C H' hcl (h σ H' r' g'.s)⟩
  ·simp only[hs]at h
   exact h.elim
def spX (K:Fr0) (cl:Str->Option Addr) (F:List D->R D):Sp:=λvs H Q E=>∃ds A,IsL K A H ds vs/\qan K H/\match F ds with
 |.ok d=>∀v H',zG H H'->Is K (λa=>A a\/H a=none) H' d v->Q v H'
 |.exc x _=>∃C,cl x.cls=some C/\∀H',zG H H'->E (.ref C) none H'
 |.bad=>False
def jT (RN:List Str) (F:List D->R D) (g:M (List D)):M D:=bnd g λds Z=>match F ds with
 |.ok d => .ok (d,Z)
 |.exc x _=>if RN.contains x.cls then .exc x Z else .bad
 |.bad => .bad
theorem qfL {k:Nat} {f:Addr} {fd:yaN} {ps:List Str} {F:List D->R D} {x:Str} {p:Pos} {g:M (List D)} {E:XK} {cl:Str->Option Addr} (L:XL2 X c cl E) {RN:List Str} (hcl:∀n,RN.contains n=true->(cl n).isSome=true)
  (G:uv X.prog X.w X.K X.mg X.base (CX1 X.prog X.w) k f fd ps (spX X.K cl F)) (hr:yn k X.A) (hg:Gl X x) (hm:X.mg x=some (.ref f)) (hk:yam X.K (.ref f)=true) (hb:yF X.K fd ps [])
  (ha:DA X c (e::es) g) (hd:(x==("__debug__":Str))=false:=by decide) (he:yae (e::es) X.env=(false,eval e X.env)::yae es X.env:=by rfl) (hpl:(yaO pos (yae es X.env)).any (·.1)=false:=by rfl):DE X c (.Call (.Name x p) (e::es) [] pos) (jT RN F g):=by
 obtain⟨t,pa,w⟩:=ha
 refine⟨_,vS G hr hg hm hk hb .nil L.pass pa hd he hpl,λZ σ H Q r h=>w Z σ H _ r (WpL.bnd h λds Z1 vs H1 r1 i1 g1 h1=>?_)⟩
 rw[ya4]
 refine⟨ds,Cn c σ,i1,r1.tb,?_⟩
 cases ef:F ds with
 |bad=>simp only[ef]at h1;exact h1.elim
 |exc z Z'=>
  simp only[ef]at h1
  by_cases hz:RN.contains z.cls=true
  case neg=>rw[if_neg hz]at h1;exact h1.elim
  rw[if_pos hz]at h1
  obtain⟨C,hC⟩:=Option.isSome_iff_exists.mp (hcl z.cls hz)
  exact⟨C,hC,λH' sm=>L.wish z C H' hC (h1 H' (r1.same sm) (.of_same sm))⟩
 |ok d=>
  simp only[ef]at h1
  exact λv H' sm i=>h1 v H' (r1.same sm) (Is.ext Ext.refl (λa ha _=>ha.elim id r1.new) i) (.of_same sm)
def yP (F:List D->R D) (g:M (List D)):M D:=bnd g λds Z=>match F ds with
 |.ok d => .ok (d,Z)
 |_ => .bad
theorem qfM {k:Nat} {f:Addr} {fd:yaN} {ps:List Str} {F:List D->R D} {x:Str} {p:Pos} {g:M (List D)} {cl:Str->Option Addr}
  (G:uv X.prog X.w X.K X.mg X.base (CX1 X.prog X.w) k f fd ps (spX X.K cl F)) (hr:yn k X.A) (hg:Gl X x) (hm:X.mg x=some (.ref f)) (hk:yam X.K (.ref f)=true) (hb:yF X.K fd ps [])
  (ha:DA X c (e::es) g) (hd:(x==("__debug__":Str))=false:=by decide) (he:yae (e::es) X.env=(false,eval e X.env)::yae es X.env:=by rfl) (hpl:(yaO pos (yae es X.env)).any (·.1)=false:=by rfl):DE X c (.Call (.Name x p) (e::es) [] pos) (yP F g):=by
 obtain⟨t,pa,w⟩:=ha
 refine⟨_,vS (E:=λ_ _ _=>False) G hr hg hm hk hb .nil (λ_ _ _ _ _ _ _ ⟨_,_,_,_,_,_,_,_,_,_,_,_,_,_,z⟩=>z.elim) pa hd he hpl,λZ σ H Q r h=>w Z σ H _ r (WpL.bnd h λds Z1 vs H1 r1 i1 g1 h1=>?_)⟩
 rw[ya4]
 refine⟨ds,Cn c σ,i1,r1.tb,?_⟩
 cases ef:F ds with
 |bad=>simp only[ef]at h1;exact h1.elim
 |exc z Z'=>simp only[ef]at h1;exact h1.elim
 |ok d=>
  simp only[ef]at h1
  exact λv H' sm i=>h1 v H' (r1.same sm) (Is.ext Ext.refl (λa ha _=>ha.elim id r1.new) i) (.of_same sm)
end
section
variable{P:yap}{w:World}{K:yai}{mg:Str->Option Value}{base:Heap}
theorem wA {N:List Str} {qual:Str} {scope:Scope} {f:Addr} {cdv:Value} {A:yar} {outer:List yaG} {s:yab} {H:Hp} {E:XK} {c:Fc} {cl:Str->Option Addr} (hf:(ya0 qual scope s.heap.objs.size f cdv).frame=some s.heap.objs.size)
  (hw:∀x C H',cl x.cls=some C->c.E x H'->E (.ref C) none H'):XL (qeZ (CX1 P w) P w K mg base N qual scope f cdv A outer s H E) c cl E where
 made:=λC pins σ H1 s1 h' a us I hx hE=>by
  show wpAny (model P w) _ (ydd _ (.ref a)) _ _ _
  refine qda (s:={s1 with heap:=h' }) (h:=s1.heap) (base:=base) I.ok.frames I.stack hf hx λh2 T' y1 y2 y3=>?_
  have hn:H1 a=none:=by
   cases q:H1 a with
   |none=>rfl
   |some o=>
    obtain⟨o',q'⟩:=jS (I.hok _ _ q)
    rw[hx.new]at q';cases q'
  have hT:s1.heap.get? T'=none:=by
   cases q:s1.heap.get? T' with
   |none=>rfl
   |some o=>rw[show({s1 with heap:=h' }:yab).heap.get? T'=some o from hx.keeps _ _ q]at y3;cases y3
  have hHT:H1 T'=none:=by
   cases q:H1 T' with
   |none=>rfl
   |some o=>
    obtain⟨o',q'⟩:=jS (I.hok _ _ q)
    rw[hT]at q';cases q'
  have up:∀b,s1.heap.get? b=none->s.heap.get? b=none:=λb hb=>by
   cases q:s.heap.get? b with
   |none=>rfl
   |some o=>
    obtain⟨o',q'⟩:=I.base.there b o q (by show b ∉ ([]:List Addr);simp)
    rw[hb]at q';cases q'
  obtain⟨z1,z2⟩:=qcj (s':={s1 with heap:=h' }) I rfl hf rfl (Un.kept hx.keeps) (I.hok.kept hx.keeps) (λb hb=>by rw[ms_]at hb;subst hb;exact hn) (λb hb=>by rw[ms_]at hb;subst hb;exact hx.new) y1
  exact⟨a,T',C,H1,rfl,I.os,I.bare,z1,z2,up a hx.new,up T' hT,hn,hHT,y2,hE⟩
 pass:=λpins σ H1 s1 u s' I x=>qhR I rfl hf rfl I.ok.frames x
 wish:=hw
theorem wB {x qual:Str} {st:Stmt} {f:Addr} {fd:yaN} {N ps:List Str} {k:Nat} {O:List Nat} {body:MS} {cl:Str->Option Addr} (F:Fun K x qual st f fd) (S:qy N ps (qd st)) (hO:∀i∈O,ps.length<=i)
  (hb:∀(cdv:Value)(A:yar)(outer:List yaG)(s:yab)(H:Hp)(E:XK)(B:Addr->Prop),yn k (A.deeper (ya0 qual (qd st) s.heap.objs.size f cdv)) ->
   DSs (qeZ (CX1 P w) P w K mg base N qual (qd st) f cdv A outer s H E) (cfn O [] B H (λ_=>False) (λx H'=>∀C,cl x.cls=some C->E (.ref C) none H') λ_=>none) (qx st) body) :
  uv P w K mg base (CX1 P w) (k+1) f fd ps (spX K cl (wy N.length ps.length body)):=by
 obtain⟨oc,od,kV,doc,pm,an,cdv,ct,osl,rfl,lk,hcd⟩:=F.ex
 refine qi0 lk hcd S (λvs H Q E h=>?_) λA outer s H vs Q E hr h=>?_
 ·obtain⟨ds,B,il,_,h⟩:=h
  unfold wy at h
  by_cases e:ds.length=ps.length
  ·rw[il.length];exact e
  ·rw[if_neg e]at h;exact h.elim
 ·obtain ⟨ds,B,il,tb,h⟩:=h
  obtain⟨t,p,wt⟩:=hb cdv A outer s H E B hr
  refine⟨t,p,?_⟩
  unfold wy at h
  by_cases e:ds.length=ps.length
  ·rw [if_pos e]at h
   refine wt (jA N.length ds) (ze N vs) H _ (wn il tb (λi hi=>by rw[e];exact hO i hi)) ?_
   have same:∀{Z:Env}{σ:St}{H':Hp},Rep K (cfn O [] B H (λ_=>False) (λx H'=>∀C,cl x.cls=some C->E (.ref C) none H') λ_=>none) Z σ H'->zG H H':=λr b o hb=>r.kp b o hb λz=>z
   cases eb:body (jA N.length ds) with
   |bad=>rw[eb]at h;exact h.elim
   | exc z Z=>
    rw[eb]at h
    obtain⟨C,hC,h⟩:=h
    exact λσ' H' r' _ C' hC'=>by
     rw[hC]at hC';cases hC'
     exact h H' (same r')
   |ok fl=>
    rw[eb]at h
    cases fl with
    |nx Z=>exact λσ' H' r' _=>h .non H' (same r') rfl
    |rt d Z=>exact λv σ' H' r' i' _=>h v H' (same r') i'
    |bk Z=>exact h.elim
    |ct Z=>exact h.elim
  ·rw[if_neg e]at h;exact h.elim
structure yx (P:yap) (w:World) (K:yai) (mg:Str->Option Value) (base:Heap) (k:Nat) (x:Str) (ps:List Str) (sp:Sp):Prop where
 ex:∃f fd,uv P w K mg base (CX1 P w) k f fd ps sp/\mg x=some (.ref f)/\yam K (.ref f)=true/\yF K fd ps []
end
section
variable{M:Model}{A:yar}{E:Value->yab->Prop}
variable{nm q nm' q':Str}{C S N N':Addr}{bs bm bs' bm':List Value}{hdct hdct':Bool}{sn sn':List Str}{sub sub':List Value}{ab ab':Bool}{col col':Option Bool}{dd dd':Option Addr}{k0 k1 k2 k3 k5 j0 j1 j2 j3 j5:Option Value}{newId newId':String}
theorem y9 {h:Heap} {g:Array yfu} {d:Drawn} {t:Nat} {os:OsState} {e:Addr} {oe:Obj} {Q:Bool->yab->Prop}
  (hC:h.get? C=some (yft nm q C N bs bm hdct sn sub ab col dd k0 k1 k2 k3 k5 newId)) (hS:h.get? S=some (yft nm' q' S N' bs' bm' hdct' sn' sub' ab' col' dd' j0 j1 j2 j3 j5 newId'))
  (he:h.get? e=some oe) (hcls:oe.cls=.ref C) (hbase:bm'.contains (.type "BaseException")=true)
  (hq:Q ((yad C::bm).contains (.ref S)) ⟨h,g,d,t,os⟩):wpAny M A (excMatches (.ref e) (.ref S)) Q E ⟨h,g,d,t,os⟩:=by
 have hcB:(yad S::bm').contains (.type "BaseException")=true:=by rw[List.contains_cons,hbase,ye6]
 have f:=tc_notTuple
 unfold excMatches
 repeat (first|(with_reducible refine yfp he ?_;rw[hcls])|with_reducible refine yfp hS ?_|(with_reducible refine yeN hS ?_;rw[hcB])|with_reducible refine yeN hC ?_|wp_step)
 all_goals (first|exact hq|(cases hb:(yad C::bm).contains (.ref S)<;>(rw[hb]at hq;wp_walk;exact hq)))
end
end L2.Sk
namespace L2
open PySem PySem.Spec PyProof.Rows
def AloneA(A:yar)(H:Hp):Prop:=∃e oe u vs,A.handled=some (.ref e)/\H e=some (.frz oe u)/\oe.data=.fields vs/\vs[2]? = some .none
def qjU(A:yar)(sp:Sp)(dvs:List V)(E:XK)(t:TA):TE:=λσ H Q=>t σ H λvs H1=>AloneA A H1/\sp (vs++dvs) H1 Q E
structure yb (k:Nat) (A:yar):Prop where
 dp:A.depth+3*k+5<ydc
 un:A.units+16*k+200<cLine
 gd:A.guards=some []
theorem yb.mono{j k:Nat}{A:yar}(r:yb k A)(h:j<=k):yb j A:=⟨by have:=r.dp;omega,by have:=r.un;omega,r.gd⟩
theorem yb.deeper {k:Nat} {A:yar} (r:yb (k+1) A) (env:Env):yb k (A.deeper env) :=
 ⟨by have:=r.dp;show A.depth+1+3*k+5<_;omega,by have:=r.un;show A.units+3+16*k+200<_;omega,r.gd⟩
theorem yb.depth{k:Nat}{A:yar}(r:yb k A):A.depth<ydc:=by have:=r.dp;omega
structure qau (P:yap) (w:World) (K:yai) (mg:Str->Option Value) (base:Heap) (CX:CXT) (k:Nat) (f:Addr) (fd:yaN) (ps:List Str) (sp:Sp):Prop where
 len:∀vs H Q E,sp vs H Q E->vs.length=ps.length
 run:∀(A:yar)(outer:List Env)(s:yab)(H:Hp)(args:Args)(us:List Value)(vs:List V)(Q:VK)(E:XK),yb k A->AloneA A H->qit P w K mg base A outer s H->ydJ s fd args (ps.zip us)->qK vs us->sp vs H Q E ->
  ybp (model P w) A (.call (.ref f) args) (CR CX outer P w H s Q E) s
def qdb (CX:CXT) (P:yap) (w:World) (K:yai) (mg:Str->Option Value) (base:Heap) (N:List Str) (qual:Str) (scope:Scope) (f:Addr) (cd:Value) (A:yar) (outer:List Env) (s:yab) (H:Hp) (E:XK):Cx where
 prog:=P
 w:=w
 K:=K
 mg:=mg
 base:=base
 A:=A.deeper (ya0 qual scope s.heap.objs.size f cd)
 N:=N
 s₀:=s
 H₀:=H
 env:=ya0 qual scope s.heap.objs.size f cd
 outer:=outer
 stack:=ya0 qual scope s.heap.objs.size f cd::outer
 ex:=[]
 calm:=false
 fn:=λ_=>true
 pn:=[]
 xe:=λe s'=>wpAny (model P w) (A.deeper (ya0 qual scope s.heap.objs.size f cd)) (ydd (ya0 qual scope s.heap.objs.size f cd) e) (λ_ s''=>CX outer H s E e s'') (λe' s''=>CX outer H s E e' s'') s'
theorem qdc {CX:CXT} {P:yap} {w:World} {K:yai} {mg:Str->Option Value} {base:Heap} {N ps:List Str} {qual:Str} {scope:Scope} {f:Addr} {cd:Value} {A:yar} {outer:List Env} {s s1:yab} {H:Hp} {E:XK} {us:List Value} {vs:List V}
  (S:qy N ps scope) (e0:qit P w K mg base A outer s H) (hl:vs.length=ps.length) (r:qK vs us)
  (x:InCallC s s.heap.objs.size (bindL (ya0 qual scope s.heap.objs.size f cd).kindOf (ps.zip us) λ_=>none) (ycj (s.heap.objs.size+1) scope.names []) (bindC (ya0 qual scope s.heap.objs.size f cd).kindOf (ps.zip us) λ_=>none) s1) :
  Inv (qdb CX P w K mg base N qual scope f cd A outer s H E) [] (ze N vs) H s1:=by
 have hpl:ps.length<=N.length:=by have:=congrArg List.length S.pre;rw[ybx]at this;omega
 obtain⟨h1,tk,rfl,hk⟩:=x.done
 have noA:∀b:Addr,b ∉ (qdb CX P w K mg base N qual scope f cd A outer s H E).ex:=λb z=>absurd (show b∈([]:List Addr)from z) (by simp)
 refine ⟨⟨e0.mod,S.kind,rfl,rfl,yak _,λy z c h1 h2=>?_,λy hy=>?_,λy c _ h=>?_,(λz=>Bool.noConfusion z),yez e0.frames,.inr ⟨rfl,rfl⟩,λb z=>absurd z (noA b),e0.bs,e0.bsz,λb _ _=>noA b,λb z=>absurd z (noA b),e0.funs,e0.frf⟩,
  rfl,e0.bare,Un.kept hk,⟨_,x.toInCall.ns,λi y v h1 h2 h3=>?_⟩,λy c h=>⟨_,x.cell y c h⟩,e0.hok.fresh (yak _),λy c h=>?_,λp hp=>absurd (show p∈([]:List (Addr×Obj))from hp) (by simp),e0.hok.kept hk,?_⟩
 ·exact name_of_addr x.apart (yaL h1) (yaL h2)
 ·have hy:scope.names.lookup y=some .cell\/scope.names.lookup y=some .free:=hy
  rcases hy with hy|hy
  ·exact vy hy
  ·exact absurd rfl (S.nofree _ (yaL hy))
 ·exact ybN (x.above y c (yaL h))
 ·have hi:i<vs.length:=by
   unfold ze at h2
   by_cases hi:i<vs.length
   ·exact hi
   ·rw[List.getElem?_append_right (by simpa using hi)]at h2
    rw[List.getElem?_replicate]at h2
    split at h2<;>cases h2
  have ha:vs[i]? = some v:=by
   unfold ze at h2
   rw[List.getElem?_append_left (by simpa using hi),gM_]at h2
   cases e:vs[i]? with
   |none=>rw[e]at h2;cases h2
   |some a=>rw[e]at h2;cases h2;rfl
  obtain⟨u,hu,rv⟩:=r.get ha
  have hp:ps[i]? = some y:=by
   rw[<-S.pre,List.getElem?_take_of_lt (by omega)];exact h1
  have ndP:ps.Nodup:=by rw[<-S.pre];exact S.nd.sublist (yfk _ _)
  refine⟨u,rv,?_⟩
  rcases S.par y (ycY hp)with k|k
  ·exact .inl ⟨k,vT ndP hp hu k⟩
  ·obtain⟨c,e⟩:=vy (n:=s.heap.objs.size+1) k
   refine .inr ⟨.inl k,c,e,?_⟩
   have q:=x.cell y c e
   rw[vU ndP hp hu (by show scope.names.lookup y≠_;rw[k];decide)]at q
   exact q
 ·exact e0.hok.fresh (ybN (x.above y c (yaL h)))
 ·unfold ze
  show _=N.length
  rw[lA_,lM_,yaK]
  omega
theorem qjV {CX:CXT} {P:yap} {w:World} {K:yai} {mg:Str->Option Value} {base:Heap} {k:Nat} {f:Addr} {name qual:Str} {params:yd4} {body:List Stmt} {scope:Scope} {dV kV doc pm cdv ct oc:Value} {an od:Option Addr}
  {osl:Array (Option Value)} {N ps:List Str} {sp:Sp} (lk:K.lookup f=some ⟨oc,od,.func (yav name qual params body scope dV kV doc pm an cdv ct),osl⟩) (hcd:yaw K cdv qual=true) (S:qy N ps scope)
  (len:∀vs H Q E,sp vs H Q E->vs.length=ps.length)
  (hbody:∀(A:yar)(outer:List Env)(s:yab)(H:Hp)(vs:List V)(Q:VK)(E:XK),yb k (A.deeper (ya0 qual scope s.heap.objs.size f cdv))->AloneA (A.deeper (ya0 qual scope s.heap.objs.size f cdv)) H->sp vs H Q E ->
   ∃t,PSs (qdb CX P w K mg base N qual scope f cdv A outer s H E) body t/\t {nx:=λ_ H'=>Q .non H',rt:=Q} (ze N vs) H) :
  qau P w K mg base CX (k+1) f (yav name qual params body scope dV kV doc pm an cdv ct) ps sp:=by
 refine⟨len,λA outer s H args us vs Q E hr al e0 hb r hsp=>?_⟩
 have hl:=len _ _ _ _ hsp
 have KX:K.In s.heap:=e0.mod.kin.keeps λb o e=>(e0.bs b o e).1
 have lim:s.heap.NoLimit:=e0.mod.nolimit.keeps λb o e=>(e0.bs b o e).1
 have hkind:∀y∈ps.zip us,scope.names.lookup y.1=some .local\/(scope.names.lookup y.1=some .cell/\((ycj (s.heap.objs.size+1) scope.names []).lookup y.1).isSome=true):=λ⟨n,v⟩ hy=>by
  rcases S.par n (ybD hy).1 with q|q
  ·exact .inl q
  ·exact .inr ⟨q,ycB _ _ _ (.inl q)⟩
 refine yem hr.depth (KX _ _ lk) rfl S.co S.gen rfl (ye0 KX hcd) (hb _ _ _ _ ?_)
 refine ydu S.kind hkind λenv he s1 x=>?_
 subst he
 refine⟨lim.keeps x.toInCall.keep,codeAny_func ?_⟩
 obtain⟨t,ht,hq⟩:=hbody A outer s H vs Q E (hr.deeper _) al hsp
 have I:Inv (qdb CX P w K mg base N qual scope f cdv A outer s H E) [] (ze N vs) H s1:=qdc S e0 hl r x
 refine yaV (ht [] s1 (ze N vs) H _ I hq) (λfl s' hs=>?_) λe s' hs=>hs
 have fin:∀{σ':St}{H':Hp}{v:V}{u:Value},Inv (qdb CX P w K mg base N qual scope f cdv A outer s H E) [] σ' H' s'->zU v u->Q v H'->CE outer P w H s Q u s' :=
  λ{σ' H' v u} J rv q=>⟨v,H',J.os,J.bare,J.base,J.hok,rv,q⟩
 cases fl with
 |ret u=>
  obtain⟨v,σ',H',J,rv,q⟩:=hs
  exact fin J rv q
 |next=>
  obtain⟨σ',H',J,q⟩:=hs
  exact fin (v:=V.non) (u:=yau) J rfl q
 |brk=>
  obtain⟨_,_,_,q⟩:=hs
  exact yaS q
 |cont=>
  obtain⟨_,_,_,q⟩:=hs
  exact yaS q
section
variable{X:Cx}{CX:CXT}{k:Nat}{f C:Addr}{fd:yaN}{ps:List Str}{sp:Sp}{dvs:List V}{ds:List Value}{E:XK}{x m:Str}{p pos apos:Pos}{e o:Expr}{es:List Expr}{ta:TE}{t:TA}
theorem qhS {pins:List (Addr×Obj)} {σ:St} {H:Hp} {s:yab} {Q:VK} {us:List Value} {vs:List V} (F:qau X.prog X.w X.K X.mg X.base CX k f fd ps sp) (hr:yb k X.A) (hb:yF X.K fd ps ds) (hd:qK dvs ds) (hx:vR CX X E)
  (I:Inv X pins σ H s) (r:qK vs us) (al:AloneA X.A H) (h:sp (vs++dvs) H Q E):wpAny (model X.prog X.w) X.A (call (.ref f) us) (EP X pins σ Q) X.xe s:=by
 have r2:qK (vs++dvs) (us++ds):=r.append hd
 have hl:(us++ds).length=ps.length:=by rw[<-r2.length];exact F.len _ _ _ _ h
 refine wpAny_call (ydO (F.run X.A X.stack s H ⟨us,[]⟩ (us++ds) (vs++dvs) Q E hr al I.env0 (hb s us I.kIn hl) r2 h) λr s' hq=>?_)
 cases r with
 |error e=>exact hx pins σ H s e s' I hq
 |ok fl=>
  cases fl with
  |ret u=>exact I.after hq
  |next=>exact yaS hq
  |brk=>exact yaS hq
  |cont=>exact yaS hq
theorem qck (F:qau X.prog X.w X.K X.mg X.base CX k f fd ps sp) (hr:yb k X.A) (hg:Gl X x) (hm:X.mg x=some (.ref f)) (hk:yam X.K (.ref f)=true) (hb:yF X.K fd ps ds) (hd:qK dvs ds) (hx:vR CX X E)
  (ha:PA X (e::es) t) (hdb:(x==("__debug__":Str))=false:=by decide) (he:yae (e::es) X.env=(false,eval e X.env)::yae es X.env:=by rfl) (hpl:(yaO pos (yae es X.env)).any (·.1)=false:=by rfl) :
  PE X (.Call (.Name x p) (e::es) [] pos) (qjU X.A sp dvs E t):=by
 intro pins s σ H Q I h
 refine ybW (vO I hg hm ?_ hdb)
 refine yeZ (h₀:=X.base) I.ok.mod.kin hk (thn (ha pos pins s σ H _ I h) λus s1 ⟨vs,H1,I1,r,q⟩=>⟨I1.kIn,?_⟩) he hpl
 exact qhS F hr hb hd hx I1 r q.1 q.2
end
end L2
namespace L2.Sk
open PySem PySem.Spec PyProof.Rows
def isT (b:Bool):Value->Bool
 |.bool a=>a==b
 |_=>false
section
variable{X:Cx}
end
def ql2 (x:D) (ys:List D):Option D:=match x,ys with
 |.lst ds,[.bl b]=>(yD ds).map λbs => .int (bs.countP (·==b))
 |_,_=>none
def qjW (F:D->List D->Option D) (f:M D) (g:M (List D)):M D:=bnd f λx=>match x with
 |.lst ds=>bnd g λys=>lift (F (.lst ds) ys)
 |_=>λ_ => .bad
section
variable{X:Cx}{c:Fc}{o e:Expr}{es:List Expr}{apos cpos:Pos}
end
def isI (b:Int):Value->Bool
 |.int a _=>a==b
 |_=>false
section
variable{X:Cx}
end
def ql3 (x:D) (ys:List D):Option D:=match x,ys with
 |.lst ds,[.int b]=>(yJ ds).map λns => .int (ns.countP (·==b))
 |_,_=>none
@[reducible] def toX (X:Cx) (xe:Value->yab->Prop) (pn:List (Addr×Obj)):Cx:={X with xe:=xe,pn:=pn}
@[reducible] def hdX (X:Cx) (e:Addr):Cx:={X with A:=X.A.mark (some (.ref e)),calm:=false,xe:=λ_ _=>False}
section
variable{X:Cx}{pins:List (Addr×Obj)}{σ:St}{H:Hp}{s:yab}{xe:Value->yab->Prop}
theorem qgB (I:Inv X pins σ H s):Inv (toX X xe (X.pn++pins)) [] σ H s :=
 let k:=I.ok
 ⟨⟨k.mod,k.kind,k.glob,k.blt,k.above,k.inj,k.has,k.cab,k.hd,k.frames,k.stk,k.exf,k.bs,k.bsz,k.noex,k.exfs,k.funs,k.frf⟩,I.os,I.bare,I.base,I.loc,I.cell,I.free,I.freeC,
  λp hp=>I.pin p (by rw[ya4]at hp;exact hp),I.hok,I.len⟩
theorem jn {pins2:List (Addr×Obj)} (I:Inv (toX X xe (X.pn++pins)) pins2 σ H s):Inv X pins σ H s :=
 let k:=I.ok
 ⟨⟨k.mod,k.kind,k.glob,k.blt,k.above,k.inj,k.has,k.cab,k.hd,k.frames,k.stk,k.exf,k.bs,k.bsz,k.noex,k.exfs,k.funs,k.frf⟩,I.os,I.bare,I.base,I.loc,I.cell,I.free,I.freeC,
  λp hp=>I.pin p (ycW _ hp),I.hok,I.len⟩
theorem qcl (e:Addr) (I:Inv X pins σ H s):Inv (hdX X e) pins σ H s :=
 let k:=I.ok
 ⟨⟨k.mod,k.kind,k.glob,k.blt,k.above,k.inj,k.has,k.cab,λz=>(nomatch z),k.frames,k.stk,k.exf,k.bs,k.bsz,k.noex,k.exfs,k.funs,k.frf⟩,I.os,I.bare,I.base,I.loc,I.cell,I.free,I.freeC,I.pin,I.hok,I.len⟩
theorem qcm {e:Addr} {σ':St} {H':Hp} {s':yab} (k:X.Ok) (I:Inv (hdX X e) pins σ' H' s'):Inv X pins σ' H' s' :=
 ⟨k,I.os,I.bare,I.base,I.loc,I.cell,I.free,I.freeC,I.pin,I.hok,I.len⟩
theorem qdd {h':Heap} {m':Str->Option Value} {tk:Nat} (I:Inv X pins σ H s) (hn:h'.Ns X.env.locals m') (hs:ybi X.env.locals s.heap h') :
  Inv X pins (yag X.N.length none) H {s with heap:=h',toks:=tk}:=by
 obtain⟨m,hn0,_⟩:=id I.loc
 obtain⟨oL,_,_,hoL,_⟩:=id hn0
 have ne:∀b o,X.s₀.heap.get? b=some o->b≠X.env.locals:=λb o q=>yaq (yat (yac q) I.ok.above)
 refine⟨I.ok,I.os,I.bare,⟨λb o e n hb hx=>(hs.2 b (ne b o e)).trans (I.base.keep b o e n hb hx),λb o e n hb hx=>?_,I.base.free,λb o e hx=>?_,I.base.tups,I.base.frzs,I.base.tbls⟩,⟨m',hn,λj y v e1 e2 e3=>?_⟩,λy c e=>?_,I.free,I.freeC,λp hp=>?_,λb ob e=>?_,by simp⟩
 ·obtain⟨sl,q⟩:=I.base.slot b o e n hb hx
  exact⟨sl,(hs.2 b (ne b o e)).trans q⟩
 ·obtain⟨o',q⟩:=I.base.there b o e hx
  exact⟨o',(hs.2 b (ne b o e)).trans q⟩
 ·rw[List.getElem?_replicate]at e2
  split at e2<;>cases e2
 ·obtain⟨w',z⟩:=I.cell y c e
  exact⟨w',z.sameBut hs (I.cne y c e)⟩
 ·obtain⟨e,n,nl,nf,d⟩:=I.pin p hp
  exact⟨(hs.2 p.1 nl).trans e,n,nl,nf,d⟩
 ·refine(I.hok b ob e).stay (λc w' hc q=>(hs.2 c ?_).trans q) (λ_ q=>q) λ_ _ q=>q
  rintro rfl
  rcases hc with rfl|hc
  ·rw[I.free]at e;cases e
  ·rw[I.free]at hc;cases hc
theorem qav {H':Hp} {h':Heap} (I:Inv X pins σ H s) (u:Un (frs X.stack) [] H H' s.heap h'):h'.FunFrames X.base X.stack:=by
 have all:∀(l:List yaG),(∀b∈frs l,b∈frs X.stack)->s.heap.FunFrames X.base l->h'.FunFrames X.base l:=by
  intro l
  induction l with
  |nil=>intro _ _;trivial
  |cons env r ih=>
   intro hss hl
   obtain⟨hk,⟨L,o,hf',hn,ho,hd⟩,hr⟩:=hl
   have hfr:frs (env::r)=L::frs r:=by unfold frs;rw[ybv,hf']
   rw[hfr]at hss
   have hL:=hss L mS_
   obtain⟨sl,e⟩:=u.slot L o ho (I.stkFree L hL) hL (by simp)
   exact⟨hk,⟨L,_,hf',hn,e,hd⟩,ih (λb hb=>hss b (mM _ hb)) hr⟩
 exact all X.stack (λ_ z=>z) I.stack
theorem qcn {H':Hp} {h1 h':Heap} {ch:List Addr} (u:Un (frs X.stack) [] H H' s.heap h1) (hchn:∀b∈ch,s.heap.get? b=none) (x:Lft h1 h' ch (frs X.stack)):Un (frs X.stack) [] H H' s.heap h':=by
 have nch:∀b o,s.heap.get? b=some o->b ∉ ch:=λb o q z=>by rw[hchn b z]at q;cases q
 refine⟨λb o q n hb hx=>x.keep b o (nch b o q) hb (u.keep b o q n hb hx),λb o q n hb hx=>?_,u.free,λb o q hx=>?_,u.tups,u.frzs,u.tbls⟩
 ·obtain⟨sl,q1⟩:=u.slot b o q n hb hx
  obtain⟨sl2,q2⟩:=x.slot b _ hb q1
  exact⟨sl2,q2⟩
 ·obtain ⟨o2,q2⟩:=u.there b o q hx
  by_cases hb:b∈frs X.stack
  ·obtain⟨sl,q3⟩:=x.slot b o2 hb q2
   exact⟨_,q3⟩
  ·exact⟨o2,x.keep b o2 (nch b o q) hb q2⟩
theorem qaw {H':Hp} {h1 h':Heap} {ch:List Addr} (I:Inv X pins σ H s) (u:Un (frs X.stack) [] H H' s.heap h1) (hok:HOk X.prog X.w H' h1) (hch:∀b∈ch,H' b=none) (x:Lft h1 h' ch (frs X.stack)):HOk X.prog X.w H' h' :=
 qgA hok λb o hb1 q=>x.keep b o (λz=>by rw[hch b z]at hb1;cases hb1) (λz=>by
  obtain⟨_,o1,ho1,_⟩:=I.stack.mem z
  rw[u.free b o1 ho1 (I.stkFree b z) (by simp)]at hb1
  cases hb1) q
theorem qbH {H':Hp} {h':Heap} {e:Addr} {o:HO} (u:Un (frs X.stack) [] H H' s.heap h') (he:s.heap.get? e=none) (hHe:H' e=none):Un (frs X.stack) [] H (upd H' e o) s.heap h':=by
 have ne:∀b ob,s.heap.get? b=some ob->b≠e:=λb ob q z=>by rw[z,he]at q;cases q
 have ne':∀b u,H' b=some u->b≠e:=λb u q z=>by rw[z,hHe]at q;cases q
 refine⟨u.keep,u.slot,λb ob q n hx=>by rw[qm (ne b ob q)];exact u.free b ob q n hx,u.there,λb xs q=>?_,λb ob w q=>?_,λb ps y q=>?_⟩
 ·have:=u.tups b xs q
  rw[qm (ne' b _ this)];exact this
 ·have:=u.frzs b ob w q
  rw[qm (ne' b _ this)];exact this
 ·have:=u.tbls b ps y q
  rw[qm (ne' b _ this)];exact this
theorem qco {P:yap} {w:World} {H':Hp} {h':Heap} {e:Addr} {oe:Obj} (hok:HOk P w H' h') (hHe:H' e=none) (he:h'.get? e=some oe):HOk P w (upd H' e (.frz oe (.own e))) h':=λb ob q=>by
 by_cases hb:b=e
 ·subst hb
  rw[qi]at q
  cases q
  exact⟨he,oe,he⟩
 ·rw[qm hb]at q
  have ne':∀c u,H' c=some u->c≠e:=λc u q z=>by rw[z,hHe]at q;cases q
  exact(hok b ob q).stay (λ_ _ _ q=>q) (λc q=>by rw[qm (ne' c _ q)];exact q) (λc xs q=>by rw[qm (ne' c _ q)];exact q) λc ob y q=>by rw[qm (ne' c _ q)];exact q
end
def qgC (RN:List Str) (f:MS) (F:List D->R D):MS:=λZ=>match f Z with
 | .exc x Z'=>if RN.contains x.cls then match F [.exc x.cls] with
   |.ok d => .ok (.rt d Z')
   |_ => .bad
  else .bad
 |r=>r
def reE(c:Fc)(E:Exn->Hp->Prop):Fc:={c with E:=E}
theorem Rep.reE{K:Fr0}{c:Fc}{E:Exn->Hp->Prop}{Z:Env}{σ:St}{H:Hp}(r:Rep K c Z σ H):Rep K (Sk.reE c E) Z σ H:=⟨r.len,r.val,r.own,r.inj,r.b0,r.kp,r.dm,r.pO,r.ps⟩
theorem Rep.unE{K:Fr0}{c:Fc}{E:Exn->Hp->Prop}{Z:Env}{σ:St}{H:Hp}(r:Rep K (Sk.reE c E) Z σ H):Rep K c Z σ H:=⟨r.len,r.val,r.own,r.inj,r.b0,r.kp,r.dm,r.pO,r.ps⟩
structure qlk (K:Fr0) (base:Heap) (RN:List Str) (S:Addr):Prop where
 sup:∃bm,XC base S bm
 own:∀n C,clR K RN n=some C->∃bm,XC base C bm/\(yad C::bm).contains (.ref S)=true
 ki:∀n C,clR K RN n=some C->XK6 K C
def ch(H6:Hp):Fc:=⟨[],[],λa=>H6 a=none,H6,λ_=>False,λ_ _=>False,λ_=>none⟩
theorem qjX {K:Fr0} {n i:Nat} {H6:Hp} {σ:St} {d:D} {v:V} (hl:σ.length=n) (hi:∀{A:Addr->Prop},Is K A H6 d v) (tb:qan K H6):Rep K (ch H6) ((yag n none).set i (some d)) (σ.set i (some v)) H6:=by
 refine⟨by simp[hl],λj d' h=>?_,λj hj=>(nomatch hj),λj _ _ hj=>(nomatch hj),⟨λ_ h=>h,tb⟩,λ_ _ h _=>h,λ_ h=>h,λ_ h=>h,λj hj=>(nomatch hj)⟩
 rw[List.getElem?_set]at h
 split at h
 ·rename_i e
  subst e
  rw[yaK]at h
  split at h
  ·rename_i hlt
   cases h
   exact⟨v,List.getElem?_set_self (by rw[hl];exact hlt),.inr ⟨by simp[ch],hi⟩⟩
  ·cases h
 ·rw[List.getElem?_replicate]at h
  split at h<;>cases h
def wC (RN:List Str) (n i:Nat) (f:MS) (g:M D):MS:=λZ=>match f Z with
 | .exc x Z'=>if RN.contains x.cls then match g ((yag n none).set i (some (.exc x.cls))) with
   |.ok (d,_) => .ok (.rt d Z')
   |_ => .bad
  else .bad
 |r=>r
theorem qbI {X:Cx} {pins:List (Addr×Obj)} {σ:St} {H:Hp} {s:yab} {n:Str} {c:Addr} {h':Heap} {tk:Nat} (I:Inv X pins σ H s) (hc:X.env.cells.lookup n=some c) (hfn:X.fn n=true) (hs:ybi c s.heap h') (hv:h'.IsCell c none) :
  Inv X pins (yag X.N.length none) H {s with heap:=h',toks:=tk}:=by
 obtain⟨m,hn0,_⟩:=id I.loc
 obtain⟨v0,oc,hoc,hocd⟩:=I.cell n c hc
 have big:=I.ok.cab n c hfn hc
 have ne:∀b o,X.s₀.heap.get? b=some o->b≠c:=λb o q=>yaq (yat (yac q) big)
 refine⟨I.ok,I.os,I.bare,⟨λb o e q hb hx=>(hs.2 b (ne b o e)).trans (I.base.keep b o e q hb hx),λb o e q hb hx=>?_,I.base.free,λb o e hx=>?_,I.base.tups,I.base.frzs,I.base.tbls⟩,⟨m,hn0.sameBut hs (ya2 (I.cne n c hc)),λj y v e1 e2 e3=>?_⟩,λy c' e=>?_,I.free,I.freeC,λp hp=>?_,λb ob e=>?_,by simp⟩
 ·obtain⟨sl,z⟩:=I.base.slot b o e q hb hx
  exact⟨sl,(hs.2 b (ne b o e)).trans z⟩
 ·obtain⟨o',z⟩:=I.base.there b o e hx
  exact⟨o',(hs.2 b (ne b o e)).trans z⟩
 ·rw[List.getElem?_replicate]at e2
  split at e2<;>cases e2
 ·by_cases q:c'=c
  ·subst q;exact⟨_,hv⟩
  ·obtain⟨w',z⟩:=I.cell y c' e
   exact⟨w',z.sameBut hs q⟩
 ·obtain⟨e,q,nl,nf,d⟩:=I.pin p hp
  refine⟨(hs.2 p.1 λz=>?_).trans e,q,nl,nf,d⟩
  rw[z,hoc]at e
  exact d v0 (by rw[<-yaF e];exact hocd)
 ·refine(I.hok b ob e).stay (λb2 w' hb2 q=>(hs.2 b2 ?_).trans q) (λ_ q=>q) λ_ _ q=>q
  rintro rfl
  have z:=I.freeC n b2 hc
  rcases hb2 with rfl|hb2
  ·rw[z]at e;cases e
  ·rw[z]at hb2;cases hb2
theorem qep {X:Cx} {pins:List (Addr×Obj)} {σ:St} {H:Hp} {s:yab} {n:Str} {i:Nat} {pos:Pos} {M:Model} {A:yar} {E:Value->yab->Prop} {Q:Unit->yab->Prop} (I:Inv X pins σ H s) (hN:X.N.Nodup) (hi:X.N[i]? = some n) (hx:X.env.scope.names.lookup n=some .cell) (hkn:X.env.kindOf n=some .cell) (hfn:X.fn n=true)
  (k:∀s',Inv X pins (yag X.N.length none) H s'->Q () s'):wpAny M A (do yey X.env n .none;yeE X.env n pos) Q E s:=by
 refine yaa (yej (ym (v:=.non) (u:=.none) I hN hi (.inr hx) rfl (λs5 I5=>?_) (.inl hfn)))
 obtain⟨c,hc⟩:=I5.ok.has n (.inl hkn)
 obtain⟨m,hn,hl⟩:=id I5.loc
 have hil:i<σ.length:=by rw[I.len];exact(gI_.mp hi).1
 obtain⟨u,ru,lk⟩:=hl i n .non hi (List.getElem?_set_self hil) (.inr (.inl hx))
 have hcv:s5.heap.IsCell c (some u):=by
  rcases lk with⟨z,_⟩|⟨_,c',e,z⟩
  ·rw[hkn]at z;cases z
  ·rw[hc]at e;cases e;exact z
 unfold yeE
 refine ycI ?_
 unfold unbindName
 refine yaa (wpAny_point (yaa ?_))
 unfold deleteName
 simp only[hkn]
 refine yaa (wpAny_cellOf hc (yaa (wpAny_cellGet hcv ?_)))
 simp only[ye7,if_true]
 exact wpAny_cellSet hcv λh' hv hs=>wpAny_point (k _ (qbI (tk:=s5.toks) I5 hc hfn hs hv))
section
variable{X:Cx}{c:Fc}{pos np hpos p1 p2 p3 p4:Pos}{body:List Stmt}
theorem ql4 {x n m:Str} {i:Nat} {S fm:Addr} {fd:yaN} {ps:List Str} {k:Nat} {F:List D->R D} {f:MS} {RN:List Str} (hN:X.N.Nodup) (hcx:X.stack=X.env::X.outer) (hf:X.env.frame=some X.env.locals)
  (hcl:qlk X.K X.base RN S) (hgS:Gl X x) (hmS:X.mg x=some (.ref S))
  (G:qau X.prog X.w X.K X.mg X.base CX0 k fm fd ps (spD X.K F)) (hr:yn k X.A) (hgm:Gl X m) (hmm:X.mg m=some (.ref fm)) (hkm:yam X.K (.ref fm)=true) (hbm:yF X.K fd ps [])
  (hb:∀(xe:Value->yab->Prop)(pn:List (Addr×Obj))(E:XK)(cE:Exn->Hp->Prop),XL2 (toX X xe pn) (reE c cE) (clR X.K RN) E->DSs (toX X xe pn) (reE c cE) body f)
  (hi:X.N[i]? = some n:=by rfl) (hx:X.env.scope.names.lookup n=some .local:=by rfl) (hkn:X.env.kindOf n=some .local:=by rfl)
  (hdx:(x==("__debug__":Str))=false:=by decide) (hdm:(m==("__debug__":Str))=false:=by decide) (hdn:(n==("__debug__":Str))=false:=by decide) (hcn:(n==("__classdict__":Str))=false:=by decide)
  (hst:yae [.Name n p2] X.env=(false,eval (.Name n p2) X.env)::yae [] X.env:=by rfl) (hpl:(yaO p3 (yae [] X.env)).any (·.1)=false:=by rfl) :
  DS X c (.Try body [.ExceptHandler (some (.Name x np)) (some n) [.Return (some (.Call (.Name m p1) [.Name n p2] [] p3)) p4] hpos] [] [] pos) (qgC RN f F):=by
 refine⟨λD σ H=>∃Z,Rep X.K c Z σ H/\WpS X.K c σ H D (qgC RN f F Z),?_,λZ σ H D r h=>⟨Z,r,h⟩⟩
 rintro pins s σ H D I ⟨Z,r,w⟩
 refine wpAny_Try_except ?_
 have hk:=I.ok
 let xe:Value->yab->Prop:=λe sJ=>wpAny (model X.prog X.w) X.A (ydk e X.env) (λ_ sV=>wpAny (model X.prog X.w) X.A (ycV e none) (λ_ sK=>wpAny (model X.prog X.w) X.A (handleBy e X.env [.ExceptHandler (some (.Name x np)) (some n) [.Return (some (.Call (.Name m p1) [.Name n p2] [] p3)) p4] hpos]) (SP X pins D) X.xe sK) X.xe sV) X.xe sJ
 let cE:Exn->Hp->Prop:=λz H'=>∃Z' σ',f Z=.exc z Z'/\Rep X.K c Z' σ' H'/\GrS c.O σ H σ' H'
 let E:XK:=λcv _ H'=>∃C z,cv=.ref C/\clR X.K RN z.cls=some C/\cE z H'
 have L:XL2 (toX X xe (X.pn++pins)) (reE c cE) (clR X.K RN) E:=by
  refine⟨?_,λz C H' h1 h2=>⟨C,z,rfl,h1,h2⟩⟩
  intro pins2 σ2 H2 s2 u s' I2 hx2
  obtain⟨e,T,C,H',rfl,os,bare,un,hok,he,hT,hHe,hHT,Fl,C',z,hC',hz,Z',σ',ef,r',g'⟩:=hx2
  have eC:C=C':=ydx hC'
  subst eC
  have I3:Inv X pins σ2 H2 s2:=jn I2
  have hz2:∀b∈[e,T],H' b=none:=λb hb=>by
   simp only[yao,nN_,or_false]at hb
   rcases hb with rfl|rfl
   ·exact hHe
   ·exact hHT
  have hz3:∀b∈[e,T],s2.heap.get? b=none:=λb hb=>by
   simp only[yao,nN_,or_false]at hb
   rcases hb with rfl|rfl
   ·exact he
   ·exact hT
  have hl:s'.heap.FunFrames X.base X.stack:=qav I3 un
  have hA:X.A.frames=some (X.env::X.outer):=by rw[<-hcx];exact hk.frames
  show wpAny _ _ _ _ _ _
  rw[hcx]at hl
  refine wx hA hl hf Fl λh3 T3 y1 y2 y3=>?_
  rw[<-hcx]at y1
  have un3:Un (frs X.stack) [] H2 H' s2.heap h3:=qcn un hz3 y1
  have hok3:HOk X.prog X.w H' h3:=qaw I3 un hok hz2 y1
  have I4:Inv X pins σ2 H' {s' with heap:=h3}:=I3.call' (s':={s' with heap:=h3}) (ch:=[]) os un3 hok3 bare (λb hb=>nomatch hb)
  have up:∀b,s'.heap.get? b=none->s2.heap.get? b=none:=λb hb=>by
   cases q:s2.heap.get? b with
   |none=>rfl
   |some o=>
    obtain⟨o',q'⟩:=un.there b o q (by simp)
    rw[hb]at q';cases q'
  have hT3:s2.heap.get? T3=none:=y3.elim (λz=>z▸hT) (up T3)
  have hHT3:H' T3=none:=y3.elim (λz=>z▸hHT) λz=>by
   cases q:H' T3 with
   |none=>rfl
   |some o=>
    obtain⟨o',q'⟩:=jS (hok _ _ q)
    rw[z]at q';cases q'
  refine yeO (yes ?_) (by intro q;cases q)
  refine vO (X:=hdX X e) (qcl e I4) hgS hmS ?_ hdx
  obtain⟨bmS,xS⟩:=hcl.sup
  obtain⟨bm,xC,hin⟩:=hcl.own _ _ hz
  obtain⟨nmS,qS,NS,bsS,hdctS,snS,subS,abS,colS,ddS,j0,j1,j2,j3,j5,newIdS,_,_,_,_,hS,_⟩:=xS.ex
  obtain⟨nm,q,N,bs,hdct,sn,sub,ab,col,dd,k0,k1,k2,k3,k5,newId,_,_,_,_,hC,_⟩:=xC.ex
  obtain⟨oe,vs,oT,ts,a0,hoe,hoc,hod,_⟩:=id y2
  refine y9 (M:=model X.prog X.w) (A:=X.A.mark (some (.ref e))) (h:=h3) (g:=s'.gens) (d:=s'.drawn) (t:=s'.toks) (os:=s'.os) (I4.bk _ _ hC) (I4.bk _ _ hS) hoe hoc.1 xS.hasBase ?_
  rw[hin]
  show ybp _ _ _ _ _
  refine ydG ?_
  have hl3:h3.FunFrames X.base X.stack:=qav I3 un3
  refine qac (s:={s' with heap:=h3}) hl3 y2 λh4 T4 z1 z2 z3=>?_
  have hz4:∀b∈[e,T3],H' b=none:=λb hb=>by
   simp only[yao,nN_,or_false]at hb
   rcases hb with rfl|rfl
   ·exact hHe
   ·exact hHT3
  have hz5:∀b∈[e,T3],s2.heap.get? b=none:=λb hb=>by
   simp only[yao,nN_,or_false]at hb
   rcases hb with rfl|rfl
   ·exact he
   ·exact hT3
  have un4:Un (frs X.stack) [] H2 H' s2.heap h4:=qcn un3 hz5 z1
  have hok4:HOk X.prog X.w H' h4:=qaw I3 un3 hok3 hz4 z1
  obtain⟨oe4,vs4,oT4,ts4,a04,hoe4,hoc4,hod4,_⟩:=id z2
  have I5:Inv X pins σ2 (upd H' e (.frz oe4 (.own e))) {s' with heap:=h4}:=I3.call' (s':={s' with heap:=h4}) (ch:=[]) os (qbH un4 he hHe) (qco hok4 hHe hoe4) bare (λb hb=>nomatch hb)
  refine ym (v:=.ref e) I5 hN hi (.inl hx) rfl (λs5 I6=>?_) (.inr hx)
  have sm:zG H' (upd H' e (.frz oe4 (.own e))):=qs hHe _
  have hil:IsL X.K (λ_=>False) (upd H' e (.frz oe4 (.own e))) [.exc z.cls] [.ref e]:=⟨.ref e,[],rfl,⟨e,rfl,C,(vi hz).2,hcl.ki _ _ hz,oe4,vs4,qi,hoc4.1,hod4⟩,rfl⟩
  cases em:F [.exc z.cls] with
  |bad=>simp only[qgC,ef,(vi hz).1,em,if_true]at w;exact w.elim
  |exc z' Z''=>simp only[qgC,ef,(vi hz).1,em,if_true]at w;exact w.elim
  | ok d=>
   simp only[qgC,ef,(vi hz).1,em,if_true]at w
   have hσl:i<σ2.length:=by rw[I5.len];exact(gI_.mp hi).1
   have call:=qbx (qdz (pos:=p4) (qck (X:=hdX X e) (E:=λ_ _ _=>False) (pos:=p3) (p:=p1) G ⟨hr.dp,hr.un,hr.gd⟩ hgm hmm hkm hbm .nil (λ_ _ _ _ _ _ _ z=>z.elim) (jP (vN (X:=hdX X e) (pos:=p2) hi (.inl hx) hdn hcn) vQ hst) hdm hst hpl))
   have run:=call pins s5 _ _ ({nx:=λ_ _=>False,rt:=D.rt}:qdr) (qcl e I6) ⟨.ref e,List.getElem?_set_self hσl,⟨e,oe4,.own e,vs4,rfl,qi,hod4,hoc4.2.1⟩,[.exc z.cls],λ_=>False,hil,r'.tb.same sm,by
    rw[em]
    exact λv H6 sm6 i6=>w v σ' H6 (r'.same (λb o q=>sm6 b o (sm b o q))) (Is.ext Ext.refl (λa ha _=>ha.elim (λz=>z.elim) λhn=>r'.b0.1 a (r'.dm a (sm.free hn))) i6) (g'.trans (Gr.of_same (λb o q=>sm6 b o (sm b o q))).s)⟩
   refine yaV run (λfl s6 h6=>?_) (λ_ _ z=>z.elim)
   cases fl with
   |next=>obtain⟨_,_,_,z⟩:=h6;exact z.elim
   |brk=>obtain⟨_,_,_,z⟩:=h6;exact z.elim
   |cont=>obtain⟨_,_,_,z⟩:=h6;exact z.elim
   |ret u=>
    obtain⟨v,σ7,H7,I7,rv,q7⟩:=h6
    have I8:=qcm hk I7
    obtain⟨m8,hn8,_⟩:=id I8.loc
    exact wpAny_nameGoes hkn hn8 (by rw[hk.kind];rfl) λh9 m9 hn9 hs9=>⟨v,_,H7,qdd I8 hn9 hs9,rv,q7⟩
 obtain⟨t,p,wt⟩:=hb xe (X.pn++pins) E cE L
 have w':WpS X.K (reE c cE) σ H D (f Z):=by
  cases ef:f Z with
  |bad=>simp only[qgC,ef]at w;exact w
  |exc z Z'=>exact λσ' H' r' g'=>⟨Z',σ',ef,r'.unE,g'⟩
  |ok fl=>
   simp only[qgC,ef]at w
   cases fl with
   |nx Z'=>exact λσ' H' r' g'=>w σ' H' r'.unE g'
   |rt d Z'=>exact λv σ' H' r' i' g'=>w v σ' H' r'.unE i' g'
   |bk Z'=>exact λσ' H' r' g'=>w σ' H' r'.unE g'
   |ct Z'=>exact λσ' H' r' g'=>w σ' H' r'.unE g'
 have run:=p [] s σ H D (qgB I) (wt Z σ H D r.reE w')
 refine yaV run (λfl s1 h1=>?_) (λ_ _ z=>z)
 cases fl with
 |next=>
  obtain⟨σ1,H1,I1,q1⟩:=h1
  exact ycd ⟨σ1,H1,jn I1,q1⟩
 |brk=>obtain⟨σ1,H1,I1,q1⟩:=h1;exact⟨σ1,H1,jn I1,q1⟩
 |cont=>obtain⟨σ1,H1,I1,q1⟩:=h1;exact⟨σ1,H1,jn I1,q1⟩
 |ret u=>obtain⟨v,σ1,H1,I1,rv,q1⟩:=h1;exact⟨v,σ1,H1,jn I1,rv,q1⟩
theorem qhT {x n:Str} {i:Nat} {S:Addr} {he:Expr} {f:MS} {g:M D} {RN:List Str} (hN:X.N.Nodup) (hcx:X.stack=X.env::X.outer) (hf:X.env.frame=some X.env.locals)
  (hcl:qlk X.K X.base RN S) (hgS:Gl X x) (hmS:X.mg x=some (.ref S))
  (hh:∀(e:Addr)(H6:Hp),AloneA (X.A.mark (some (.ref e))) H6->DE (hdX X e) (ch H6) he g)
  (hb:∀(xe:Value->yab->Prop)(pn:List (Addr×Obj))(E:XK)(cE:Exn->Hp->Prop),XL2 (toX X xe pn) (reE c cE) (clR X.K RN) E->DSs (toX X xe pn) (reE c cE) body f)
  (hi:X.N[i]? = some n:=by rfl) (hx:X.env.scope.names.lookup n=some .cell:=by rfl) (hkn:X.env.kindOf n=some .cell:=by rfl) (hfn:X.fn n=true:=by rfl)
  (hdx:(x==("__debug__":Str))=false:=by decide)  :
  DS X c (.Try body [.ExceptHandler (some (.Name x np)) (some n) [.Return (some he) p4] hpos] [] [] pos) (wC RN X.N.length i f g):=by
 refine⟨λD σ H=>∃Z,Rep X.K c Z σ H/\WpS X.K c σ H D (wC RN X.N.length i f g Z),?_,λZ σ H D r h=>⟨Z,r,h⟩⟩
 rintro pins s σ H D I ⟨Z,r,w⟩
 refine wpAny_Try_except ?_
 have hk:=I.ok
 let xe:Value->yab->Prop:=λe sJ=>wpAny (model X.prog X.w) X.A (ydk e X.env) (λ_ sV=>wpAny (model X.prog X.w) X.A (ycV e none) (λ_ sK=>wpAny (model X.prog X.w) X.A (handleBy e X.env [.ExceptHandler (some (.Name x np)) (some n) [.Return (some he) p4] hpos]) (SP X pins D) X.xe sK) X.xe sV) X.xe sJ
 let cE:Exn->Hp->Prop:=λz H'=>∃Z' σ',f Z=.exc z Z'/\Rep X.K c Z' σ' H'/\GrS c.O σ H σ' H'
 let E:XK:=λcv _ H'=>∃C z,cv=.ref C/\clR X.K RN z.cls=some C/\cE z H'
 have L:XL2 (toX X xe (X.pn++pins)) (reE c cE) (clR X.K RN) E:=by
  refine⟨?_,λz C H' h1 h2=>⟨C,z,rfl,h1,h2⟩⟩
  intro pins2 σ2 H2 s2 u s' I2 hx2
  obtain⟨e,T,C,H',rfl,os,bare,un,hok,he,hT,hHe,hHT,Fl,C',z,hC',hz,Z',σ',ef,r',g'⟩:=hx2
  have eC:C=C':=ydx hC'
  subst eC
  have I3:Inv X pins σ2 H2 s2:=jn I2
  have hz2:∀b∈[e,T],H' b=none:=λb hb=>by
   simp only[yao,nN_,or_false]at hb
   rcases hb with rfl|rfl
   ·exact hHe
   ·exact hHT
  have hz3:∀b∈[e,T],s2.heap.get? b=none:=λb hb=>by
   simp only[yao,nN_,or_false]at hb
   rcases hb with rfl|rfl
   ·exact he
   ·exact hT
  have hl:s'.heap.FunFrames X.base X.stack:=qav I3 un
  have hA:X.A.frames=some (X.env::X.outer):=by rw[<-hcx];exact hk.frames
  show wpAny _ _ _ _ _ _
  rw[hcx]at hl
  refine wx hA hl hf Fl λh3 T3 y1 y2 y3=>?_
  rw[<-hcx]at y1
  have un3:Un (frs X.stack) [] H2 H' s2.heap h3:=qcn un hz3 y1
  have hok3:HOk X.prog X.w H' h3:=qaw I3 un hok hz2 y1
  have I4:Inv X pins σ2 H' {s' with heap:=h3}:=I3.call' (s':={s' with heap:=h3}) (ch:=[]) os un3 hok3 bare (λb hb=>nomatch hb)
  have up:∀b,s'.heap.get? b=none->s2.heap.get? b=none:=λb hb=>by
   cases q:s2.heap.get? b with
   |none=>rfl
   |some o=>
    obtain⟨o',q'⟩:=un.there b o q (by simp)
    rw[hb]at q';cases q'
  have hT3:s2.heap.get? T3=none:=y3.elim (λz=>z▸hT) (up T3)
  have hHT3:H' T3=none:=y3.elim (λz=>z▸hHT) λz=>by
   cases q:H' T3 with
   |none=>rfl
   |some o=>
    obtain⟨o',q'⟩:=jS (hok _ _ q)
    rw[z]at q';cases q'
  refine yeO (yes ?_) (by intro q;cases q)
  refine vO (X:=hdX X e) (qcl e I4) hgS hmS ?_ hdx
  obtain⟨bmS,xS⟩:=hcl.sup
  obtain⟨bm,xC,hin⟩:=hcl.own _ _ hz
  obtain⟨nmS,qS,NS,bsS,hdctS,snS,subS,abS,colS,ddS,j0,j1,j2,j3,j5,newIdS,_,_,_,_,hS,_⟩:=xS.ex
  obtain⟨nm,q,N,bs,hdct,sn,sub,ab,col,dd,k0,k1,k2,k3,k5,newId,_,_,_,_,hC,_⟩:=xC.ex
  obtain⟨oe,vs,oT,ts,a0,hoe,hoc,hod,_⟩:=id y2
  refine y9 (M:=model X.prog X.w) (A:=X.A.mark (some (.ref e))) (h:=h3) (g:=s'.gens) (d:=s'.drawn) (t:=s'.toks) (os:=s'.os) (I4.bk _ _ hC) (I4.bk _ _ hS) hoe hoc.1 xS.hasBase ?_
  rw[hin]
  show ybp _ _ _ _ _
  refine ydG ?_
  have hl3:h3.FunFrames X.base X.stack:=qav I3 un3
  refine qac (s:={s' with heap:=h3}) hl3 y2 λh4 T4 z1 z2 z3=>?_
  have hz4:∀b∈[e,T3],H' b=none:=λb hb=>by
   simp only[yao,nN_,or_false]at hb
   rcases hb with rfl|rfl
   ·exact hHe
   ·exact hHT3
  have hz5:∀b∈[e,T3],s2.heap.get? b=none:=λb hb=>by
   simp only[yao,nN_,or_false]at hb
   rcases hb with rfl|rfl
   ·exact he
   ·exact hT3
  have un4:Un (frs X.stack) [] H2 H' s2.heap h4:=qcn un3 hz5 z1
  have hok4:HOk X.prog X.w H' h4:=qaw I3 un3 hok3 hz4 z1
  obtain⟨oe4,vs4,oT4,ts4,a04,hoe4,hoc4,hod4,_⟩:=id z2
  have I5:Inv X pins σ2 (upd H' e (.frz oe4 (.own e))) {s' with heap:=h4}:=I3.call' (s':={s' with heap:=h4}) (ch:=[]) os (qbH un4 he hHe) (qco hok4 hHe hoe4) bare (λb hb=>nomatch hb)
  refine ym (v:=.ref e) I5 hN hi (.inr hx) rfl (λs5 I6=>?_) (.inl hfn)
  have sm:zG H' (upd H' e (.frz oe4 (.own e))):=qs hHe _
  have al:AloneA (X.A.mark (some (.ref e))) (upd H' e (.frz oe4 (.own e))):=⟨e,oe4,.own e,vs4,rfl,qi,hod4,hoc4.2.1⟩
  have hσl:i<σ2.length:=by rw[I5.len];exact(gI_.mp hi).1
  have rh:=qjX (K:=X.K) (n:=X.N.length) (i:=i) (H6:=upd H' e (.frz oe4 (.own e))) (σ:=σ2) (d:=.exc z.cls) (v:=.ref e) I5.len ⟨e,rfl,C,(vi hz).2,hcl.ki _ _ hz,oe4,vs4,qi,hoc4.1,hod4⟩ (r'.tb.same sm)
  cases em:g ((yag X.N.length none).set i (some (.exc z.cls))) with
  |bad=>simp only[wC,ef,(vi hz).1,em,if_true]at w;exact w.elim
  |exc z' Z''=>simp only[wC,ef,(vi hz).1,em,if_true]at w;exact w.elim
  | ok dp=>
   obtain⟨d,Zd⟩:=dp
   simp only[wC,ef,(vi hz).1,em,if_true]at w
   obtain⟨te,pe,we⟩:=hh e _ al
   have call:=qbx (qdz (pos:=p4) pe)
   have run:=call pins s5 _ _ ({nx:=λ_ _=>False,rt:=D.rt}:qdr) (qcl e I6) (we _ _ _ _ rh (by
    rw[em]
    exact λv H6 r6 i6 _=>by
     have sm6:zG (upd H' e (.frz oe4 (.own e))) H6:=λb o q=>r6.kp b o q λz=>z
     exact w v σ' H6 (r'.same (λb o q=>sm6 b o (sm b o q))) (Is.ext Ext.refl (λa ha _=>r'.b0.1 a (r'.dm a (sm.free ha.1))) i6) (g'.trans (Gr.of_same (λb o q=>sm6 b o (sm b o q))).s)))
   refine yaV run (λfl s6 h6=>?_) (λ_ _ z=>z.elim)
   cases fl with
   |next=>obtain⟨_,_,_,z⟩:=h6;exact z.elim
   |brk=>obtain⟨_,_,_,z⟩:=h6;exact z.elim
   |cont=>obtain⟨_,_,_,z⟩:=h6;exact z.elim
   |ret u=>
    obtain⟨v,σ7,H7,I7,rv,q7⟩:=h6
    have I8:=qcm hk I7
    exact qep I8 hN hi hx hkn hfn λs9 I9=>⟨v,_,H7,I9,rv,q7⟩
 obtain⟨t,p,wt⟩:=hb xe (X.pn++pins) E cE L
 have w':WpS X.K (reE c cE) σ H D (f Z):=by
  cases ef:f Z with
  |bad=>simp only[wC,ef]at w;exact w
  |exc z Z'=>exact λσ' H' r' g'=>⟨Z',σ',ef,r'.unE,g'⟩
  |ok fl=>
   simp only[wC,ef]at w
   cases fl with
   |nx Z'=>exact λσ' H' r' g'=>w σ' H' r'.unE g'
   |rt d Z'=>exact λv σ' H' r' i' g'=>w v σ' H' r'.unE i' g'
   |bk Z'=>exact λσ' H' r' g'=>w σ' H' r'.unE g'
   |ct Z'=>exact λσ' H' r' g'=>w σ' H' r'.unE g'
 have run:=p [] s σ H D (qgB I) (wt Z σ H D r.reE w')
 refine yaV run (λfl s1 h1=>?_) (λ_ _ z=>z)
 cases fl with
 |next=>
  obtain⟨σ1,H1,I1,q1⟩:=h1
  exact ycd ⟨σ1,H1,jn I1,q1⟩
 |brk=>obtain⟨σ1,H1,I1,q1⟩:=h1;exact⟨σ1,H1,jn I1,q1⟩
 |cont=>obtain⟨σ1,H1,I1,q1⟩:=h1;exact⟨σ1,H1,jn I1,q1⟩
 |ret u=>obtain⟨v,σ1,H1,I1,rv,q1⟩:=h1;exact⟨v,σ1,H1,jn I1,rv,q1⟩
end
end L2.Sk
namespace L2.Sk
open PySem PySem.Spec PyProof.Rows PySem.W
def bmV:List Value:=[.type "ValueError",.type "Exception",.type "BaseException",.type "object"]
def qde (K:Fr0) (C S:Addr):Bool:=match K.lookup C with
 |some ⟨_,_,.cls cd,_⟩=>cd.mro.contains (.ref S)
 |_=>false
theorem qcp {K:Fr0} {h:Heap} {C S:Addr} (X:K.In h) (q:excIn K C bmV "ValueError.__new__"=true) (hs:qde K C S=true):∃bm,XC h C bm/\(yad C::bm).contains (.ref S)=true:=by
 unfold excIn at q
 split at q
 ·rename_i dd cd sl ho
  split at q
  ·rename_i C' bm k0 k1 k2 k3 n k5 hm hl
   simp only[yaj,beq_iff_eq,ydE]at q
   obtain⟨⟨⟨⟨⟨e1,e2⟩,hdel⟩,ht⟩,hok⟩,hni⟩:=q
   subst e1 e2
   unfold qde at hs
   rw[ho]at hs
   dsimp only at hs
   rw[hm]at hs
   obtain⟨nm,bs,mro,ns,qn,hd,sn,sub,ab,col,del⟩:=cd
   dsimp only at hm hdel hok hni
   subst hm hdel
   have hz:sl = #[k0,k1,k2,k3,some (.builtin _),k5]:=Array.toList_inj.mp hl
   subst hz
   have hT:=tail_of_in X ht
   refine⟨bm,⟨hT.hasType (by decide +kernel),nm,qn,ns,bs,hd,sn,sub,ab,col,dd,k0,k1,k2,k3,k5,_,"ValueError.__init__","ValueError",bmV,_,X _ _ ho,.of_isNs (isNs_of_in X hok),nsMap_none_of_in X hok hni,hT,PySem.F.excBase_ValueError⟩,hs⟩
  ·cases q
 ·cases q
def qhU (K:Fr0) (D:Addr):Bool :=
 findIn K (.ref D) "__getattribute__"==some (some (.builtin "BaseException.__getattribute__"))&&findIn K (.ref D) "__getattr__"==some none &&
 findIn K (.ref D) "__class__"==some (some (.builtin "object.__class__"))&&mroIn K D (.type "object")==some true&&subIn K (.ref D) (.type "BaseException")==some true&&(clsIn K D).isSome &&
 (["int","bool","str","tuple","list","dict"].all λT=>kitOne K (.ref D) (.type T)==some false)
theorem qjY {K:Fr0} {D:Addr} (h:qhU K D=true):XK6 K D:=by
 unfold qhU at h
 simp only[yaj,beq_iff_eq]at h
 obtain⟨⟨⟨⟨⟨⟨h1,h2⟩,h3⟩,h4⟩,h5⟩,h6⟩,h7⟩:=h
 exact⟨h1,h2,h3,h4,h5,h6,λT hT=>by simpa using List.all_eq_true.mp h7 T hT⟩
def qdf(n m:Str):Bool:=n==m||m=="SackError"
def qjZ (K:Fr0) (S:Addr) (TN:List Str) (n:Str):Bool:=match yG K n with
 | some C=>excIn K C bmV "ValueError.__new__"&&qde K C S&&qhU K C&&kitOne K (.ref C) (.type "ValueError")==some true &&
  TN.all λm=>match yG K m with
   |some Cm=>kitOne K (.ref C) (.ref Cm)==some (qdf n m)
   |none=>false
 |none=>false
def qll (K:Fr0) (RN TN:List Str):Bool:=match yG K "SackError" with
 |some S=>excIn K S bmV "ValueError.__new__"&&qde K S S&&RN.all (qjZ K S TN)
 |none=>false
structure XT (K:Fr0) (mg:Str->Option Value) (RN TN:List Str):Prop where
 all:qll K RN TN=true
 mgc:∀n C,yG K n=some C->mg n=some (.ref C)
theorem qfN {K:Fr0} {h:Heap} {mg:Str->Option Value} (X:K.In h) (G:h.Ns yah mg) (n:Str) (C:Addr) (e:yG K n=some C):mg n=some (.ref C):=by
 unfold yG at e
 split at e
 ·rename_i C' q
  cases e
  exact mg_of X G q
 ·cases e
section
variable{K:Fr0}{mg:Str->Option Value}{RN TN:List Str}
theorem XT.sup (t:XT K mg RN TN):∃S,yG K "SackError"=some S/\excIn K S bmV "ValueError.__new__"=true/\qde K S S=true/\RN.all (qjZ K S TN)=true:=by
 have h:=t.all
 unfold qll at h
 split at h
 ·rename_i S e
  simp only[yaj]at h
  exact⟨S,e,h.1.1,h.1.2,h.2⟩
 ·cases h
theorem XT.row (t:XT K mg RN TN) {S:Addr} (hS:yG K "SackError"=some S) {n:Str} (hn:RN.contains n=true):qjZ K S TN n=true:=by
 obtain⟨S',e,_,_,h⟩:=t.sup
 rw[hS]at e
 cases e
 exact List.all_eq_true.mp h n (by simpa using hn)
theorem XT.cls (t:XT K mg RN TN) {n:Str} {C:Addr} (h:clR K RN n=some C):yG K n=some C/\∃S,yG K "SackError"=some S/\excIn K C bmV "ValueError.__new__"=true/\qde K C S=true/\XK6 K C/\kitOne K (.ref C) (.type "ValueError")=some true /\
  ∀m∈TN,∃Cm,yG K m=some Cm/\kitOne K (.ref C) (.ref Cm)=some (qdf n m):=by
 unfold clR at h
 split at h
 ·rename_i hn
  obtain⟨S,hS,_⟩:=t.sup
  have r:=t.row hS hn
  unfold qjZ at r
  rw[h]at r
  simp only[yaj,beq_iff_eq]at r
  obtain⟨⟨⟨⟨r1,r2⟩,r3⟩,r4⟩,r5⟩:=r
  refine⟨h,S,hS,r1,r2,qjY r3,r4,λm hm=>?_⟩
  have:=List.all_eq_true.mp r5 m hm
  split at this
  ·rename_i Cm e
   exact⟨Cm,e,by simpa using this⟩
  ·cases this
 ·cases h
theorem XT.has (t:XT K mg RN TN) {n:Str} (hn:RN.contains n=true):∃C,clR K RN n=some C:=by
 obtain⟨S,hS,_⟩:=t.sup
 have r:=t.row hS hn
 unfold qjZ at r
 split at r
 ·rename_i C e
  exact⟨C,by unfold clR;rw[if_pos hn];exact e⟩
 ·cases r
theorem XT.ask (t:XT K mg RN TN) {n m:Str} (hn:RN.contains n=true) (hm:m∈TN):∃Cm,yG K m=some Cm:=by
 obtain⟨C,hC⟩:=t.has hn
 obtain⟨_,_,_,_,_,_,_,h⟩:=t.cls hC
 obtain⟨Cm,e,_⟩:=h m hm
 exact⟨Cm,e⟩
theorem XT.xcls (t:XT K mg RN TN) {base:Heap} (X:K.In base):∃S,mg "SackError"=some (.ref S)/\qlk K base RN S:=by
 obtain⟨S,hS,h1,h2,_⟩:=t.sup
 refine⟨S,t.mgc _ _ hS,⟨(qcp X h1 h2).imp λbm h=>h.1,λn C h=>?_,λn C h=>?_⟩⟩
 ·obtain⟨_,S',hS',r1,r2,_⟩:=t.cls h
  rw[hS]at hS'
  cases hS'
  exact qcp X r1 r2
 ·obtain⟨_,_,_,_,_,r,_⟩:=t.cls h
  exact r
end
def qbv (RN:List Str) (m:Str) (f:M D):M D:=bnd f λd=>match d with
 |.exc n=>if RN.contains n then ret (.bl (m=="ValueError"||qdf n m))else λ_ => .bad
 |_=>λ_ => .bad
section
variable{X:Cx}{c:Fc}{a b e:Expr}{pos:Pos}{RN TN:List Str}
def ql5(K:Fr0)(RN:List Str)(m:Str)(Cm:V):List V->Hp->VK->Prop:=λxs H Q=>∃v n A,xs=[v,Cm]/\RN.contains n=true/\Is K A H (.exc n) v/\Q (.bl (m=="ValueError"||qdf n m)) H
theorem qcq {m:Str} {Cm:V} {um:Value} (hr:zU Cm um) (hu:∀u,zU Cm u->u=um) (hk:∀n C,yG X.K n=some C->RN.contains n=true->kitOne X.K (.ref C) um=some (m=="ValueError"||qdf n m)):jO X (.builtin "isinstance") (ql5 X.K RN m Cm):=by
 intro pins s σ H xs us Q I r h
 obtain⟨v,n,A,rfl,hn,hi,q⟩:=h
 obtain⟨u,w,rfl,r1,r2⟩:=qK.two r
 rw[hu w r2]
 obtain⟨z,rfl,C,hC,h1,h2⟩:=hi
 cases (show u=yad z from r1)
 exact w8 I h1 h2 (hk n C hC hn) λtk=>⟨.bl _,H,I.tok tk,rfl,q⟩
theorem qeq {m:Str} {f:M D} {t:TE} {Cm:V} (w:∀Z σ H Q,Rep X.K c Z σ H->Wp X.K c σ H Q (f Z)->t σ H Q):∀Z σ H Q,Rep X.K c Z σ H->Wp X.K c σ H Q (qbv RN m f Z)->tCB (ql5 X.K RN m Cm) (qg6 t (qg6 (tC Cm) qlT)) σ H Q:=λZ σ H Q r h=>w Z σ H _ r (Wp.bnd h λd Z1 v H1 r1 i1 g1 h1=>by
 cases d with
 | exc n=>
  dsimp only at h1
  by_cases hn:RN.contains n=true
  ·rw[if_pos hn]at h1
   exact⟨v,n,_,rfl,hn,i1,h1 _ H1 r1 rfl .refl⟩
  ·rw[if_neg hn]at h1
   exact h1.elim
 |_=>exact h1.elim)
theorem ua {m:Str} {mgl:Str->Option Value} {p p2:Pos} {f:M D} (t:XT X.K X.mg RN TN) (hm:m∈TN) (hne:(m=="ValueError")=false) (hg:Gl X "isinstance") (hmi:X.mg "isinstance"=none) (hg2:Gl X m) (ha:DE X c a f)
  (hs:∃Cm,yG X.K m=some Cm)
  (hv:yaA "isinstance"=some (.builtin "isinstance"):=by first|rfl|exact PySem.boot_isinstance) (hdb2:(m==("__debug__":Str))=false:=by decide)
  (he:yae [a,.Name m p2] X.env=(false,eval a X.env)::yae [.Name m p2] X.env:=by rfl) (hpl:(yaO pos (yae [.Name m p2] X.env)).any (·.1)=false:=by rfl):DE X c (.Call (.Name "isinstance" p) [a,.Name m p2] [] pos) (qbv RN m f):=by
 obtain⟨ta,pa,w⟩:=ha
 obtain⟨Cm,hCm⟩:=hs
 refine⟨_,vz (qcq (RN:=RN) (m:=m) (Cm:=.ref Cm) (um:=.ref Cm) rfl (λu h=>h) λn C hC hn=>?_) hg hmi hv (jP pa (jP (qbw (v:=.ref Cm) hg2 (t.mgc m Cm hCm) rfl hdb2) vQ (by rfl)) he) (by decide) (by decide) he hpl,qeq w⟩
 have hcl:clR X.K RN n=some C:=by unfold clR;rw[if_pos hn];exact hC
 obtain⟨_,_,_,_,_,_,_,h⟩:=t.cls hcl
 obtain⟨Cm',e1,e2⟩:=h m hm
 rw[hCm]at e1
 cases e1
 rw[e2,hne];rfl
theorem qhV {p p2:Pos} {f:M D} (t:XT X.K X.mg RN TN) (hg:Gl X "isinstance") (hmi:X.mg "isinstance"=none) (hg2:Gl X "ValueError") (hm2:X.mg "ValueError"=none) (ha:DE X c a f)
  (hv:yaA "isinstance"=some (.builtin "isinstance"):=by first|rfl|exact PySem.boot_isinstance) (hv2:yaA "ValueError"=some (.type "ValueError"):=by rfl)
  (he:yae [a,.Name "ValueError" p2] X.env=(false,eval a X.env)::yae [.Name "ValueError" p2] X.env:=by rfl) (hpl:(yaO pos (yae [.Name "ValueError" p2] X.env)).any (·.1)=false:=by rfl):DE X c (.Call (.Name "isinstance" p) [a,.Name "ValueError" p2] [] pos) (qbv RN "ValueError" f):=by
 obtain⟨ta,pa,w⟩:=ha
 refine⟨_,vz (qcq (RN:=RN) (m:="ValueError") (Cm:=.ty "ValueError") (um:=.type "ValueError") rfl (λu h=>h) λn C hC hn=>?_) hg hmi hv (jP pa (jP (qdy (v:=.ty "ValueError") hg2 hm2 hv2 rfl (by decide) (by decide)) vQ (by rfl)) he) (by decide) (by decide) he hpl,qeq w⟩
 have hcl:clR X.K RN n=some C:=by unfold clR;rw[if_pos hn];exact hC
 obtain⟨_,_,_,_,_,_,h,_⟩:=t.cls hcl
 rw[h];rfl
end
section
variable{P:yap}{w:World}{K:yai}{mg:Str->Option Value}{base:Heap}
theorem qcr {x qual:Str} {st:Stmt} {f:Addr} {fd:yaN} {N ps:List Str} {k:Nat} {O:List Nat} {body:MS} (F:Fun K x qual st f fd) (S:qy N ps (qd st)) (hO:∀i∈O,ps.length<=i)
  (hb:∀(cdv:Value)(A:yar)(outer:List yaG)(s:yab)(H:Hp)(E:XK)(B:Addr->Prop),yb k (A.deeper (ya0 qual (qd st) s.heap.objs.size f cdv))->AloneA (A.deeper (ya0 qual (qd st) s.heap.objs.size f cdv)) H ->
   DSs (qdb CX0 P w K mg base N qual (qd st) f cdv A outer s H E).nox (cfn O [] B H (λ_=>False) (λ_ _=>False) λ_=>none) (qx st) body) :
  qau P w K mg base CX0 (k+1) f fd ps (spD K (dfn N.length ps.length body)):=by
 obtain⟨oc,od,kV,doc,pm,an,cdv,ct,osl,rfl,lk,hcd⟩:=F.ex
 refine qjV lk hcd S (λvs H Q E h=>?_) (λA outer s H vs Q E hr al h=>?_)
 ·obtain⟨ds,B,il,_,h⟩:=h
  unfold dfn at h
  by_cases e:ds.length=ps.length
  ·rw[il.length];exact e
  ·rw[if_neg e]at h;exact h.elim
 ·obtain ⟨ds,B,il,tb,h⟩:=h
  obtain⟨t,p,wt⟩:=hb cdv A outer s H E B hr al
  refine⟨t,p.nox,?_⟩
  unfold dfn at h
  by_cases e:ds.length=ps.length
  ·rw [if_pos e]at h
   refine wt (jA N.length ds) (ze N vs) H _ (wn il tb (λi hi=>by rw[e];exact hO i hi)) ?_
   have same:∀{Z:Env}{σ:St}{H':Hp},Rep K (cfn O [] B H (λ_=>False) (λ_ _=>False) λ_=>none) Z σ H'->zG H H':=λr b o hb=>r.kp b o hb λz=>z
   cases eb:body (jA N.length ds) with
   |bad=>rw[eb]at h;exact h.elim
   |exc z Z=>rw[eb]at h;exact h.elim
   |ok fl=>
    rw[eb]at h
    cases fl with
    |nx Z=>exact λσ' H' r' _=>h .non H' (same r') rfl
    |rt d Z=>exact λv σ' H' r' i' _=>h v H' (same r') i'
    |bk Z=>exact h.elim
    |ct Z=>exact h.elim
  ·rw[if_neg e]at h;exact h.elim
structure qbJ (P:yap) (w:World) (K:yai) (mg:Str->Option Value) (base:Heap) (k:Nat) (x:Str) (ps:List Str) (sp:Sp):Prop where
 ex:∃f fd,qau P w K mg base CX0 k f fd ps sp/\mg x=some (.ref f)/\yam K (.ref f)=true/\yF K fd ps []
end
end L2.Sk
namespace L2.Sk
open PySem PySem.Spec PyProof.Rows
section
variable{Z:Env}{f g:M D}{l:M (List D)}{p q:MS}{RN:List Str}
theorem qax (F:List D->R D):jT RN F l Z=match l Z with|.ok (xs,Z1)=>(match F xs with|.ok d => .ok (d,Z1)|.exc x _=>(if RN.contains x.cls then .exc x Z1 else .bad)|.bad => .bad)|.exc x Z' => .exc x Z'|.bad => .bad:=by
 simp only[jT,bnd]
 cases l Z with
 |ok z=>obtain⟨z1,Z1⟩:=z;cases F z1<;>rfl
 |exc x Z'=>rfl
 |bad=>rfl
theorem qcs (F:List D->R D):yP F l Z=match l Z with|.ok (xs,Z1)=>(match F xs with|.ok d => .ok (d,Z1)|_ => .bad)|.exc x Z' => .exc x Z'|.bad => .bad:=by
 simp only[yP,bnd]
 cases l Z with
 |ok z=>obtain⟨z1,Z1⟩:=z;cases F z1<;>rfl
 |exc x Z'=>rfl
 |bad=>rfl
theorem qfO(x:Str):wz x l Z=match l Z with|.ok (ds,Z')=>(if qC ds.length then .exc ⟨x,.non⟩ Z' else .bad)|.exc z Z' => .exc z Z'|.bad => .bad:=rfl
theorem ql6(F:List D->R D):qgC RN p F Z=match p Z with|.exc x Z'=>(if RN.contains x.cls then(match F [.exc x.cls] with|.ok d => .ok (.rt d Z')|_ => .bad)else .bad)|r=>r:=rfl
theorem qer(n i:Nat)(g:M D):wC RN n i p g Z=match p Z with|.exc x Z'=>(if RN.contains x.cls then(match g ((yag n none).set i (some (.exc x.cls))) with|.ok (d,_) => .ok (.rt d Z')|_ => .bad)else .bad)|r=>r:=rfl
theorem qj0 (m:Str):qbv RN m f Z=match f Z with|.ok (.exc n,Z1)=>(if RN.contains n then .ok (.bl (m=="ValueError"||qdf n m),Z1)else .bad)|.ok _ => .bad|.exc x Z' => .exc x Z'|.bad => .bad:=by
 simp only[qbv,bnd]
 cases f Z with
 |ok z=>
  obtain⟨z1,Z1⟩:=z
  cases z1<;>first|rfl|(dsimp only;split<;>rfl)
 |exc x Z'=>rfl
 |bad=>rfl
theorem qhW (F:D->List D->Option D):qjW F f l Z=match f Z with
  |.ok (.lst ds,Z1)=>(match l Z1 with|.ok (ys,Z2)=>(match F (.lst ds) ys with|some d => .ok (d,Z2)|none => .bad)|.exc x Z' => .exc x Z'|.bad => .bad)
  |.ok _ => .bad|.exc x Z' => .exc x Z'|.bad => .bad:=by
 simp only[qjW,bnd]
 cases f Z with
 | ok z=>
  obtain⟨z1,Z1⟩:=z
  cases z1 with
  |lst ds=>
   show bnd l (λys=>lift (F (D.lst ds) ys)) Z1=(match l Z1 with|.ok (ys,Z2)=>(match F (.lst ds) ys with|some d => .ok (d,Z2)|none => .bad)|.exc x Z' => .exc x Z'|.bad => .bad)
   unfold bnd
   cases l Z1 with
   |ok z=>obtain⟨z2,Z2⟩:=z;(dsimp only;cases F (.lst ds) z2<;>rfl)
   |exc x Z'=>rfl
   |bad=>rfl
  |_=>rfl
 |exc x Z'=>rfl
 |bad=>rfl
end
theorem qhX {n p:Nat} {body:MS} {ds:List D} {d:D} (h:ds.length=p) (e:∃Z,body (jA n ds)=.ok (.rt d Z)):wy n p body ds=.ok d:=by
 obtain⟨Z,e⟩:=e
 unfold wy;rw[if_pos h,e]
theorem qct {n p:Nat} {body:MS} {ds:List D} (h:ds.length=p) (e:∃Z,body (jA n ds)=.ok (.nx Z)):wy n p body ds=.ok .non:=by
 obtain⟨Z,e⟩:=e
 unfold wy;rw[if_pos h,e]
theorem qes {n p:Nat} {body:MS} {ds:List D} {x:Exn} {Z:Env} (h:ds.length=p) (e:body (jA n ds)=.exc x Z):wy n p body ds=.exc x Z:=by
 unfold wy;rw[if_pos h,e]
theorem qgD{p q:MS}{Z Z':Env}{x:Exn}(h:p Z=.exc x Z'):qI p q Z=.exc x Z':=by unfold qI;rw[h]
def unO(_:Nat)(c:Fc):Fc:={c with O:=[],P:=[],B:=λ_=>True}
theorem Gr.unSame{c:Fc}{σ:St}{H H':Hp}{i:Nat}(g:Gr (unO i c).O σ H H'):zG H H':=λb o h=>g.ext.at_ b o (λj hj=>by cases hj) h
theorem Rep.un {K:Fr0} {c:Fc} {Z:Env} {σ:St} {H:Hp} {i:Nat} (r:Rep K c Z σ H) (_:i∈c.O):Rep K (unO i c) Z σ H:=by
 have all:∀b:Addr,Cn (unO i c) σ b:=λb=>⟨trivial,λj hj=>by cases hj⟩
 refine⟨r.len,λk d hk=>?_,λj hj=>(by cases hj),λk j a hk=>(by cases hk),⟨λ_ _=>trivial,r.b0.2⟩,r.kp,r.dm,λj hj=>(by cases hj),λj hj=>(by cases hj)⟩
 obtain⟨v,h1,h2⟩:=r.val k d hk
 refine⟨v,h1,.inr ⟨λz=>(by cases z),?_⟩⟩
 rcases h2 with⟨hk2,ds,a,xs,h3,h5,h6,h7⟩|⟨hk2,h3⟩
 ·subst h3 h5
  exact⟨a,xs,rfl,all a,h6,IsL.ext Ext.refl (λb _ _=>all b) h7⟩
 ·exact Is.ext Ext.refl (λb _ _=>all b) h3
theorem Gr.un{c:Fc}{σ:St}{H H':Hp}{i:Nat}(g:Gr (unO i c).O σ H H'):Gr c.O σ H H':=.of_same g.unSame
open Classical in
open Classical in
open Classical in
section
variable{X:Cx}{c:Fc}{e:Expr}{pos:Pos}
def qmV:List D->Option (List D)
 | [.int i,.int j]=>if decide (-(2 ^ 62)<=i)&&decide (i<2 ^ 62)&&decide (-(2 ^ 62)<=j)&&decide (j<2 ^ 62)then some (qab i (j-i).toNat)else none
 |_=>none
theorem XL2.un{i:Nat}{cl:Str->Option Addr}{E:XK}(L:XL2 X c cl E):XL2 X (unO i c) cl E:=⟨L.pass,L.wish⟩
def qgE (i n:Nat) (g:D->Env->Option Env) (b:MS):Nat->MS
 |0,Z=>match zi i Z with
  |some ds=>if ds.length<=n then .ok (.nx Z)else .bad
  |none => .bad
 | m + 1,Z=>match zi i Z with
  | some ds=>match ds[n-(m+1)]? with
   |none => .bad
   | some d=>match g d Z with
    |none => .bad
    |some Z1=>match b Z1 with
     |.ok (.nx Z2)=>qgE i n g b m Z2
     |.ok (.ct Z2)=>qgE i n g b m Z2
     |.ok (.bk Z2) => .ok (.nx Z2)
     |.ok (.rt r Z2) => .ok (.rt r Z2)
     |.exc x Z2 => .exc x Z2
     |.bad => .bad
  |none => .bad
end
section
variable{Z:Env}{f:M D}{t:M Bool}{n:M (List D)}
open Classical in
open Classical in
open Classical in
end
def qkM(K:Fr0)(neg:Bool):R2:=λx y H Q=>∃d e ds A,Is K A H d x/\Is K A H e y/\sqD e=some ds/\qaR d=true/\qaR e=true/\Q (.bl (if neg then !((toPDs ds).any λy=>yb6 y (zt d)) else(toPDs ds).any λy=>yb6 y (zt d))) H
def inA (x y:D):Option D:=match sqD y with
 |some ds=>if qaR x&&qaR y then some (.bl ((toPDs ds).any λy=>yb6 y (zt x)))else none
 |none=>none
section
variable{X:Cx}
theorem qay {d:D} (h:qaR d=true):(zt d).canLay0=true/\(zt d).depth<=50:=by
 unfold qaR at h
 rw[yaj,decide_eq_true_eq]at h
 exact h
theorem qj1 {k:Nat} (hr:yn k X.A):OpR X (yaI .In) (qkM X.K false):=by
 intro pins s σ H x y v u Q I rx ry h
 obtain⟨d,e,ds,A,h1,h2,es,o1,o2,q⟩:=h
 obtain⟨as,r1,_⟩:=jm I (vm o1) h1 rx
 obtain⟨bs,r2,_⟩:=jm I (vm o2) h2 ry
 have c1:=(qay o1).1
 have c2:=(qay o2).1
 have u1:=(qay o1).2
 have u:=hr.units
 cases e<;>simp only[sqD]at es<;>try (cases es;done)
 ·cases es
  exact SeqAt.in_tuple_reads r2 r1 (by simpa [zt,ycr] using c2) c1 (by omega) ⟨.bl _,H,I,rfl,by simpa using q⟩
 ·cases es
  exact SeqAt.in_list_reads r2 r1 (by simpa [zt,ycr] using c2) c1 (by omega) ⟨.bl _,H,I,rfl,by simpa using q⟩
end
theorem qhY {K:Fr0}:OpS K inA (qkM K false):=by
 intro A H x y d v u Q hn ix iy e k
 unfold inA at e
 split at e
 ·rename_i ds es
  obtain⟨e1,e2⟩:=zj e
  subst e2
  rw[yaj]at e1
  exact⟨x,y,ds,A,ix,iy,es,e1.1,e1.2,k _ H (zG.refl H) rfl⟩
 ·cases e
def inB(x y:D):Option D:=(inD x y).or (inA x y)
theorem qj2{X:Cx}{k:Nat}(hr:yn k X.A):OpR X (yaI .In) (λx y H Q=>rIn X.K false x y H Q\/qkM X.K false x y H Q):=OpR.or qdP (qj1 hr)
theorem qhZ {K:Fr0}:OpS K inB (λx y H Q=>rIn K false x y H Q\/qkM K false x y H Q):=by
 intro A H x y d v u Q hn ix iy e k
 unfold inB at e
 cases e1:inD x y with
 |some b=>rw[e1]at e;exact .inl (qjS A H x y d v u Q hn ix iy (by rw[e1];exact e) k)
 |none=>rw[e1]at e;exact .inr (qhY A H x y d v u Q hn ix iy e k)
section
variable{prog:yap}{w:World}{A:yar}{R:ydN->yab->Prop}{I:Addr}{fp wr:List Addr}{n:Nat}{P:Nat->Value->Prop}{St:Nat->Heap->Prop}
end
section
variable{prog:yap}{w:World}{A:yar}{E:Value->yab->Prop}{s:yab}
end
def qj3:List D->Option (List (List Int))
 | []=>some []
 |.tup ts::r=>match yJ ts,qj3 r with
  |some n,some ns=>some (n::ns)
  |_,_=>none
 |_=>none
def qlm(ns:List (List Int))(i:Nat):List Int:=(ns[i]?).getD []
def qln(ns:List (List Int)):Nat:=argBest (λi j=>HT.lexLt (qlm ns i) (qlm ns j)) (ns.length-1)
def qmN:List D->Option D
 | [.lst ds]=>match qj3 ds with
  |some (n::ns)=>some (.tup ((qlm (n::ns) (qln (n::ns))).map .int))
  |_=>none
 |_=>none
section
variable{X:Cx}
end
def ql7 (x:D) (ys:List D):Option D:=match x,ys with
 |.lst ds,[d]=>if ds.all qaR&&qaR d then(ds.findIdx? λe=>yb6 (zt e) (zt d)).map λj => .int j else none
 |_,_=>none
section
variable{prog:yap}{w:World}{A:yar}{E:Value->yab->Prop}{s:yab}
end
section
variable{X:Cx}{c:Fc}{a b e:Expr}{pos:Pos}{es:List Expr}{kk:Nat}{tp:Pos}
end
section
variable{X:Cx}{c:Fc}{a b e:Expr}{pos:Pos}{es:List Expr}{kk:Nat}{tp:Pos}
def qj4:List D->Option (List D)
 | [.lst xs]=>some (qhM 0 xs)
 |_=>none
def qj5(f:M (List D)):M (List D):=bnd f λds=>lift (qj4 ds)
end
section
variable{X:Cx}{c:Fc}{pos:Pos}
end
theorem qaz:entryFor table "proto.unchain"=some ybM.«proto.unchain»:=entryFor_of_fast (by kernel_rfl)
theorem qaA:plainId "proto.unchain"=true:=by kernel_rfl
section
variable{prog:yap}{w:World}{A:yar}{E:Value->yab->Prop}{s:yab}
theorem qaB {x h:Value} {e:Addr} {o:Obj} {vs:Array Value} {Q:Value->yab->Prop} (he:s.heap.get? e=some o) (hd:o.data=.fields vs) (h2:vs[2]? = some .none) (q:Q .none s) :
  wpAny (model prog w) A (runValue (.builtin "proto.unchain" ⟨[x,.ref e,h,.bool false],[]⟩)) Q E s:=by
 refine wpAny_runValue (yc3 qaz ?_)
 rw[yc7 qaA _]
 show wpAny _ A.in1 (field (.ref e) 2 >>= _) _ _ s
 refine yaa (yaz he hd h2 ?_)
 rw[if_pos (show(yau==yau)=true by decide)]
 exact yaf q
theorem qbK {it e:Addr} {o:Obj} {vs:Array Value} {x left step:Int} {Q:Option Value->yab->Prop} (hh:A.handled=some (.ref e)) (he:s.heap.get? e=some o) (hd:o.data=.fields vs) (h2:vs[2]? = some .none)
  (hit:ycz s.heap it x left step) (hleft:left<=0) (q:∀h',Heap.ExtBut it s.heap h'->Q none {s with heap:=h' }):wpAny (model prog w) A (ybT (.ref it)) Q E s:=by
 have ty:s.TypeIs (.ref it) "range_iterator":=⟨_,hit,rfl⟩
 unfold ybT
 refine yaa (ycJ (wpAny_callSpecial?_slot (name:=ybb "__next__") ty ycQ (ya6 ycQ ty PySem.F.entry_range_iterator_next ?_ (PySem.F.args_range_iterator_next_1 _))))
 show wpAny (model prog w) _ (field (yad it) 0 >>= _) _ _ s
 refine yaa (yaz hit rfl (x:=ybA x) rfl (yaa (yaz hit rfl (x:=ybA left) rfl (yaa (yaz hit rfl (x:=ybA step) rfl ?_)))))
 show wpAny (model prog w) _ (if left<=0 then _ else _) _ _ s
 rw[if_pos hleft]
 refine yaa (ycq (yaa ?_))
 show wpAny (model prog w) _ (newExc (.type "StopIteration") [] >>= _) _ _ _
 simp only[newExc,newTuple]
 refine yaa (yaa (yaM ?_ (by size_fits)))
 refine yaa (m:=ydf _ _) (wpAny_of_eq (a:=yau) (by first|rfl|(simp only[ydf];rfl)) (yaM ?_ (by size_fits)))
 simp only[raiseNew]
 refine yaa (wpAny_handled ?_)
 rw[show A.in1.handled=some (.ref e)from hh]
 have le:e<s.heap.objs.size:=yac he
 have sz:(s.heap.push {cls:=yaR "tuple",data:=ycN #[]}).objs.size=s.heap.objs.size+1:=by simp[Heap.push]
 have ne:(yad e != yad (s.heap.push {cls:=yaR "tuple",data:=ycN #[]}).objs.size)=true:=by
  rw[bne_iff_ne]
  intro z
  have z':=ydx z
  rw[sz]at z'
  exact absurd (z'▸le) (Nat.not_lt.mpr (yeg _))
 show wpAny _ _ (if(yad e != yad (s.heap.push {cls:=yaR "tuple",data:=ycN #[]}).objs.size)=true then _ else _) _ _ _
 rw[if_pos ne]
 refine yaa (yaZ (qaB (Heap.get?_push_of_some _ (Heap.get?_push_of_some _ he)) hd h2 ?_))
 show wpAny _ _ (setField (.ref (s.heap.push {cls:=yaR "tuple",data:=ycN #[]}).objs.size) 2 (.ref e) >>= _) _ _ _
 refine yaa (yb3 (Heap.get?_push_size _ rfl) rfl (by show 2<_;simp;omega) (wpAny_throw ?_))
 have hn:((s.heap.push {cls:=yaR "tuple",data:=ycN #[]}).push {cls:=yaR "StopIteration",data:=ycA (#[yad s.heap.objs.size,yau,yau,yau,yaY false,yau]++ownMembersOf (yaR "StopIteration") [])}).get? (s.heap.push {cls:=yaR "tuple",data:=ycN #[]}).objs.size=some {cls:=yaR "StopIteration",data:=ycA (#[yad s.heap.objs.size,yau,yau,yau,yaY false,yau]++ownMembersOf (yaR "StopIteration") [])}:=Heap.get?_push_size _ rfl
 refine yaa (ycP (T:="StopIteration") (b:=true) ⟨_,Heap.get?_update_self _ hn rfl,rfl⟩ ydg ?_)
 refine yaf (q _ λb ob hb g=>?_)
 have lb:b<s.heap.objs.size:=yac g
 refine(Heap.get?_update_other _ _ (λz=>?_)).trans (Heap.get?_push_of_some _ (Heap.get?_push_of_some _ g))
 rw[sz]at z
 exact absurd (z▸lb) (Nat.not_lt.mpr (yeg _))
end
theorem AloneA.laid {A:yar} {H:Hp} {p:Addr} {o:HO} (x:AloneA A H) (h:H p=none):AloneA A (upd H p o):=by
 obtain⟨e,oe,u,vs,h1,h2,h3⟩:=x
 exact⟨e,oe,u,vs,h1,by rw[qm (qA h2 h)];exact h2,h3⟩
theorem AloneA.rep {K:Fr0} {c:Fc} {A:yar} (x:AloneA A c.H0) (hio:∀a,¬c.Io a) (Z:Env) (σ:St) (H:Hp) (r:Rep K c Z σ H):AloneA A H:=by
 obtain⟨e,oe,u,vs,h1,h2,h3⟩:=x
 exact⟨e,oe,u,vs,h1,r.kp _ _ h2 (hio e),h3⟩
theorem AloneA.cin {K:Fr0} {A:yar} {B0:Addr->Prop} {H1 H:Hp} {acc:Addr} {S':Nat->Option (Option V)} {O':List Nat} {Io':Addr->Prop} {Z:Env} {σ:St} (x:AloneA A H1) (hn:H1 acc=none) (hio:∀a,¬Io' a) (r:Rep K (Sk.cin B0 H1 O' Io' acc S') Z σ H):AloneA A H:=by
 obtain⟨e,oe,u,vs,h1,h2,h3⟩:=x
 have ne:e≠acc:=qA h2 hn
 exact⟨e,oe,u,vs,h1,r.kp e _ (show upd H1 acc (.lst []) e=_ by rw[qm ne];exact h2) (λz=>z.elim (hio e) ne),h3⟩
end L2.Sk
namespace L2
open PySem PySem.Spec PyProof.Rows L2.Sk
structure qj6 (P:yap) (w:World) (K:yai) (tg:Expr) (J:It) (fp:List Addr) (it:Addr) (tn:Nat->Heap->Prop):Prop where
 mem:it∈fp
 obj:∀i h,tn i h->∀b∈fp,∃o,h.get? b=some o/\∀v,o.data ≠ .cell v
 keep:∀i h h',tn i h->(∀b∈fp,∀o,h.get? b=some o->h'.get? b=some o)->tn i h'
 item:∀(X:Cx),X.prog=P->X.w=w->X.K=K->AloneA X.A X.H₀->∀(i:Nat)(pins:List (Addr×Obj))(s:yab)(σ:St)(H:Hp)(E:Value->yab->Prop),Inv X pins σ H s->(∀b∈fp,wT X pins H b)->tn i s.heap->J.go i H ->
  wpAny (model P w) X.A (ybT (.ref it)) (λr s1=>∃u,r=some u /\
   wpAny (model P w) X.A (yce tg (.ref it) u) (λ_ s2=>∃x H',Inv X pins σ H' s2/\zU x u/\J.yld i H x H'/\tn (i+1) s2.heap/\∀b∈fp,H' b=none) E s1) E s
 done:∀(X:Cx),X.prog=P->X.w=w->X.K=K->AloneA X.A X.H₀->∀(i:Nat)(pins:List (Addr×Obj))(s:yab)(σ:St)(H:Hp)(E:Value->yab->Prop),Inv X pins σ H s->(∀b∈fp,wT X pins H b)->tn i s.heap->J.stop i H ->
  wpAny (model P w) X.A (ybT (.ref it)) (λr s1=>r=none/\Inv X pins σ H s1) E s
 self:∀(A:yar)(i:Nat)(s:yab)(Q:Value->yab->Prop)(E:Value->yab->Prop),tn i s.heap->Q (.ref it) s->wpAny (model P w) A (yeV (.ref it)) Q E s
def ql8 (X:Cx) (pins:List (Addr×Obj)) (σ:St) (tg:Expr) (R:It->Hp->Prop) (itv:Value) (s2:yab):Prop :=
 ∃(it:Addr)(fp:List Addr)(tn:Nat->Heap->Prop)(J:It)(H':Hp),itv=.ref it/\Inv X pins σ H' s2/\qj6 X.prog X.w X.K tg J fp it tn/\tn 0 s2.heap/\(∀b∈fp,wT X pins H' b)/\R J H'
def PIH (X:Cx) (tg iter:Expr) (wi:TI):Prop :=
 ∀ (pins:List (Addr×Obj)) (s:yab) (σ:St) (H:Hp) (R:It->Hp->Prop),Inv X pins σ H s->wi σ H R ->
  wpAny (model X.prog X.w) X.A (eval iter X.env) (λv s1=>wpAny (model X.prog X.w) X.A (yeV v) (ql8 X pins σ tg R) X.xe s1) X.xe s
theorem qbL {P:yap} {w:World} {K:yai} {tg:Expr} (it:Addr) (lo:Int) (n:Nat):qj6 P w K tg (Itr lo n) [it] it (λi h=>ycz h it (lo+(i:Nat)*1) ((n:Int)-(i:Nat)) 1) where
 mem:=by simp
 obj:=λi h st b hb=>by
  have e:b=it:=by simpa using hb
  subst e
  exact ⟨_,st,λv z=>by
   have z':ycA _=yd3 v:=z
   cases z'⟩
 keep:=λi h h' st k=>k it (by simp) _ st
 item:=by
  intro X hP hw hK hc i pins s σ H E I hf st hg
  subst hP hw hK
  obtain⟨f0,f1,f2,f3,f4,f5⟩:=hf it (by simp)
  refine wpAny_pyNext_range_item st (by have:i<n:=hg;omega) λh' st1 sb=>?_
  have st':ycz h' it (lo+((i+1:Nat):Int)*1) ((n:Int)-((i+1:Nat):Int)) 1:=by
   have e1:lo+((i+1:Nat):Int)*1=lo+(i:Nat)*1+1:=by omega
   have e2:(n:Int)-((i+1:Nat):Int)=(n:Int)-(i:Nat)-1:=by omega
   rw[e1,e2];exact st1
  have I1:Inv X pins σ H {s with heap:=h',toks:=s.toks+1}:=I.turned (λb o hb e=>(sb.2 b hb).trans e) f0 f1 f3 f4 f5
  refine⟨_,rfl,qfb (s:={s with heap:=h',toks:=s.toks+1}) (n:="range_iterator") st' rfl rfl (by decide) ⟨.int (lo+i),H,I1,⟨s.toks,?_⟩,⟨rfl,rfl⟩,st',λb hb=>(hf b hb).1⟩⟩
  rw[yfq]
 done:=by
  intro X hP hw hK hc i pins s σ H E I hf st hg
  subst hP hw hK
  obtain⟨f0,f1,f2,f3,f4,f5⟩:=hf it (by simp)
  obtain⟨e,oe,u,vs,hh,hHe,hde,h2⟩:=hc
  have hoe:s.heap.get? e=some oe:=(I.hok e _ (I.base.frzs e oe u hHe)).1
  exact qbK hh hoe hde h2 st (by have:n<=i:=hg;omega) λh' eb=>⟨rfl,I.turned (t':=s.toks) (λb o hb e=>eb b o hb e) f0 f1 f3 f4 f5⟩
 self:=λ_ _ _ _ _ st h=>yeb st h
section
variable{X:Cx}{tg:Expr}
theorem qet {pins:List (Addr×Obj)} {σ:St} {H:Hp} {s:yab} {R:It->Hp->Prop} {E:Value->yab->Prop} {lo hi:Int} {t u v:Tok} {tk:Nat} (I:Inv X pins σ H s) (h1 : -(2 ^ 62)<=lo) (h2:lo<2 ^ 62) (h3 : -(2 ^ 62)<=hi) (h4:hi<2 ^ 62)
  (q:R (Itr lo (hi-lo).toNat) H):wpAny (model X.prog X.w) X.A (yeV (.ref s.heap.objs.size)) (ql8 X pins σ tg R) E {s with heap:=s.heap.push {cls:=.type "range",data:=.fields #[.int lo t,.int hi u,.int 1 v]},toks:=tk}:=by
 refine yeW (IsRange.new ..) (small_one h1 h2 h3 h4) ?_
 have I1:Inv X pins σ H {s with heap:=s.heap.push {cls:=.type "range",data:=.fields #[.int lo t,.int hi u,.int 1 v]},toks:=tk}:=I.kept λb o e=>Heap.get?_push_of_some _ e
 refine ⟨(s.heap.push {cls:=.type "range",data:=.fields #[.int lo t,.int hi u,.int 1 v]}).objs.size,[(s.heap.push {cls:=.type "range",data:=.fields #[.int lo t,.int hi u,.int 1 v]}).objs.size],_,_,H,rfl,
  I1.kept (t':=tk) λb o e=>Heap.get?_push_of_some _ e,qbL _ lo (hi-lo).toNat,?_,λb hb=>?_,q⟩
 ·have e1:lo+((0:Nat):Int)*1=lo:=by simp
  have e2:(((hi-lo).toNat:Nat):Int)-((0:Nat):Int)=ydZ lo hi 1:=by rw[rangeSize_one];split<;>omega
  show ycz _ _ (lo+((0:Nat):Int)*1) ((((hi-lo).toNat:Nat):Int)-((0:Nat):Int)) 1
  rw[e1,e2]
  exact Heap.get?_push_size _ rfl
 ·have e:b=(s.heap.push {cls:=.type "range",data:=.fields #[.int lo t,.int hi u,.int 1 v]}).objs.size:=by simpa using hb
  subst e
  exact I1.fpOk (yak _) (I1.hok.fresh (yak _))
theorem qdg {a:Expr} {ta:TA} {p pos:Pos} (hg:Gl X "range") (hm:X.mg "range"=none) (ha:PA X [a] ta) (hs:yae [a] X.env=[(false,eval a X.env)]:=by rfl):PIH X tg (.Call (.Name "range" p) [a] [] pos) (qiP ta):=by
 intro pins s σ H R I h
 refine Call_ (vh I hg hm boot_range (yaX (thn (ha pos pins s σ H _ I h) λus s1 ⟨vs,H1,I1,r1,q1⟩=>?_) hs rfl))
 obtain⟨j,e,q1,q2,q⟩:=q1
 subst e
 cases r1 with
 |cons r rr=>
  cases rr
  obtain⟨t,rfl⟩:=r
  exact call_range_1 (qet I1 (by omega) (by omega) q1 q2 (by simpa using q))
end
end L2
namespace L2.Sk
open PySem PySem.Spec PyProof.Rows
def qj7 (X:Cx) (tg:Expr) (ifs:List Expr) (elt:Expr) (scope:Scope) (N':List Str) (wi:TI) (nt:Nat) (fr:List Nat):TE:=λσ H Q=>wi σ H λJ H1=>AloneA X.A H1/\∀acc fp cl C s₀ H₀ pn,H1 acc=none ->
 ∃(g:TG)(tt:TT)(te:TE),PG (qU X scope N' fp cl C s₀ H₀ pn) tg g/\PF (qU X scope N' fp cl C s₀ H₀ pn) ifs tt/\PE (qU X scope N' fp cl C s₀ H₀ pn) elt te /\
 ∃W:Nat->Nat->St->Hp->Prop,(∃m,W 0 m (qu nt fr σ) (upd H1 acc (.lst []))) /\
 ∀ i m σ' H',W i m σ' H'->(J.stop i H'/\Q (.ref acc) H')\/(J.go i H'/\∀x H'',J.yld i H' x H''->g x σ' H'' λσ2 H2=>tt σ2 H2 λb H3=>
  if b=true then te σ2 H3 λy H4=>∃ys,H4 acc=some (.lst ys)/\ys.length<yas/\∃m',m'<m/\W (i+1) m' σ2 (upd H4 acc (.lst (ys++[y])))else ∃m',m'<m/\W (i+1) m' σ2 H3)
section
variable{X:Cx}{tg iter elt:Expr}{ifs:List Expr}{scope:Scope}{pos:Pos}{wi:TI}{N':List Str}{nt:Nat}{fr:List Nat}
theorem qfP (hi:PIH X tg iter wi) (S:jo X scope N' nt fr)
  (hs:∀x,yba iter X.env x=pure x:=by intro _;rfl):PE X (.ListComp elt [⟨tg,iter,ifs,0⟩] scope pos) (qj7 X tg ifs elt scope N' wi nt fr):=by
 intro pins s σ H Q I hw
 obtain⟨cl,hcl,cl1,cl2⟩:=yr (env:=X.env) (scope:=scope) (λy hy hf=>I.ok.has y.1 (.inl (S.frees y hy hf)))
 rw[yeI]
 refine ycl (use:=none) rfl hs hcl S.kind S.names (thn (hi pins s σ H _ I hw) λv s1 h1=>thn h1 λitv s2 h2=>?_)
 obtain⟨it,fp,tn,J,H2,e,I2,T,st2,f2,hal,hR⟩:=h2
 subst e
 have hacc:H2 s2.heap.objs.size=none:=I2.hok.fresh (yak _)
 have hc:AloneA X.A (upd H2 s2.heap.objs.size (.lst [])):=Sk.AloneA.laid hal hacc
 refine yaM (yeD S.nocell (by intro y hy;simp at hy) (λhX hns1 hsb1=>?_) S.kind)
 dsimp only at hns1 hsb1 |-
 have I3:Inv X pins σ (upd H2 s2.heap.objs.size (.lst [])) {s2 with heap:=s2.heap.push {cls:=.type "list",dict:=none,data:=.seq ([]:List Value).toArray} } :=
  I2.lnew (t':=s2.toks) (its:=[]) .nil (yaP _)
 generalize hs3:({s2 with heap:=s2.heap.push {cls:=.type "list",dict:=none,data:=.seq ([]:List Value).toArray} }:yab)=s3 at I3
 have hh3:s2.heap.push {cls:=.type "list",dict:=none,data:=.seq ([]:List Value).toArray}=s3.heap:=by rw[<-hs3]
 rw[hh3]at hns1 hsb1
 have old:∀b o,s3.heap.get? b=some o->hX.get? b=some o:=λb o q=>hsb1.extBut b o (yaq (yac q)) (Heap.get?_push_of_some _ q)
 have objs2:∀b∈fp,∃o,s2.heap.get? b=some o:=λb hb=>by
  obtain⟨o,q,_⟩:=T.obj 0 _ st2 b hb
  exact⟨o,q⟩
 have keep23:∀b o,s2.heap.get? b=some o->s3.heap.get? b=some o:=λb o q=>by rw[<-hh3];exact Heap.get?_push_of_some _ q
 have fpne:∀b∈fp,b≠s2.heap.objs.size:=λb hb=>by
  obtain⟨o,q⟩:=objs2 b hb
  exact yaq (yac q)
 have f3:∀b∈fp,wT X pins (upd H2 s2.heap.objs.size (.lst [])) b:=λb hb=>⟨by rw[qm (fpne b hb)];exact(f2 b hb).1,(f2 b hb).2⟩
 have J0:Inv (qU X scope N' fp cl s3.heap.objs.size s3 (upd H2 s2.heap.objs.size (.lst [])) (X.pn++pins)) [] (qu nt fr σ) (upd H2 s2.heap.objs.size (.lst [])) {s3 with heap:=hX,toks:=s3.toks} :=
  qaa S I3 f3 (λb hb=>(objs2 b hb).imp λo q=>keep23 b o q) cl1 cl2 ⟨_,hns1⟩ old
 obtain⟨g,tt,te,hg,hf,he,W,⟨m0,w0⟩,turn⟩:=hR s2.heap.objs.size fp cl s3.heap.objs.size s3 (upd H2 s2.heap.objs.size (.lst [])) (X.pn++pins) hacc
 have T0:tn 0 hX:=T.keep 0 _ _ st2 λb hb o q=>old b o (keep23 b o q)
 have s3e:∀tk:Nat,({s2 with heap:=hX,toks:=tk}:yab)={s3 with heap:=hX,toks:=tk}:=λtk=>by rw[<-hs3]
 have loop:∀tk:Nat,ybp (model X.prog X.w) X.A (.compLoop (.ListComp elt [⟨tg,iter,ifs,0⟩] scope pos) 0 (.ref it) (.ref s2.heap.objs.size) (ycM scope cl s3.heap.objs.size X.env))
   (ydR (model X.prog X.w) X.A X.xe none (EP X pins σ Q) (.ref s2.heap.objs.size) s3.heap.objs.size) {s3 with heap:=hX,toks:=tk}:=λtk=>by
  have stat:∀{H':Hp},(∀b∈fp,H' b=none)->∀b∈fp,wT (qU X scope N' fp cl s3.heap.objs.size s3 (upd H2 s2.heap.objs.size (.lst [])) (X.pn++pins)) [] H' b:=λ{H'} hn b hb=>by
   obtain⟨o,q⟩:=objs2 b hb
   have hbC:b≠s3.heap.objs.size:=yaq (yac (keep23 b o q))
   refine⟨hn b hb,hbC,λz=>?_,.inl hb,λx c hx=>(f2 b hb).2.2.2.2.1 x c (cl1 x c hx),λp hp=>?_⟩
   ·rcases List.mem_cons.mp (I2.stkSub b z)with z|z
    ·exact(f2 b hb).2.1 z
    ·exact(f2 b hb).2.2.1 z
   ·have hp':p∈X.pn++pins:=by
     rcases mA_.mp (show p∈(X.pn++pins)++[]from hp)with z|z
     ·exact z
     ·cases z
    exact(f2 b hb).2.2.2.2.2 p hp'
  have fr0:∀b∈fp,upd H2 s2.heap.objs.size (.lst []) b=none:=λb hb=>(f3 b hb).1
  refine ug (λn s'=>∃i σ' H',Inv (qU X scope N' fp cl s3.heap.objs.size s3 (upd H2 s2.heap.objs.size (.lst [])) (X.pn++pins)) [] σ' H' s'/\tn i s'.heap/\(∀b∈fp,H' b=none)/\W i n σ' H') ?_ m0
   ⟨0,qu nt fr σ,_,J0.tok tk,T0,fr0,w0⟩
  rintro n s4 ⟨i,σ4,H4,J4,st4,fr4,w4⟩
  rcases turn i n σ4 H4 w4 with⟨stop,qn⟩|⟨go,step⟩
  ·refine thn (T.done (qU X scope N' fp cl s3.heap.objs.size s3 (upd H2 s2.heap.objs.size (.lst [])) (X.pn++pins)) rfl rfl rfl hc i [] s4 σ4 H4 _ J4 (stat fr4) st4 stop) λr s5 ⟨hr,J5⟩=>?_
   subst hr
   obtain⟨m5,n5,_⟩:=J5.loc
   refine⟨m5,n5,λh' sb=>⟨.ref s2.heap.objs.size,H4,qb8 I3 f3 J5 sb,rfl,qn⟩⟩
  ·refine thn (T.item (qU X scope N' fp cl s3.heap.objs.size s3 (upd H2 s2.heap.objs.size (.lst [])) (X.pn++pins)) rfl rfl rfl hc i [] s4 σ4 H4 _ J4 (stat fr4) st4 go) λr s5 ⟨u,hr,h5⟩=>?_
   subst hr
   refine thn h5 λ_ s6 ⟨x,H6,J6,r6,y6,st6,fr6⟩=>?_
   have J6':=J6.pinned (stat fr6) (T.obj _ _ st6)
   have again:∀{σ7:St}{H7:Hp}{s7:yab},Inv (qU X scope N' fp cl s3.heap.objs.size s3 (upd H2 s2.heap.objs.size (.lst [])) (X.pn++pins)) ([]++vP fp s6.heap) σ7 H7 s7->(∃m',m'<n/\W (i+1) m' σ7 H7) ->
     ∃m,m<n/\∃i σ' H',Inv (qU X scope N' fp cl s3.heap.objs.size s3 (upd H2 s2.heap.objs.size (.lst [])) (X.pn++pins)) [] σ' H' s7/\tn i s7.heap/\(∀b∈fp,H' b=none)/\W i m σ' H':=λ{σ7 H7 s7} I7 hm=>by
    obtain⟨m',hm,w7⟩:=hm
    refine⟨m',hm,i+1,σ7,H7,I7.unpinned,T.keep _ _ _ st6 λb hb o q=>(I7.pin (b,o) (mr_ _ (mr_ _ (zN hb q)))).1,λb hb=>?_,w7⟩
    obtain⟨o,q,d⟩:=T.obj _ _ st6 b hb
    exact(I7.pin (b,o) (mr_ _ (mr_ _ (zN hb q)))).2.1
   refine thn (hg _ s6 σ4 H6 x u _ J6' r6 (step x H6 y6)) λ_ s7 ⟨σ7,H7,J7,q7⟩=>?_
   refine thn (hf _ s7 σ7 H7 _ J7 q7) λok s8 ⟨H8,J8,q8⟩=>?_
   cases ok with
   |false=>
    rw[if_neg yal]at q8 |-
    exact again J8 q8
   |true=>
    rw[if_pos rfl]at q8 |-
    refine thn (he _ s8 σ7 H8 _ J8 q8) λz s9 ⟨y,H9,J9,r9,ys,hys,hz,hm⟩=>?_
    refine thn (uy _ s9 σ7 H9 (.ref s2.heap.objs.size) [y] (.ref s2.heap.objs.size) [z] (λ_ H'=>H'=upd H9 s2.heap.objs.size (.lst (ys++[y]))) J9 rfl (.cons r9 .nil) ⟨_,ys,y,rfl,rfl,hys,hz,rfl⟩) λ_ s10 ⟨_,H10,J10,_,e10⟩=>?_
    subst e10
    exact again J10 hm
 have ze:∀tk:Nat,ybp (model X.prog X.w) X.A (.compStart (.ListComp elt [⟨tg,iter,ifs,0⟩] scope pos) 0 (.ref it) (.ref s2.heap.objs.size) (ycM scope cl s3.heap.objs.size X.env))
   (ydR (model X.prog X.w) X.A X.xe none (EP X pins σ Q) (.ref s2.heap.objs.size) s3.heap.objs.size) {s3 with heap:=hX,toks:=tk}:=λtk=>
  ycE (loop tk) (T.self X.A 0 _ _ _ T0 (loop tk))
 have fin:=ze (s2.toks+([]:List (Str×Value)).length)
 rw[<-s3e]at fin
 rw[<-hh3]at fin
 rw[hh3]at fin |-
 exact fin
end
def DIH(X:Cx)(c:Fc)(tg it:Expr)(f:M (List D)):Prop:=∃w,PIH X tg it w/\∀Z σ H Q,Rep X.K c Z σ H->WpI X.K c σ H Q (f Z)->w σ H Q
section
variable{X:Cx}{c:Fc}{tg a b e:Expr}{pos:Pos}
theorem qad {f:M (List D)} {p:Pos} (hg:Gl X "range") (hm:X.mg "range"=none) (ha:DA X c [a] f) (hs:yae [a] X.env=[(false,eval a X.env)]:=by rfl):DIH X c tg (.Call (.Name "range" p) [a] [] pos) (z8 f):=by
 obtain⟨t,p,w⟩:=ha
 refine⟨_,qdg hg hm p hs,λZ σ H Q r h=>w Z σ H _ r (WpL.bndI h λds Z1 vs H1 r1 i1 g1 h1=>?_)⟩
 obtain⟨es,e,h2⟩:=vE h1
 unfold qfv at e
 split at e
 ·rename_i j
  obtain⟨v,rfl,e2⟩:=IsL.inv1 i1
  cases e2
  by_cases hb:(decide (-(2 ^ 62)<=j)&&decide (j<2 ^ 62))=true
  ·rw[if_pos hb]at e
   cases e
   rw[yaj]at hb
   exact⟨j,rfl,of_decide_eq_true hb.1,of_decide_eq_true hb.2,h2 _ H1 r1 (qgs 0 _) .refl⟩
  ·rw[if_neg hb]at e
   cases e
 ·cases e
theorem qcu {it elt:Expr} {ifs:List Expr} {scope:Scope} {N':List Str} {nt:Nat} {fr:List Nat} {fo:Option (Nat×Nat)} {f:M (List D)} {g:D->Env->Option Env} {t:M Bool} {k:M D} (hal:∀Z σ H,Rep X.K c Z σ H->AloneA X.A H) (hi:DIH X c tg it f) (S:jo X scope N' nt fr)
  (hfo:qgt c nt fr fo) (hz:fo=none)
  (hb:∀fp cl C s₀ H₀ pn B0 H1 Io' acc S',(∀Z σ H,Rep X.K (cin B0 H1 (foO fo) Io' acc S') Z σ H->AloneA X.A H)->DG (qU X scope N' fp cl C s₀ H₀ pn) (cin B0 H1 (foO fo) Io' acc S') tg g/\DF (qU X scope N' fp cl C s₀ H₀ pn) (cin B0 H1 (foO fo) Io' acc S') ifs t/\DE (qU X scope N' fp cl C s₀ H₀ pn) (cin B0 H1 (foO fo) Io' acc S') elt k)
  (hs:∀x,yba it X.env x=pure x:=by intro _;rfl):DE X c (.ListComp elt [⟨tg,it,ifs,0⟩] scope pos) (qE nt fr fo f g t k):=by
 obtain⟨wi,pi,wI⟩:=hi
 refine⟨_,qfP pi S hs,λZ σ H Q r h=>wI Z σ H _ r (WpI.bnd h λds Z1 J H1 r1 iok g1 h1=>?_)⟩
 refine⟨hal _ _ _ r1,?_⟩
 intro acc fp cl C s₀ H₀ pn hn
 obtain⟨⟨tg',pg,wg⟩,⟨tt,pt,wt⟩,⟨te,pe,we⟩⟩:=hb fp cl C s₀ H₀ pn (Cn c σ) H1 (wm σ fo) acc (λj=>(qu nt fr σ)[j]?) (λZ2 σ2 H2 q=>Sk.AloneA.cin (hal _ _ _ r1) hn (λa=>by rw[hz];exact id) q)
 refine⟨tg',tt,te,pg,pt,pe,?_⟩
 cases ew:qG g t k ds [] (zC nt fr Z1) with
 |exc x Z'=>rw[ew]at h1;exact h1.elim
 |bad=>rw[ew]at h1;exact h1.elim
 | ok p =>
  rw[ew]at h1
  obtain⟨ys,Ze⟩:=p
  have h1:∀v H',Rep X.K c (qfw fo Ze Z1) σ H'->Is X.K (Cn c σ) H' (.lst ys) v->Gr c.O σ H1 H'->Q v H':=h1
  have accO:∀j∈foO fo,(qu nt fr σ)[j]? ≠ some (some (.ref acc)):=λj hj e=>by
   have r0:=r1.entry (acc:=acc) hn hfo
   cases fo with
   |none=>cases hj
   |some p=>
    obtain⟨i',j'⟩:=p
    have e2:j=i':=by simpa [foO] using hj
    subst e2
    obtain⟨k2,j2,e1,e2,e3⟩:=zP e
    have hk2:k2=j-nt:=by omega
    subst hk2
    rw[hfo.2.2.1]at e2
    cases e2
    obtain⟨a,us,e4,e5,_⟩:=r1.own j' hfo.1 _ e3
    cases e4;rw[hn]at e5;cases e5
  refine ⟨λi m σ' H'=>m=ds.length-i/\i<=ds.length/\∃Z' zs xs,Rep X.K (cin (Cn c σ) H1 (foO fo) (wm σ fo) acc λj=>(qu nt fr σ)[j]?) Z' σ' H'/\(∀j∈foO fo,σ'[j]? = (qu nt fr σ)[j]?)/\H' acc=some (.lst xs)/\IsL X.K (Cn (cin (Cn c σ) H1 (foO fo) (wm σ fo) acc λj=>(qu nt fr σ)[j]?) σ') H' zs xs/\qG g t k (ds.drop i) zs Z'=.ok (ys,Ze),
   ⟨ds.length,by simp,yaP _,zC nt fr Z1,[],[],r1.entry hn hfo,λ_ _=>rfl,qi,rfl,by simpa using ew⟩,?_⟩
  rintro i m σ' H' ⟨rfl,hi,Z',zs,xs,r',so,ha,iz,w⟩
  obtain⟨_,gr⟩:=r1.leave hn hfo (λi j e=>so i (by rw[e];simp[foO])) r'
  have ex:Ext (CnT c σ H1) H1 H':=⟨gr.ext.tup,gr.ext.frz,λb o hb hq=>gr.ext.at_ b o hb.1.2 hq⟩
  have accC:∀τ:St,(∀j∈foO fo,τ[j]? = (qu nt fr σ)[j]?)->Cl (foO fo) τ acc:=λτ hτ j hj e=>accO j hj (by rw[<-hτ j hj];exact e)
  by_cases hlt:i<ds.length
  ·refine .inr ⟨iok.go H' i ds[i] ex (by simp[hlt]),λx H'' y=>?_⟩
   obtain⟨sm,ix⟩:=iok.yl H' i ds[i] x H'' ex (by simp[hlt]) y
   rw[yV hlt]at w
   unfold qG at w
   have ix2:Is X.K (Cn (cin (Cn c σ) H1 (foO fo) (wm σ fo) acc λj=>(qu nt fr σ)[j]?) σ') H'' ds[i] x:=Is.ext Ext.refl (λa ha _=>⟨⟨ha.1,λe=>by
    have:=ha.2
    rw [e,hn]at this;cases this⟩,λj hj e=>by
     rw[so j hj]at e
     cases fo with
     |none=>cases hj
     |some p=>
      obtain⟨i',j'⟩:=p
      have e2:j=i':=by simpa [foO,cin] using hj
      subst e2
      obtain⟨k2,j2,e1,e2,e3⟩:=zP e
      have hk2:k2=j-nt:=by omega
      subst hk2
      rw[hfo.2.2.1]at e2
      cases e2
      exact ha.1.2 j' hfo.1 e3⟩) ix
   cases e1:g ds[i] Z' with
   |none=>simp only[e1]at w;cases w
   | some Z2=>
    simp only[e1]at w
    refine wg Z' σ' H'' ds[i] x Z2 _ (r'.same sm) ix2 e1 λσ2 r2 g2 o2=>?_
    have so2:∀j∈foO fo,σ2[j]? = (qu nt fr σ)[j]? := λj hj=>(o2 j hj).trans (so j hj)
    have ha2:H'' acc=some (.lst xs):=sm _ _ ha
    have iz2:=g2.isL (IsL.ext (Ext.of_same sm) (λ_ h _=>h) iz)
    cases e2:t Z2 with
    |exc x Z3=>simp only[e2]at w;cases w
    |bad=>simp only[e2]at w;cases w
    | ok p2=>
     obtain⟨bb,Z3⟩:=p2
     refine wt Z2 σ2 H'' _ r2 ?_
     rw[e2]
     intro H3 r3 g3
     have ha3:H3 acc=some (.lst xs):=g3.ext.at_ _ _ (accC σ2 so2) ha2
     have iz3:=g3.isL iz2
     cases bb with
     |false=>
      rw[if_neg yal]
      simp only[e2]at w
      exact⟨ds.length-(i+1),by omega,rfl,hlt,Z3,zs,xs,r3,so2,ha3,iz3,w⟩
     | true=>
      rw[if_pos rfl]
      simp only[e2]at w
      cases e3:k Z3 with
      |exc x Z4=>simp only[e3]at w;cases w
      |bad=>simp only[e3]at w;cases w
      | ok p3=>
       obtain⟨d4,Z4⟩:=p3
       simp only[e3]at w
       refine we Z3 σ2 H3 _ r3 ?_
       rw[e3]
       intro y4 H4 r4 i4 g4
       have ha4:H4 acc=some (.lst xs):=g4.ext.at_ _ _ (accC σ2 so2) ha3
       have hsz:qC (zs.length+1)=true:=by
        cases e5:qC (zs.length+1) with
        |true=>rfl
        |false=>rw[e5]at w;simp at w
       rw[if_pos hsz]at w
       have hsz':zs.length+1<=yas:=of_decide_eq_true hsz
       have r5:=r4.grow (ys:=xs++[y4]) ha4 (λj hj e=>accC σ2 so2 j hj e)
       have ext5:Ext (Cn (cin (Cn c σ) H1 (foO fo) (wm σ fo) acc λj=>(qu nt fr σ)[j]?) σ2) H4 (upd H4 acc (.lst (xs++[y4]))):=⟨λb us hb=>by rw[qm (ux hb ha4 (by intro z;cases z))];exact hb,λb o u hb=>by rw[qm (ux hb ha4 (by intro z;cases z))];exact hb,λb o hb hq=>by rw[qm hb.1.2];exact hq⟩
       refine⟨xs,ha4,by rw[iz3.length];omega,ds.length-(i+1),by omega,rfl,hlt,Z4,zs++[d4],xs++[y4],r5,so2,qi,?_,w⟩
       exact IsL.append (IsL.ext ext5 (λ_ h _=>h) (g4.isL iz3)) (IsL.one (Is.ext ext5 (λ_ h _=>h) i4))
  ·have hie:i=ds.length:=by omega
   subst hie
   rw[yb0 (yak _)]at w
   unfold qG at w
   cases w
   obtain⟨r6,g6⟩:=r1.leave hn hfo (λi j e=>so i (by rw[e];simp[foO])) r'
   exact .inl ⟨iok.stop H' ex,h1 _ H' r6 ⟨acc,xs,rfl,r1.new hn,ha,IsL.ext Ext.refl (λa ha hs=>ha.1.1) iz⟩ g6⟩
end
theorem yb.units{k:Nat}{A:yar}(r:yb k A):A.units+64<cLine:=by have:=r.un;omega
section
variable{X:Cx}{c:Fc}{e:Expr}{es:List Expr}{pos:Pos}
theorem qh0 {k:Nat} (hr:yb k X.A):OpR X (yaI .Eq) (qe2 X.K false):=by
 intro pins s σ H x y v u Q I rx ry h
 obtain⟨d,e,A,h1,h2,o1,o2,q⟩:=h
 obtain⟨as,r1,_⟩:=jm I (vm o1) h1 rx
 obtain⟨bs,r2,_⟩:=jm I (vm o2) h2 ry
 exact yee r1 r2 (uY o1) (uY o2) (yb.units hr) ⟨.bl _,H,I,rfl,by simpa using q⟩
theorem qlo{K:Fr0}{A:yar}{e:Addr}{H6:Hp}(al:AloneA (A.mark (some (.ref e))) H6):∀Z σ H,Rep K (ch H6) Z σ H->AloneA (A.mark (some (.ref e))) H:=Sk.AloneA.rep (c:=ch H6) al (λ_ z=>z)
theorem qh1{k:Nat}{A:yar}{e:Addr}(hr:yn k A):yb k (A.mark (some (.ref e))):=⟨hr.dp,hr.un,hr.gd⟩
theorem qeu{k:Nat}(hr:yb k X.A):OpR X (yaI .Eq) (λx y H Q=>rEq x y H Q\/qe2 X.K false x y H Q):=OpR.or qiW (qh0 hr)
theorem qfQ {k:Nat} {f:Addr} {fd:yaN} {ps:List Str} {F:List D->R D} {x:Str} {p:Pos} {g:M (List D)} (hal:∀Z σ H,Rep X.K c Z σ H->AloneA X.A H)
  (G:qau X.prog X.w X.K X.mg X.base CX0 k f fd ps (spD X.K F)) (hr:yb k X.A) (hg:Gl X x) (hm:X.mg x=some (.ref f)) (hk:yam X.K (.ref f)=true) (hb:yF X.K fd ps [])
  (ha:DA X c (e::es) g) (hd:(x==("__debug__":Str))=false:=by decide) (he:yae (e::es) X.env=(false,eval e X.env)::yae es X.env:=by rfl) (hpl:(yaO pos (yae es X.env)).any (·.1)=false:=by rfl):DE X c (.Call (.Name x p) (e::es) [] pos) (qt F g):=by
 obtain⟨t,pa,w⟩:=ha
 refine⟨_,qck (E:=λ_ _ _=>False) G hr hg hm hk hb .nil (λ_ _ _ _ _ _ _ z=>z.elim) pa hd he hpl,λZ σ H Q r h=>w Z σ H _ r (WpL.bnd h λds Z1 vs H1 r1 i1 g1 h1=>⟨hal _ _ _ r1,?_⟩)⟩
 rw[ya4]
 refine⟨ds,Cn c σ,i1,r1.tb,?_⟩
 cases ef:F ds with
 |bad=>simp only[ef]at h1;exact h1.elim
 |exc z Z'=>simp only[ef]at h1;exact h1.elim
 |ok d=>
  simp only[ef]at h1
  exact λv H' sm i=>h1 v H' (r1.same sm) (Is.ext Ext.refl (λa ha _=>ha.elim id r1.new) i) (.of_same sm)
end
section
variable{prog:yap}{w:World}{A:yar}{R:ydN->yab->Prop}{I:Addr}{fp wr:List Addr}{n:Nat}{P:Nat->Value->Prop}{St:Nat->Heap->Prop}{dv:Value}
end
section
variable{prog:yap}{w:World}{A:yar}{E:Value->yab->Prop}{s:yab}
end
section
variable{prog:yap}{w:World}{A:yar}{R:ydN->yab->Prop}{I:Addr}{fp wr:List Addr}{n:Nat}{P:Nat->Value->Prop}{St:Nat->Heap->Prop}{dv:Value}
end
section
variable{prog:yap}{w:World}{A:yar}{E:Value->yab->Prop}{s:yab}
end
section
variable{prog:yap}{w:World}{A:yar}{E:Value->yab->Prop}{s:yab}
end
section
variable{X:Cx}
end
section
variable{X:Cx}{c:Fc}{a b e:Expr}{pos:Pos}
def qgF(F:List D->List D->Option D)(f g:M (List D)):M D:=bnd f λxs=>bnd g λzs=>lift (F xs zs)
end
def qmO (xs zs:List D):Option D:=match xs,zs with
 | [.lst ds],[z]=>(yJ ds).map λns=>if ns=[]then z else .int (qlj ns)
 |_,_=>none
def slB (x:D) (lo hi:Option Int):Option D:=match x with
 |.tup ds=>some (.tup (qdt ds lo hi))
 |.lst ds=>some (.lst (qdt ds lo hi))
 |_=>none
def qh2(f:M D)(g k:M (Option Int)):M D:=bnd f λd=>bnd g λl=>bnd k λu=>lift (slB d l u)
section
variable{X:Cx}{c:Fc}{a b e:Expr}{pos p2:Pos}
theorem qbf {lo hi:Option Expr} {f:M D} {g k:M (Option Int)} (ha:DE X c a f) (hl:DO X c lo g) (hu:DO X c hi k):DE X c (.Subscript a (.Slice lo hi none p2) pos) (qh2 f g k):=by
 obtain⟨ta,pa,wa⟩:=ha
 obtain⟨tl,pl,wl⟩:=hl
 obtain⟨tu,pu,wu⟩:=hu
 refine⟨_,qfh (SlR.or qjn qhb) pa pl pu,λZ σ H Q r h=>wa Z σ H _ r (Wp.bnd h λd Z1 v H1 r1 i1 g1 h1=>?_)⟩
 refine wl Z1 σ H1 _ r1 (λl Z2 e2 H2 r2 g2=>?_) (λx Z2 e2 H2 r2 g2=>?_) (λe2=>?_)
 ·rw [vY e2]at h1
  have h1:=h1.gr g2
  refine wu Z2 σ H2 _ r2 (λu Z3 e3 H3 r3 g3=>?_) (λx Z3 e3 H3 r3 g3=>?_) (λe3=>?_)
  ·rw [vY e3]at h1
   obtain⟨d',e4,h4⟩:=h1.lift
   have i3:=g3.is (g2.is i1)
   clear h1
   cases d<;>simp only[slB]at e4<;>try (cases e4;done)
   ·rename_i ds
    cases e4
    obtain⟨a,xs,rfl,ta,il⟩:=i3
    refine .inl ?_
    by_cases hw:HT.sIx xs.length 0 l=0/\HT.sIx xs.length xs.length u=xs.length
    ·refine .inl ⟨a,xs,rfl,ta.sq,hw,h4 _ H3 r3 ⟨a,xs,rfl,ta,?_⟩ g3⟩
     have e5:qdt ds l u=ds:=by
      unfold qdt
      rw[<-il.length,hw.1,hw.2]
      simp[il.length]
     rw[e5];exact il
    ·refine .inr ⟨a,xs,rfl,ta.sq,hw,λp hp=>h4 _ _ (r3.laid hp _) ⟨p,qe0 xs l u,rfl,.inl qi,?_⟩ (g3.trans (.of_same (qs hp _)))⟩
     refine IsL.ext (Ext.of_same (qs hp _)) (λ_ h _=>h) ?_
     unfold qdt qe0
     rw[<-il.length]
     exact IsL.take _ (IsL.drop _ il)
   ·rename_i ds
    cases e4
    obtain⟨a,xs,rfl,hA,ta,il⟩:=i3
    refine .inr ⟨a,xs,rfl,.inl (.inl ta),λp hp=>h4 _ _ (r3.laid hp _) ⟨p,qe0 xs l u,rfl,r3.new hp,qi,?_⟩ (g3.trans (.of_same (qs hp _)))⟩
    refine IsL.ext (Ext.of_same (qs hp _)) (λ_ h _=>h) ?_
    unfold qdt qe0
    rw[<-il.length]
    exact IsL.take _ (IsL.drop _ il)
  ·unfold bnd at h1;rw[e3]at h1;exact h1 H3 r3 g3
  ·unfold bnd at h1;rw[e3]at h1;exact h1
 ·unfold bnd at h1;rw[e2]at h1;exact h1 H2 r2 g2
 ·unfold bnd at h1;rw[e2]at h1;exact h1
def qlp (x y:D):Option (List D):=match x,y with
 |.lst ds,.int k=>if(decide (-(2 ^ 62)<=k)&&decide (k<2 ^ 62))&&(qC (ds.length*k.toNat)&&immL ds)then some (yag k.toNat ds).flatten else none
 |_,_=>none
def ql9(f g:M D):M (List D):=bnd f λx=>bnd g λy=>lift (qlp x y)
def qmP (f:M D):M (List D):=bnd f λx=>lift (match x with
 |.lst ds=>if immL ds then some ds else none
 |.tup ds=>if immL ds then some ds else none
 |_=>none)
def qev (i:Nat) (f:M D):M D:=λZ=>match zi i Z with
 |none => .bad
 |some _=>(bnd f λd Z=>match d,zi i Z with
  |.lst es,some ds=>if immL es&&qC (ds.length+es.length)then .ok (.non,Z.set i (some (.lst (ds++es))))else .bad
  |_,_ => .bad) Z
def qma (f:M (List D)):M (List D):=λZ=>match f Z with
 |.ok ([.tup _],_)=>qhO f Z
 |_=>qj5 f Z
end
section
variable{Z:Env}{f g:M D}{l k:M (List D)}
theorem qkN (F:List D->List D->Option D):qgF F l k Z=match l Z with|.ok (xs,Z1)=>(match k Z1 with|.ok (zs,Z2)=>(match F xs zs with|some d => .ok (d,Z2)|none => .bad)|.exc x Z' => .exc x Z'|.bad => .bad)|.exc x Z' => .exc x Z'|.bad => .bad:=by
 simp only[qgF,bnd]
 cases l Z with
 |ok z=>
  obtain⟨z1,Z1⟩:=z
  dsimp only
  cases k Z1 with
  |ok z=>obtain⟨z2,Z2⟩:=z;(dsimp only;cases F z1 z2<;>rfl)
  |exc x Z'=>rfl
  |bad=>rfl
 |exc x Z'=>rfl
 |bad=>rfl
theorem qmb:ql9 f g Z=match f Z with|.ok (x,Z1)=>(match g Z1 with|.ok (y,Z2)=>(match qlp x y with|some ds => .ok (ds,Z2)|none => .bad)|.exc x Z' => .exc x Z'|.bad => .bad)|.exc x Z' => .exc x Z'|.bad => .bad:=by
 simp only[ql9,bnd]
 cases f Z with
 |ok z=>
  obtain⟨z1,Z1⟩:=z
  dsimp only
  cases g Z1 with
  |ok z=>obtain⟨z2,Z2⟩:=z;(dsimp only;cases qlp z1 z2<;>rfl)
  |exc x Z'=>rfl
  |bad=>rfl
 |exc x Z'=>rfl
 |bad=>rfl
theorem qj8 (i:Nat):qev i f Z=match zi i Z with
  |none => .bad
  |some _=>(match f Z with|.ok (d,Z1)=>(match d,zi i Z1 with|.lst es,some ds=>(if immL es&&qC (ds.length+es.length)then .ok (.non,Z1.set i (some (.lst (ds++es))))else .bad)|_,_ => .bad)|.exc x Z' => .exc x Z'|.bad => .bad):=by
 unfold qev
 cases zi i Z with
 |none=>rfl
 |some z=>
  simp only[bnd]
  cases f Z with
  |ok z=>obtain⟨z1,Z1⟩:=z;rfl
  |exc x Z'=>rfl
  |bad=>rfl
theorem qgG (p q:M (Option Int)):qh2 f p q Z=match f Z with|.ok (d,Z1)=>(match p Z1 with|.ok (l,Z2)=>(match q Z2 with|.ok (u,Z3)=>(match slB d l u with|some r => .ok (r,Z3)|none => .bad)|.exc x Z' => .exc x Z'|.bad => .bad)|.exc x Z' => .exc x Z'|.bad => .bad)|.exc x Z' => .exc x Z'|.bad => .bad:=by
 simp only[qh2,bnd]
 cases f Z with
 | ok z=>
  obtain⟨z1,Z1⟩:=z
  dsimp only
  cases p Z1 with
  |ok z=>
   obtain⟨z2,Z2⟩:=z
   dsimp only
   cases q Z2 with
   |ok z=>obtain⟨z3,Z3⟩:=z;(dsimp only;cases slB z1 z2 z3<;>rfl)
   |exc x Z'=>rfl
   |bad=>rfl
  |exc x Z'=>rfl
  |bad=>rfl
 |exc x Z'=>rfl
 |bad=>rfl
end
section
variable{X:Cx}{c:Fc}{e:Expr}{es:List Expr}{pos:Pos}
theorem dC {k j:Nat} {ps:List Str} {F:List D->R D} {x:Str} {p:Pos} {g:M (List D)} (C:zX X.prog X.w X.K X.mg X.base k x ps (spD X.K F)) (hr:yn j X.A) (ha:DA X c (e::es) g)
  (hk:k<=j:=by decide) (hg:Gl X x:=by rfl) (hd:(x==("__debug__":Str))=false:=by decide) (he:yae (e::es) X.env=(false,eval e X.env)::yae es X.env:=by rfl) (hpl:(yaO pos (yae es X.env)).any (·.1)=false:=by rfl):DE X c (.Call (.Name x p) (e::es) [] pos) (qt F g):=by
 obtain⟨f,fd,G,m,kk,b⟩:=C.ex
 exact qhp G (hr.mono hk) hg m kk b ha hd he hpl
theorem nC {k j:Nat} {ps:List Str} {F:List D->R D} {x:Str} {p:Pos} {g:M (List D)} (C:zX X.prog X.w X.K X.mg X.base k x ps (spD X.K F)) (hr:yn j X.A) (ha:DA X c (e::es) g)
  (hk:k<=j:=by decide) (hg:Gl X x:=by rfl) (hd:(x==("__debug__":Str))=false:=by decide) (he:yae (e::es) X.env=(false,eval e X.env)::yae es X.env:=by rfl) (hpl:(yaO pos (yae es X.env)).any (·.1)=false:=by rfl):DN X c (.Call (.Name x p) (e::es) [] pos) (qa8 F g):=by
 obtain⟨f,fd,G,m,kk,b⟩:=C.ex
 exact qhA G (hr.mono hk) hg m kk b ha hd he hpl
theorem iC {k j i:Nat} {ps:List Str} {F:List D->List D->R (D×List D)} {x y:Str} {p p1:Pos} {g:M (List D)} (C:zX X.prog X.w X.K X.mg X.base k x ps (qdu X.K F)) (hr:yn j X.A) (ha:DA X c es g)
  (hk:k<=j:=by decide) (hg:Gl X x:=by rfl) (ho:i∈c.O:=by exact of_decide_eq_true rfl) (hN:X.N[i]? = some y:=by rfl) (hv:Vis X.env.scope y:=by first|exact ybI rfl|exact ya7 (ybI rfl)|exact ya7 (ya7 rfl)) (hdy:(y==("__debug__":Str))=false:=by decide) (hcd:(y==("__classdict__":Str))=false:=by decide)
  (hd:(x==("__debug__":Str))=false:=by decide) (he:yae (.Name y p1::es) X.env=(false,eval (.Name y p1) X.env)::yae es X.env:=by rfl) (hpl:(yaO pos (yae es X.env)).any (·.1)=false:=by rfl):DE X c (.Call (.Name x p) (.Name y p1::es) [] pos) (qo F i g):=by
 obtain⟨f,fd,G,m,kk,b⟩:=C.ex
 exact qeb G (hr.mono hk) hg m kk b ha ho hN hv hdy hcd hd he hpl
theorem xC {k j:Nat} {ps:List Str} {F:List D->R D} {x:Str} {p:Pos} {g:M (List D)} {E:XK} {cl:Str->Option Addr} {RN:List Str} (L:XL2 X c cl E) (hcl:∀n,RN.contains n=true->(cl n).isSome=true) (C:yx X.prog X.w X.K X.mg X.base k x ps (spX X.K cl F)) (hr:yn j X.A) (ha:DA X c (e::es) g)
  (hk:k<=j:=by decide) (hg:Gl X x:=by rfl) (hd:(x==("__debug__":Str))=false:=by decide) (he:yae (e::es) X.env=(false,eval e X.env)::yae es X.env:=by rfl) (hpl:(yaO pos (yae es X.env)).any (·.1)=false:=by rfl):DE X c (.Call (.Name x p) (e::es) [] pos) (jT RN F g):=by
 obtain⟨f,fd,G,m,kk,b⟩:=C.ex
 exact qfL L hcl G (hr.mono hk) hg m kk b ha hd he hpl
theorem pC {k j:Nat} {ps:List Str} {F:List D->R D} {x:Str} {p:Pos} {g:M (List D)} {cl:Str->Option Addr} (C:yx X.prog X.w X.K X.mg X.base k x ps (spX X.K cl F)) (hr:yn j X.A) (ha:DA X c (e::es) g)
  (hk:k<=j:=by decide) (hg:Gl X x:=by rfl) (hd:(x==("__debug__":Str))=false:=by decide) (he:yae (e::es) X.env=(false,eval e X.env)::yae es X.env:=by rfl) (hpl:(yaO pos (yae es X.env)).any (·.1)=false:=by rfl):DE X c (.Call (.Name x p) (e::es) [] pos) (yP F g):=by
 obtain⟨f,fd,G,m,kk,b⟩:=C.ex
 exact qfM G (hr.mono hk) hg m kk b ha hd he hpl
theorem lC {k j:Nat} {ps:List Str} {F:List D->R D} {x:Str} {p:Pos} {g:M (List D)} (hal:∀Z σ H,Rep X.K c Z σ H->AloneA X.A H) (C:qbJ X.prog X.w X.K X.mg X.base k x ps (spD X.K F)) (hr:yb j X.A) (ha:DA X c (e::es) g)
  (hk:k<=j:=by decide) (hg:Gl X x:=by rfl) (hd:(x==("__debug__":Str))=false:=by decide) (he:yae (e::es) X.env=(false,eval e X.env)::yae es X.env:=by rfl) (hpl:(yaO pos (yae es X.env)).any (·.1)=false:=by rfl):DE X c (.Call (.Name x p) (e::es) [] pos) (qt F g):=by
 obtain⟨f,fd,G,m,kk,b⟩:=C.ex
 exact qfQ hal G (hr.mono hk) hg m kk b ha hd he hpl
theorem gI {x:Str} {i:Int} (h:∃t,X.mg x=some (.int i t)) (hg:Gl X x:=by rfl) (hd:(x==("__debug__":Str))=false:=by decide):DE X c (.Name x pos) (ret (.int i)):=by
 obtain⟨t,h⟩:=h
 exact qdS (v:=.int i) (d:=.int i) hg h ⟨_,rfl⟩ (λ_ _=>rfl) hd
theorem gT {x:Str} {ns:List Int} (h:∃a,X.mg x=some (.ref a)/\qkL X.K a ns) (hg:Gl X x:=by rfl) (hd:(x==("__debug__":Str))=false:=by decide):DE X c (.Name x pos) (ret (.tup (ns.map .int))):=by
 obtain⟨a,h1,h2⟩:=h
 exact qfI hg h1 h2 hd
end
theorem nd(N:List Str)(h:N.Nodup:=by decide +kernel):N.Nodup:=h
theorem cs {X:Cx} (N N':List Str) (nt:Nat) (fr:List Nat) (outer:Scope) {scope:Scope} (h0:scope.kind=.function:=by rfl) (h1:∀y∈scope.names,y.2 ≠ .cell:=by decide +kernel) (h2:∀y∈scope.names,y.2=.local->scope.names.lookup y.1=some .local:=by decide +kernel)
  (h3:∀y∈scope.names,y.2=.free->outer.names.lookup y.1=some .cell:=by decide +kernel) (h4:N'.length=nt+fr.length:=by rfl) (h5:∀p∈fr.zipIdx,N'[nt+p.2]? = N[p.1]? /\ ((N[p.1]?).bind λx=>scope.names.lookup x)=some .free:=by decide +kernel)
  (h6:X.env.scope=outer:=by rfl) (h7:X.N=N:=by rfl):jo X scope N' nt fr:=qhB.ok (outer:=outer) (N:=N) ⟨h0,h1,h2,h3,h4,h5⟩ h6 h7
theorem f0{c:Fc}{nt:Nat}(fr O:List Nat)(e:c.O=O:=by rfl)(h:∀j∈fr,j ∉ O:=by decide):qgt c nt fr none:=λj hj=>by rw[e];exact h j hj
theorem f1 {c:Fc} (nt:Nat) (fr O:List Nat) (i j:Nat) (e:c.O=O:=by rfl) (h1:j∈O:=by decide) (h2:nt<=i:=by decide) (h3:fr[i-nt]? = some j:=by rfl) (h4:∀p∈fr.zipIdx,nt+p.2≠i->p.1 ∉ O:=by decide):qgt c nt fr (some (i,j)) :=
 qhD (by rw[e];exact h1) h2 h3 (by rw[e];exact h4)
section
variable{X:Cx}{c:Fc}
end
end L2.Sk
namespace L2.Sk
open PySem PySem.Spec PyProof.Rows
section
variable{X:Cx}{c:Fc}{a b e:Expr}{pos:Pos}
def qew (i:Nat) (f:M D):M D:=λZ=>match zi i Z with
 |none => .bad
 |some _=>(bnd f λd Z=>match zi i Z with
  |some ds=>if qC (ds.length+1)then .ok (.non,Z.set i (some (.lst (d::ds))))else .bad
  |none => .bad) Z
end
section
variable{prog:yap}{w:World}{A:yar}{E:Value->yab->Prop}{s:yab}
end
section
variable{X:Cx}{c:Fc}{a e:Expr}{pos:Pos}{tg:Expr}
def qlq:List D->Option (List D)
 | [.tup xs]=>some xs.reverse
 |_=>none
def qmc(f:M (List D)):M (List D):=bnd f λds=>lift (qlq ds)
theorem qmd {l:M (List D)} {Z:Env}:qmc l Z=match l Z with|.ok (d,Z1)=>(match qlq d with|some ds => .ok (ds,Z1)|none => .bad)|.exc x Z' => .exc x Z'|.bad => .bad:=by
 simp only[qmc,bnd]
 cases l Z with
 |ok z=>obtain⟨z1,Z1⟩:=z;(dsimp only;cases qlq z1<;>rfl)
 |exc x Z'=>rfl
 |bad=>rfl
theorem qj9 {f:M D} {Z:Env} (i:Nat):qew i f Z=match zi i Z with
  |none => .bad
  |some _=>(match f Z with
   |.ok (d,Z1)=>(match zi i Z1 with|some ds=>(if qC (ds.length+1)then .ok (.non,Z1.set i (some (.lst (d::ds))))else .bad)|none => .bad)
   |.exc x Z' => .exc x Z'|.bad => .bad):=by
 unfold qew
 cases zi i Z with
 |none=>rfl
 |some z=>
  simp only[bnd]
  cases f Z with
  |ok z=>obtain⟨z1,Z1⟩:=z;rfl
  |exc x Z'=>rfl
  |bad=>rfl
end
end L2.Sk
namespace HT
open PySem PySem.Spec PyProof.Rows
section
variable{prog:yap}{w:World}{A:yar}{E:Value->yab->Prop}{s:yab}
end
end HT
namespace L2
open PySem PySem.Spec PyProof.Rows
section
variable{X:Cx}{e:Expr}{te:TE}{ste:Expr}{ts:TO}{pos p2:Pos}
end
end L2
namespace L2.Sk
open PySem PySem.Spec PyProof.Rows
theorem IsL.rev {K:Fr0} {A:Addr->Prop} {H:Hp}:∀{ds:List D}{xs:List V},IsL K A H ds xs->IsL K A H ds.reverse xs.reverse:=by
 intro ds
 induction ds with
 |nil=>
  intro xs h
  cases xs with
  |nil=>exact h
  |cons x xs=>exact absurd h.length (by simp)
 |cons d ds ih=>
  intro xs h
  obtain⟨x,ys,rfl,h1,h2⟩:=h
  rw[ycv,ycv]
  have one:IsL K A H [d] [x]:=⟨x,[],rfl,h1,IsL.take 0 h2⟩
  exact IsL.append (ih h2) one
def qlr:D->Option D
 |.tup ds=>some (.tup ds.reverse)
 |.lst ds=>some (.lst ds.reverse)
 |_=>none
def qka(f:M D):M D:=bnd f λd=>lift (qlr d)
section
variable{X:Cx}{c:Fc}{a:Expr}{pos p2 p3 p4:Pos}{cj:Nat}
theorem qls {f:M D} {Z:Env}:qka f Z=match f Z with|.ok (d,Z1)=>(match qlr d with|some x => .ok (x,Z1)|none => .bad)|.exc x Z' => .exc x Z'|.bad => .bad:=by
 simp only[qka,bnd]
 cases f Z with
 |ok z=>obtain⟨z1,Z1⟩:=z;(dsimp only;cases qlr z1<;>rfl)
 |exc x Z'=>rfl
 |bad=>rfl
end
section
variable{X:Cx}{c:Fc}
end
end L2.Sk
namespace L2
open PySem PySem.Spec PyProof.Rows
section
variable{X:Cx}{pins:List (Addr×Obj)}{σ:St}{H:Hp}{s:yab}
theorem qfR{H:Hp}{a:Addr}{o:HO}(h:H a=none):zG H (upd H a o):=λb u q=>by rw[qm (qA q h)];exact q
end
end L2
namespace L2.Srt
open PySem PySem.W PyProof.Rows
def runK {α:Type} (cmp:Nat->Nat->Bool):KasT α->α
 |.ret a=>a
 |.ask i j k=>runK cmp (k (cmp i j))
def Fits {α:Type} (n:Nat) (R:α->Prop):KasT α->Prop
 |.ret a=>R a
 |.ask i j k=>i<n/\j<n/\∀b,Fits n R (k b)
theorem Fits.bind {α β:Type} {n:Nat} {R:α->Prop} {R':β->Prop} {f:α->KasT β} (hf:∀a,R a->Fits n R' (f a)):∀{t:KasT α},Fits n R t->Fits n R' (t.bind f)
 |.ret _,h=>hf _ h
 |.ask _ _ _,⟨h1,h2,h3⟩=>⟨h1,h2,λb=>Fits.bind hf (h3 b)⟩
theorem Fits.run {α:Type} {n:Nat} {R:α->Prop} {cmp:Nat->Nat->Bool}:∀{t:KasT α},Fits n R t->R (runK cmp t)
 |.ret _,h=>h
 |.ask i j k,h=>Fits.run (t:=k (cmp i j)) (h.2.2 (cmp i j))
def Pl(n:Nat)(p:Array Nat):Prop:=p.size=n/\p.toList.Perm (ybd n)
theorem Pl.of_perm{n:Nat}{p q:Array Nat}(h:Pl n p)(hq:q.Perm p):Pl n q:=⟨hq.size_eq.trans h.1,(Array.perm_iff_toList_perm.mp hq).trans h.2⟩
theorem Pl.lt {n:Nat} {p:Array Nat} (h:Pl n p) (hn:0<n) (k:Nat):p.getD k 0<n:=by
 by_cases hk:k<p.size
 ·have e:p.getD k 0=p[k]:=by simp[Array.getD,hk]
  rw[e]
  have hm:p[k]∈p.toList:=by simp
  exact mR_.mp (h.2.mem_iff.mp hm)
 ·have e:p.getD k 0=0:=by simp[Array.getD,hk]
  rw[e];exact hn
theorem Pl.rev{n:Nat}{p:Array Nat}(h:Pl n p)(i j:Nat):Pl n (kas_rev p i j):=h.of_perm (mirror_perm _ _ _ _)
theorem qaC {n:Nat} (hn:0<n) {p:Array Nat} (h:Pl n p):∀f m,Fits n (λ_=>True) (kas_asc p f m)
 |0,_=>ybV
 |f+1,m=>⟨h.lt hn _,h.lt hn _,λc=>by
  dsimp only
  split
  ·exact ybV
  ·exact qaC hn h f (m+1)⟩
theorem uK {n:Nat} (hn:0<n):∀f {p:Array Nat} (_:Pl n p) m q,Fits n (λr=>Pl n r.1) (kas_desc f p m q)
 |0,_,h,_,_=>h
 | f+1,p,h,m,q=>⟨h.lt hn _,h.lt hn _,λc=>by
  dsimp only
  split
  ·split
   ·exact uK hn f (h.rev _ _) _ _
   ·exact uK hn f h _ _
  ·refine⟨h.lt hn _,h.lt hn _,λd=>?_⟩
   dsimp only
   split
   ·exact h
   ·exact uK hn f h _ _⟩
theorem qae {n:Nat} (hn:0<n) {p:Array Nat} (h:Pl n p) (m nrem:Nat):Fits n (λr=>Pl n r.2) (kas_tail3 m nrem p) :=
 Fits.bind (R:=λ_=>True) (n:=n) (R':=λr:Nat×Array Nat=>Pl n r.2) (f:=λk => .ret (k,kas_rev p 0 m)) (λ_ _=>h.rev 0 m) (qaC hn (h.rev _ _) _ _)
theorem uL {n:Nat} (hn:0<n) {p:Array Nat} (h:Pl n p) (m nrem:Nat):Fits n (λr=>Pl n r.2) (kas_descPart m nrem p) :=
 Fits.bind (R:=λr=>Pl n r.1) (λr hr=>by
  split
  ·exact qae hn (hr.rev _ _) _ _
  ·exact qae hn hr _ _) (uK hn _ h _ _)
theorem qdh {n:Nat} (hn:0<n) {p:Array Nat} (h:Pl n p) (nrem:Nat):Fits n (λr=>Pl n r.2) (kas_count nrem p) :=
 Fits.bind (R:=λ_=>True) (λm _=>by
  split
  ·exact h
  ·split
   ·refine⟨h.lt hn _,h.lt hn _,λc=>?_⟩
    dsimp only
    split
    ·exact h
    ·exact uL hn (h.rev _ _) _ _
   ·exact uL hn h _ _) (qaC hn h _ _)
theorem u7 {n:Nat} (hn:0<n) {p:Array Nat} (h:Pl n p) (k:Nat):∀f l r,Fits n (λ_=>True) (kas_place p k f l r)
 |0,_,_=>ybV
 | f+1,l,r=>by
  unfold kas_place
  split
  ·exact ybV
  ·refine⟨h.lt hn _,h.lt hn _,λc=>?_⟩
   dsimp only
   split
   ·exact u7 hn h k f _ _
   ·exact u7 hn h k f _ _
theorem qcv {n:Nat} (hn:0<n):∀f {p:Array Nat} (_:Pl n p) k,Fits n (Pl n) (kas_bin f p k)
 |0,_,h,_=>h
 |f+1,p,h,k=>Fits.bind (R:=λ_=>True) (λl _=>qcv hn f (h.of_perm (bubble_perm _ _ _)) _) (u7 hn h k _ _ _)
theorem fits_sort {n:Nat} (hn:0<n):Fits n (Pl n) (kas_sort n) :=
 Fits.bind (R:=λr=>Pl n r.2) (λr hr=>by
  split
  ·exact qcv hn _ hr _
  ·exact hr) (qdh hn ⟨by simp,by simp⟩ _)
def ord(ks:List Int):List Nat:=if ks.length<2 then ybd ks.length else(runK (λi j=>decide (ks.getD i 0<ks.getD j 0)) (kas_sort ks.length)).toList
theorem ord_perm (ks:List Int):(ord ks).Perm (ybd ks.length):=by
 unfold ord
 split
 ·exact .refl _
 ·exact(Fits.run (fits_sort (by omega))).2
theorem map_getD_range {α:Type} (d:α) (xs:List α):(ybd xs.length).map (λi=>xs.getD i d)=xs:=by
 refine List.ext_getElem (by simp) λi h1 h2=>?_
 simp at h1 |-
 simp[h1]
section
variable{prog:yap}{w:World}{A:yar}{s:yab}
end
end L2.Srt
set_option maxHeartbeats 1000000
namespace L2
open PySem PySem.Spec PyProof.Rows
structure SS (X:Cx) (H0:Hp) (s0:yab) (H:Hp) (s:yab):Prop where
 os:s.os=s0.os
 bare:yb8 s.gens
 un:Un (frs X.stack) [] H0 H s0.heap s.heap
 hok:HOk X.prog X.w H s.heap
 same:zG H0 H
section
variable{X:Cx}{pins:List (Addr×Obj)}{σ:St}{H0 H:Hp}{s0 s:yab}{h':Heap}{b a kS:Addr}
theorem SS.inv (z:SS X H0 s0 H s) (I:Inv X pins σ H0 s0):Inv X pins σ H s:=by
 obtain⟨hh,g,d,t,os'⟩:=s
 obtain rfl:os'=s0.os:=z.os
 exact I.call (h':=hh) (g':=g) (d':=d) (t':=t) (ch:=[]) z.un z.hok z.bare (λb z=>absurd z (by simp))
theorem SS.of(I:Inv X pins σ H s):SS X H s H s:=⟨rfl,I.bare,.refl,I.hok,λ_ _ h=>h⟩
theorem SS.kept (z:SS X H0 s0 H s) (k:∀b u,s.heap.get? b=some u->h'.get? b=some u) (tk:Nat):SS X H0 s0 H {s with heap:=h',toks:=tk} :=
 ⟨z.os,z.bare,z.un.trans (Un.kept k),z.hok.kept k,z.same⟩
theorem SS.poke (z:SS X H0 s0 H s) (hb:H b=none) (hb0:s0.heap.objs.size<=b) (sb:ybi b s.heap h') (tk:Nat):SS X H0 s0 H {s with heap:=h',toks:=tk}:=by
 have ne:∀c o,s0.heap.get? c=some o->c≠b:=λc o e=>yaq (yat (yac e) hb0)
 refine⟨z.os,z.bare,⟨λc o e n f x=>(sb.2 c (ne c o e)).trans (z.un.keep c o e n f x),λc o e n f x=>?_,z.un.free,λc o e x=>?_,z.un.tups,z.un.frzs,z.un.tbls⟩,λc u q=>?_,z.same⟩
 ·obtain⟨sl,q⟩:=z.un.slot c o e n f x
  exact⟨sl,(sb.2 c (ne c o e)).trans q⟩
 ·obtain⟨o',q⟩:=z.un.there c o e x
  exact⟨o',(sb.2 c (ne c o e)).trans q⟩
 ·refine(z.hok c u q).stay (λd v hd r=>(sb.2 d ?_).trans r) (λ_ q=>q) λ_ _ q=>q
  rintro rfl
  rcases hd with rfl|hd
  ·rw[hb]at q;cases q
  ·rw[hb]at hd;cases hd
end
section
variable{X:Cx}{H0 H:Hp}{s0 s:yab}{a kS:Addr}{A:yar}{E:Value->yab->Prop}{f:Value}{vs:List Value}{ks:List Int}{e1:Nat}{P:ye8->yab->Prop}
abbrev qgH(ks:List Int)(vs:List Value):List Value:=(Srt.ord ks).map λi=>vs.getD i yau
theorem qfS (h:ks.length=vs.length):(qgH ks vs).length=vs.length:=by
 rw[lM_,(Srt.ord_perm ks).length_eq,ydF,h]
abbrev qkb (X:Cx) (H0:Hp) (s0:yab) (a:Addr) (out:List Value) (P:ye8->yab->Prop):Prop :=
 ∀H' s' c,SS X H0 s0 H' s'->H' a=none->s'.heap.get? a=some (ycn "list" out.toArray c)->P (.done (.ret .none)) s'
end
section
variable{X:Cx}{pins:List (Addr×Obj)}{σ:St}{H:Hp}{s:yab}{l f:Addr}{vs:List Value}{ks:List Int}{Q:Value->yab->Prop}{E:Value->yab->Prop}
end
end L2
set_option maxHeartbeats 1000000
namespace L2
open PySem PySem.Spec PyProof.Rows
section
variable{X:Cx}{N':List Str}{fr:List Nat}{q x:Str}{params:yd4}{body:Expr}{scope:Scope}{k:Nat}
end
end L2
namespace L2.Sk
open PySem PySem.Spec PyProof.Rows
def qme (Z:Env):List Nat->Option (List D)
 | []=>some []
 |j::fr=>match Z[j]?,qme Z fr with
  |some (some d),some ds=>some (d::ds)
  |_,_=>none
def qkc (g:M D) (n:Nat) (cs:List D):List D->Option (List Int)
 | []=>some []
 |d::ds=>match g (jA n (d::cs)),qkc g n cs ds with
  |.ok (.int k,_),some ks=>some (k::ks)
  |_,_=>none
def qh3(l:List Nat)(ds:List D):List D:=l.map λi=>ds.getD i .non
def qmf (n:Nat) (fr:List Nat) (f g:M D):M D:=bnd f λd Z=>match d with
 | .lst ds=>if ds.length<64 then match qme Z fr with
   |some cs=>match qkc g n cs ds with
    |some ks => .ok (.lst (qh3 (Srt.ord ks) ds),Z)
    |none => .bad
   |none => .bad
  else .bad
 |_ => .bad
section
variable{X:Cx}{c:Fc}{e:Expr}{p pos kpos lpos:Pos}{N':List Str}{fr:List Nat}{x:Str}{params:yd4}{body:Expr}{scope:Scope}{k:Nat}{c0 Pt:Addr}
end
end L2.Sk
namespace L2
open PySem PySem.Spec PyProof.Rows
theorem walk_lam {l:yd5} {n k:Nat} {q:yap} {loose:List Str} {XP:(Str->Option Value)->Heap->Prop} {YP:World->Heap->Prop} {d:DefRec} {K:Params->yai} {CX:World->CXT} {sp:World->Sp} {x:Str}
  (hn:l.most=some n) (hn2:n<=yas) (hdf:d.params.defaults=[]) (hr:yn k ydL)
  (hY:∀(w:World)(h:Heap),YP w h->(K w.params).In h) {lm:World->Option (Addr×Addr×Pos×Str)}
  (hlm:∀(w:World)(mean:ExcName->Option Value)(mg mb:Str->Option Value)(h:Heap)(c Pt:Addr)(pos:Pos)(z:Str),Top q (PySem.W.looseW q loose) mean mg mb h->(K w.params).In h->lm w=some (c,Pt,pos,z) ->
   yen h c Pt/\h.get? Pt=some (yeo #[])/\(K w.params).lookup Pt=none)
  (F : ∀(w:World)(mg:Str->Option Value)(fa:Addr)(h:Heap),(K w.params).In h->h.Ns yah mg->mg d.name=some (.ref fa) ->
   ∃ fd:yaN,(∀(s:yab)(u:Value),ydJ s fd ⟨[u],[]⟩ [(x,u)]) /\
    ∀base:Heap,(K w.params).In base->base.Ns yah mg->uv l.prog w (K w.params) mg base (CX w) k fa fd [x] (sp w))
  (hsp:∀(w:World)(H:Hp)(a:Addr)(ns:List Int),ns.length<=n->qkF H->(∀c Pt pos z,lm w=some (c,Pt,pos,z)->H Pt=some (.lam pos z))->SqL (K w.params) H a (ns.map V.int)->sp w [.ref a] H (λv _=>v=.bl true) λ_ _ _=>False)
  (hCX:∀(w:World)(H:Hp)(s:yab)(e:Value)(s':yab),CX w [] H s (λ_ _ _=>False) e s'->False) :
  PySem.W.WalkO q loose XP YP l.row.toRowW d [] (λf vs=>yfz f vs):=by
 refine Att.attach_call hn hdf λw s₀ sJ mg mb fa o pm cd doc a vs ns G Y ho hd hcd hmg hobj hints hlen hg=>?_
 have KX:=hY w _ Y
 obtain⟨fd,hb,hF⟩:=F w mg fa _ KX G.T.g hmg
 exact qfj (lm:=lm w) KX G.T.g G.T.b G.T.builtins G.T.nolimit G.T.bmain (λc Pt pos z=>hlm w _ mg mb _ c Pt pos z G.T KX) hg hobj hints (yaJ hlen hn2) hr hF hb (λH hO hT hS=>hsp w H a ns hlen hO hT hS) λH e s'=>hCX w H sJ e s'
end L2
namespace L2.Sk
open PySem PySem.Spec PyProof.Rows
section
variable{P:yap}{w:World}{K:yai}{mg:Str->Option Value}{base:Heap}
end
section
variable{X:Cx}{c:Fc}{a b e:Expr}{pos:Pos}
def qlt (i:Nat) (f:M D):M D:=λZ=>match zi i Z with
 |none => .bad
 | some _=>(bnd f λd Z=>match d,(zi i Z).bind yJ with
  |.int b,some ns=>match ns.findIdx? (·==b) with
   |some j => .ok (.non,Z.set i (some (.lst ((ns.eraseIdx j).map D.int))))
   |none => .bad
  |_,_ => .bad) Z
end
end L2.Sk
namespace L2.Sk
open PySem PySem.Spec PyProof.Rows
section
variable{X:Cx}
end
def qmW:D->D->Option D
 |.bl a,.bl b=>some (.bl (a==b))
 |_,_=>none
end L2.Sk
namespace L2
open PySem PySem.Spec PyProof.Rows
section
variable{X:Cx}{pos:Pos}
end
end L2
namespace L2.Sk
open PySem PySem.Spec PyProof.Rows
section
variable{X:Cx}{c:Fc}
end
end L2.Sk
set_option maxHeartbeats 1000000
namespace L2
open PySem PySem.Spec PyProof.Rows
abbrev uM:=Int×Int×List Int
def lt3(x y:uM):Bool:=if x.1=y.1 then if x.2.1=y.2.1 then HT.lexLt x.2.2 y.2.2 else decide (x.2.1<y.2.1)else decide (x.1<y.1)
theorem qbM:∀a:List Int,HT.lexLt a a=false
 | []=>rfl
 |x::a=>by rw[HT.lexLt_cons,if_pos rfl];exact qbM a
theorem qcw:∀a b:List Int,HT.lexLt a b=true->HT.lexLt b a=false
 | [],[],_=>rfl
 | [],_::_,_=>rfl
 |_::_,[],h=>by cases h
 | x::a,y::b,h=>by
  rw[HT.lexLt_cons]at h |-
  by_cases c:x=y
  ·subst c
   rw[if_pos rfl]at h |-
   exact qcw a b h
  ·rw[if_neg c]at h
   rw[if_neg λz=>c z.symm]
   have:=of_decide_eq_true h
   exact decide_eq_false (by omega)
theorem qex:∀a b c:List Int,HT.lexLt a c=true->HT.lexLt a b=true\/HT.lexLt b c=true
 |a,[],[],h=>by cases a<;>cases h
 |_,[],_::_,_ => .inr rfl
 | [],_::_,_,_ => .inl rfl
 |_::_,_::_,[],h=>by cases h
 | x :: a,y::b,z::c,h=>by
  rw[HT.lexLt_cons]at h
  rw[HT.lexLt_cons,HT.lexLt_cons]
  by_cases e1:x=y
  ·subst e1
   by_cases e2:x=z
   ·rw[if_pos e2]at h |-
    rw[if_pos rfl]
    exact qex a b c h
   ·rw[if_neg e2]at h |-
    exact .inr h
  ·by_cases e2:y=z
   ·subst e2
    rw[if_neg e1]at h |-
    exact .inl h
   ·rw [if_neg e1,if_neg e2]
    by_cases e3:x=z
    ·subst e3
     simp only[decide_eq_true_eq]
     omega
    ·rw[if_neg e3]at h
     simp only[decide_eq_true_eq]at h |-
     omega
theorem qh4(x:uM):lt3 x x=false:=by unfold lt3;rw[if_pos rfl,if_pos rfl];exact qbM _
theorem qfT (x y:uM) (h:lt3 x y=true):lt3 y x=false:=by
 unfold lt3 at h |-
 by_cases c:x.1=y.1
 ·rw [if_pos c]at h;rw[if_pos c.symm]
  by_cases d:x.2.1=y.2.1
  ·rw[if_pos d]at h;rw[if_pos d.symm];exact qcw _ _ h
  ·rw[if_neg d]at h;rw[if_neg λz=>d z.symm]
   have:=of_decide_eq_true h
   exact decide_eq_false (by omega)
 ·rw[if_neg c]at h;rw[if_neg λz=>c z.symm]
  have:=of_decide_eq_true h
  exact decide_eq_false (by omega)
theorem qey (x y z:uM) (h:lt3 x z=true):lt3 x y=true\/lt3 y z=true:=by
 obtain⟨x1,x2,x3⟩:=x
 obtain⟨y1,y2,y3⟩:=y
 obtain⟨z1,z2,z3⟩:=z
 unfold lt3 at h |-
 dsimp only at h |-
 by_cases e1:x1=y1
 ·subst e1
  by_cases e2:x1=z1
  ·rw [if_pos e2]at h |-
   rw[if_pos rfl]
   by_cases f1:x2=y2
   ·subst f1
    by_cases f2:x2=z2
    ·rw[if_pos f2]at h |-
     rw[if_pos rfl]
     exact qex _ _ _ h
    ·rw[if_neg f2]at h |-
     exact .inr h
   ·by_cases f2:y2=z2
    ·subst f2
     rw[if_neg f1]at h |-
     exact .inl h
    ·rw [if_neg f1,if_neg f2]
     by_cases f3:x2=z2
     ·subst f3
      simp only[decide_eq_true_eq]
      omega
     ·rw[if_neg f3]at h
      simp only[decide_eq_true_eq]at h |-
      omega
  ·rw[if_neg e2]at h |-
   exact .inr h
 ·by_cases e2:y1=z1
  ·subst e2
   rw[if_neg e1]at h |-
   exact .inl h
  ·rw [if_neg e1,if_neg e2]
   by_cases e3:x1=z1
   ·subst e3
    simp only[decide_eq_true_eq]
    omega
   ·rw[if_neg e3]at h
    simp only[decide_eq_true_eq]at h |-
    omega
def qbN(ks:List uM)(k:uM):Int:=((ks.countP λy=>lt3 y k:Nat):Int)
def jU(ks:List uM):List Int:=ks.map (qbN ks)
theorem qh5 {ks:List uM} {x y:uM} (hx:x∈ks):decide (qbN ks x<qbN ks y)=lt3 x y:=by
 have mono:∀(p q:uM->Bool)(l:List uM),(∀z,p z=true->q z=true)->l.countP p<=l.countP q:=λp q l h=>List.countP_mono_left λz _=>h z
 cases c:lt3 x y with
 | true=>
  apply decide_eq_true
  have sub:∀z,lt3 z x=true->lt3 z y=true:=λz hz=>by
   rcases qey z y x hz with h|h
   ·exact h
   ·rw[qfT x y c]at h;cases h
  have strict:∀l:List uM,x∈l->l.countP (λz=>lt3 z x)<l.countP (λz=>lt3 z y):=λl=>by
   induction l with
   |nil=>intro h;cases h
   | cons a l ih=>
    intro h
    rw[List.countP_cons,List.countP_cons]
    rcases List.mem_cons.mp h with rfl|h
    ·rw[qh4,c]
     have:=mono (λz=>lt3 z x) (λz=>lt3 z y) l sub
     simp only[yaU,if_false,if_true]
     omega
    ·have:=ih h
     cases d:lt3 a x with
     |true=>rw[sub a d];simp only[if_true];omega
     |false=>simp only[yaU,if_false];split<;>omega
  have:=strict ks hx
  unfold qbN
  omega
 | false=>
  apply decide_eq_false
  have sub:∀z,lt3 z y=true->lt3 z x=true:=λz hz=>by
   rcases qey z x y hz with h|h
   ·exact h
   ·rw[c]at h;cases h
  have:=mono (λz=>lt3 z y) (λz=>lt3 z x) ks sub
  unfold qbN
  omega
theorem qbg(ks:List uM):(jU ks).length=ks.length:=lM_ _
def K3V(h:Heap)(k:uM)(u:Value):Prop:=∃p q t1 t2 its,u=.ref p/\IsTup h p #[.int k.1 t1,.int k.2.1 t2,.ref q]/\IsTup h q its/\ybE its.toList k.2.2
inductive qcx (h:Heap):List uM->List Value->Prop
 |nil:qcx h [] []
 |cons {k:uM} {v:Value} {ks:List uM} {vs:List Value}:K3V h k v->qcx h ks vs->qcx h (k::ks) (v::vs)
theorem qcx.length {h:Heap} {ks:List uM} {vs:List Value} (x:qcx h ks vs):ks.length=vs.length:=by
 induction x with
 |nil=>rfl
 |cons _ _ ih=>rw[lC_,lC_,ih]
theorem qcx.get {h:Heap} {ks:List uM} {vs:List Value} (x:qcx h ks vs):∀{i:Nat},i<ks.length->K3V h (ks.getD i (0,0,[])) (vs.getD i yau):=by
 induction x with
 |nil=>intro i hi;exact absurd hi (yd6 _)
 |cons a _ ih=>
  intro i hi
  cases i with
  |zero=>exact a
  |succ i=>exact ih (by simpa using hi)
section
variable{X:Cx}{pins:List (Addr×Obj)}{σ:St}{H:Hp}{s:yab}
end
theorem qaf {prog:yap} {w:World} {vs:List Value} {ns:List Int} (h:ybE vs ns):ItemsAre (yfe prog w) ns vs:=by
 induction h with
 |nil=>exact .nil
 |cons n t _ ih=>exact .cons (by simp[yfe,Value.isInt]) ih
section
variable{prog:yap}{w:World}{A:yar}{E:Value->yab->Prop}{s:yab}
theorem qkd {kx ky:uM} {u v:Value} {Q:Bool->yab->Prop} (hu:A.units<cLine) (hx:K3V s.heap kx u) (hy:K3V s.heap ky v) (h:Q (lt3 kx ky) s) :
  wpAny (model prog w) A (yeP (yb7 true) u v) Q E s:=by
 obtain⟨p,q,t1,t2,its,rfl,hp,hq,hi⟩:=hx
 obtain⟨p',q',t1',t2',its',rfl,hp',hq',hi'⟩:=hy
 obtain⟨o,ho,hc,n,hd⟩:=id hp
 obtain⟨o',ho',hc',n',hd'⟩:=id hp'
 refine PySem.W.kat_lt ho hd ho' hd' ?_
 show PySem.W.KatLex prog w A true (decide (3<3)) Q [(.int kx.1 t1,.int ky.1 t1'),(.int kx.2.1 t2,.int ky.2.1 t2'),(.ref q,.ref q')] 0 s
 unfold lt3 at h
 refine ydW (ydM ?_)
 by_cases c:kx.1=ky.1
 ·rw [if_pos c]at h
  rw[show(kx.1==ky.1)=true by simp[c]]
  refine yd7 (ydW (ydM ?_))
  by_cases d:kx.2.1=ky.2.1
  ·rw [if_pos d]at h
   rw[show(kx.2.1==ky.2.1)=true by simp[d]]
   refine yd7 (ydW ?_)
   have kq:IsTupleKey (yfe prog w) s.heap kx.2.2 q:=by
    obtain⟨o2,a1,a2,n2,a3⟩:=hq
    exact⟨o2,its,n2,a1,a2,a3,qaf hi⟩
   have kq':IsTupleKey (yfe prog w) s.heap ky.2.2 q':=by
    obtain⟨o2,a1,a2,n2,a3⟩:=hq'
    exact⟨o2,its',n2,a1,a2,a3,qaf hi'⟩
   refine wpAny_eqBool_tuple hu kq kq' ?_
   by_cases e:kx.2.2=ky.2.2
   ·rw[decide_eq_true e]
    rw[e,qbM]at h
    exact yd7 (PySem.W.kat_nil h)
   ·rw[decide_eq_false e]
    exact yet (PySem.W.kat_one _ _ (HT.lt_tupInts hq hq' hi hi' hu h))
  ·rw[if_neg d]at h
   rw[show(kx.2.1==ky.2.1)=false by simp[d]]
   exact yet (PySem.W.kat_one _ _ (lt_int h))
 ·rw[if_neg c]at h
  rw[show(kx.1==ky.1)=false by simp[c]]
  exact yet (oneLt_int h)
theorem qfU {ks:List uM} {vs:List Value} (x:qcx s.heap ks vs):∃fs:List Value,PySem.W.KatTups s.heap vs fs/\fs.length=ks.length/\∀v∈fs,∃i t,v=yci i t:=by
 induction x with
 |nil=>exact⟨[],.nil,rfl,λv hv=>by cases hv⟩
 | @cons k v ks vs a _ ih=>
  obtain⟨fs,h1,h2,h3⟩:=ih
  obtain⟨p,q,t1,t2,its,rfl,⟨o,ho,hc,n,hd⟩,_,_⟩:=a
  refine⟨.int k.1 t1::fs,.cons ho hc hd rfl h1,by rw[lC_,lC_,h2],λv hv=>?_⟩
  rcases List.mem_cons.mp hv with rfl|hv
  ·exact⟨_,_,rfl⟩
  ·exact h3 v hv
theorem qez {α:Type} {vs:List Value} {ks:List uM} {R:α->Prop} {G:α->yab->Prop} (hu:A.units<cLine) (hk:qcx s.heap ks vs):∀{t:PySem.W.KasT α},Srt.Fits ks.length R t ->
  G (Srt.runK (λi j=>decide ((jU ks).getD i 0<(jU ks).getD j 0)) t) s->t.kasWp (PySem.W.kas_ask prog w A (yb7 true) vs) G s
 |.ret _,_,h=>h
 |.ask i j k,⟨h1,h2,h3⟩,h=>by
  have e1:(jU ks).getD i 0=qbN ks (ks.getD i (0,0,[])):=by unfold jU;simp[h1]
  have e2:(jU ks).getD j 0=qbN ks (ks.getD j (0,0,[])):=by unfold jU;simp[h2]
  have hm:ks.getD i (0,0,[])∈ks:=by simp[h1]
  have h':G (Srt.runK (λi j=>decide ((jU ks).getD i 0<(jU ks).getD j 0)) (k (decide ((jU ks).getD i 0<(jU ks).getD j 0)))) s:=h
  rw[e1,e2,qh5 hm]at h'
  show wpAny (model prog w) A (yeP (yb7 true) (vs.getD i yau) (vs.getD j yau)) _ _ s
  exact qkd hu (hk.get h1) (hk.get h2) (qez hu hk (h3 _) h')
end
section
variable{X:Cx}{pins:List (Addr×Obj)}{σ:St}{H0 H:Hp}{s0 s:yab}{a kS:Addr}{A:yar}{E:Value->yab->Prop}{f:Value}{vs:List Value}{ks:List uM}{e1:Nat}{P:ye8->yab->Prop}
end
section
variable{X:Cx}{pins:List (Addr×Obj)}{σ:St}{H:Hp}{s:yab}{l f:Addr}{vs:List Value}{ks:List uM}{Q:Value->yab->Prop}{E:Value->yab->Prop}
end
end L2
namespace L2
open PySem PySem.Spec PyProof.Rows
section
variable{X:Cx}{k:Nat}{f:Addr}{fd:yaN}{x:Str}{F:List Sk.D->Sk.R Sk.D}
end
end L2
namespace L2.Sk
open PySem PySem.Spec PyProof.Rows
def qmg:D->Option uM
 |.tup [.int a,.int b,.tup ts]=>match yJ ts with
  |some ns=>some (a,b,ns)
  |none=>none
 |_=>none
def qke (F:List D->R D):List D->Option (List uM)
 | []=>some []
 | d::ds=>match F [d],qke F ds with
  |.ok k,some ks=>match qmg k with
   |some k=>some (k::ks)
   |none=>none
  |_,_=>none
def qmh (F:List D->R D) (f:M D):M D:=bnd f λd Z=>match d with
 | .lst ds=>if ds.length<64 then match qke F ds with
   |some ks => .ok (.lst (qh3 (Srt.ord (jU ks)) ds),Z)
   |none => .bad
  else .bad
 |_ => .bad
section
variable{X:Cx}{c:Fc}{e:Expr}{p pos kpos p2:Pos}{x:Str}{k:Nat}
end
end L2.Sk
set_option maxHeartbeats 1000000
namespace L2.Sk
open PySem PySem.Spec PyProof.Rows
def vp(F F':D->D->Option D)(f g k:M D):M D:=bnd f λx=>bnd g λy=>bnd (lift (F x y)) λz=>bnd (lift (asB z)) λb=>if b then bnd k λw=>lift (F' y w)else ret (.bl false)
section
variable{X:Cx}{c:Fc}{a b e:Expr}{pos:Pos}
theorem qkf {r r':R2} {F F':D->D->Option D} {f g k:M D} {ta tb tc:TE} (hF:OpS X.K F r) (hF':OpS X.K F' r') (wa:∀Z σ H Q,Rep X.K c Z σ H->Wp X.K c σ H Q (f Z)->ta σ H Q) (wb:∀Z σ H Q,Rep X.K c Z σ H->Wp X.K c σ H Q (g Z)->tb σ H Q) (wc:∀Z σ H Q,Rep X.K c Z σ H->Wp X.K c σ H Q (k Z)->tc σ H Q) :
  ∀Z σ H Q,Rep X.K c Z σ H->Wp X.K c σ H Q (vp F F' f g k Z)->qgj r r' ta tb tc σ H Q:=λZ σ H Q rp h=>by
 refine wa Z σ H _ rp (Wp.bnd h λx Z1 v H1 r1 i1 g1 h1=>wb Z1 σ H1 _ r1 (Wp.bnd h1 λy Z2 u H2 r2 i2 g2 h2=>?_))
 cases ez:F x y with
 |none=>rw[ez]at h2;exact h2.elim
 | some z=>
  rw[ez]at h2
  cases eb:asB z with
  |none=>
   have h3:Wp X.K c σ H2 Q (bnd (lift (asB z)) (λb=>if b then bnd k λw=>lift (F' y w)else ret (.bl false)) Z2):=h2
   rw[eb]at h3
   exact h3.elim
  | some q=>
   have h3:Wp X.K c σ H2 Q (bnd (lift (asB z)) (λb=>if b then bnd k λw=>lift (F' y w)else ret (.bl false)) Z2):=h2
   rw[eb]at h3
   have hz:=vA eb
   subst hz
   refine hF _ H2 x y (.bl q) v u _ (λa ha=>r2.new ha) (g2.is i1) i2 ez λw H' s i=>⟨q,i,?_⟩
   cases q with
   |false=>
    rw[if_neg (by simp)]
    have h4:Wp X.K c σ H2 Q (.ok (.bl false,Z2)):=h3
    exact h4 _ H' (r2.same s) rfl (.of_same s)
   |true=>
    rw[if_pos rfl]
    have h4:Wp X.K c σ H2 Q (bnd k (λw=>lift (F' y w)) Z2):=h3
    refine wc Z2 σ H' _ (r2.same s) (Wp.bnd (h4.gr (.of_same s)) λw' Z3 u3 H3 r3 i3 g3 h5=>?_)
    obtain⟨d,e,h6⟩:=h5.lift
    exact hF' _ H3 y w' d u u3 Q (λa ha=>r3.new ha) (g3.is (Gr.is (.of_same s) i2)) i3 e λw2 H4 s4 i4=>h6 w2 H4 (r3.same s4) i4 (.of_same s4)
theorem qfV {op op':CmpOp} {e':Expr} {r r':R2} {F F':D->D->Option D} {f g k:M D} (ho:OpR X (yaI op) r) (hF:OpS X.K F r) (ho':OpR X (yaI op') r') (hF':OpS X.K F' r') (ha:DE X c a f) (hb:DE X c b g) (hc:DE X c e' k)
  (hm:lastMarks [op,op'] [b,e']=false:=by with_unfolding_all rfl):DE X c (.Compare a [op,op'] [b,e'] pos) (vp F F' f g k):=by
 obtain⟨ta,pa,wa⟩:=ha
 obtain⟨tb,pb,wb⟩:=hb
 obtain⟨tc,pc,wc⟩:=hc
 exact⟨_,qfd ho ho' pa pb pc hm,qkf hF hF' wa wb wc⟩
end
theorem qfW {F F':D->D->Option D} {f g k:M D} {Z:Env} {x y w d:D} (hf:f Z=.ok (x,Z)) (hg:g Z=.ok (y,Z)) (h1:F x y=some (.bl true)) (hk:k Z=.ok (w,Z)) (h2:F' y w=some d):vp F F' f g k Z=.ok (d,Z):=by
 unfold vp
 rw[vY hf,vY hg,h1]
 show bnd k _ Z=_
 rw[vY hk,h2]
 rfl
theorem qeA {F F':D->D->Option D} {f g k:M D} {Z:Env} {x y:D} (hf:f Z=.ok (x,Z)) (hg:g Z=.ok (y,Z)) (h1:F x y=some (.bl false)):vp F F' f g k Z=.ok (.bl false,Z):=by
 unfold vp
 rw[vY hf,vY hg,h1]
 rfl
end L2.Sk
set_option maxHeartbeats 1000000
namespace L2
open PySem PySem.Spec PyProof.Rows
theorem qag {h h':Heap} {a:Addr} {its:Array Value} (k:∀b u,h.get? b=some u->h'.get? b=some u) (t:IsTup h a its):IsTup h' a its:=by
 obtain⟨o,h1,h2,n,h3⟩:=t
 exact⟨o,k _ _ h1,h2,n,h3⟩
theorem qcx.kept {h h':Heap} {ks:List uM} {vs:List Value} (k:∀b u,h.get? b=some u->h'.get? b=some u) (x:qcx h ks vs):qcx h' ks vs:=by
 induction x with
 |nil=>exact .nil
 |cons a _ ih=>
  obtain⟨p,q,t1,t2,its,e,h1,h2,h3⟩:=a
  exact .cons ⟨p,q,t1,t2,its,e,qag k h1,qag k h2,h3⟩ ih
section
variable{X:Cx}{pins:List (Addr×Obj)}{σ:St}{H0 H:Hp}{s0 s:yab}{a:Addr}{A:yar}{E:Value->yab->Prop}{vs:List Value}{ks:List uM}{P:ye8->yab->Prop}
theorem qkg {n:Nat} (I0:Inv X pins σ H0 s0) (hu:A.units<cLine) (kv:qcx s0.heap ks vs) (z:SS X H0 s0 H s) (k0:∀b u,s0.heap.get? b=some u->s.heap.get? b=some u) (ho:s.heap.get? a=some (ycn "list" vs.toArray n)) (na:H a=none) (la:s0.heap.objs.size<=a) (h64:vs.length<64)
  (fin:qkb X H0 s0 a (qgH (jU ks) vs) P):wpAny (model X.prog X.w) A (ybM.«list.sort» ⟨[.ref a],[]⟩) P E s:=by
 have hlen:ks.length=vs.length:=kv.length
 have hrl:(jU ks).length=vs.length:=(qbg ks).trans hlen
 have hlt:a<s.heap.objs.size:=yac ho
 have sb:=ycb s.heap a (yaH λ_=>(#[]:Array Value))
 obtain⟨e1,ho1⟩:∃e1,(s.heap.update a (yaH λ_=>(#[]:Array Value))).get? a=some (ycn "list" #[] e1):=⟨_,get?_update_seq ho λ_ => #[]⟩
 have z1:=z.poke na la sb s.toks
 have kp:∀b u,(s.heap.update a (yaH λ_=>(#[]:Array Value))).get? b=some u->(((s.heap.update a (yaH λ_=>(#[]:Array Value))).push (ycn "tuple" vs.toArray 0)).push (ycn "list" #[] 0)).get? b=some u :=
  λb u q=>Heap.get?_push_of_some _ (Heap.get?_push_of_some _ q)
 have z3:=z1.kept kp s.toks
 have ka:∀b u,s0.heap.get? b=some u->(((s.heap.update a (yaH λ_=>(#[]:Array Value))).push (ycn "tuple" vs.toArray 0)).push (ycn "list" #[] 0)).get? b=some u:=λb u q=>by
  refine kp b u ((sb.2 b ?_).trans (k0 b u q))
  exact yaq (yat (yac q) la)
 have kv3:=kv.kept ka
 rw[list_sort_plain]
 refine yaa (listItems_at ho rfl (yaa (yeK ho rfl ?_ (by rw[sT_,ybz];omega) (yaP _))))
 refine yaa (seqEpoch_at ho1 rfl (yaa (yep ?_ (by show vs.length<=_;rw[ybz];omega))))
 refine yaa (wpAny_newList (yaZ ?_) (yaP _))
 show wpAny (model X.prog X.w) A _ P E {s with heap:=((s.heap.update a (yaH λ_=>(#[]:Array Value))).push (ycn "tuple" vs.toArray 0)).push (ycn "list" #[] 0)}
 generalize hs3:({s with heap:=((s.heap.update a (yaH λ_=>(#[]:Array Value))).push (ycn "tuple" vs.toArray 0)).push (ycn "list" #[] 0)}:yab)=s3
 have z3':SS X H0 s0 H s3:=by rw[<-hs3];exact z3
 have ga:s3.heap.get? a=some (ycn "list" #[] e1):=by rw[<-hs3];exact kp _ _ ho1
 have kv3':qcx s3.heap ks vs:=by rw[<-hs3];exact kv3
 dsimp only
 have tail:∀(st:SortSt),(arrOf st).map (·.2)=(qgH (jU ks) vs).toArray->failedOf st=none ->
   wpAny (model X.prog X.w) A (do
    let touched:=(<-seqEpoch a) != e1
    yd0 (.ref a) λ_=>(arrOf st).map (·.2)
    if let some e:=failedOf st then rule "list.sort.comparison-raised";throw e
    if touched then rule "list.sort.modified";raiseError "ValueError" "list modified during sort"
    ret .none) P E s3:=λst ho hf=>by
  have ol:=qfS hrl
  have sb2:=ycb s3.heap a (yaH λ_=>(qgH (jU ks) vs).toArray)
  have z4:=z3'.poke na la sb2 s3.toks
  refine yaa (seqEpoch_at ga rfl ?_)
  rw[ho,hf]
  refine yaa (yeK ga rfl ?_ (yaP _) (by show(qgH (jU ks) vs).toArray.size<=_;rw[sT_,ybz];omega))
  simp only[bne_self_eq_false,yaU,if_false]
  exact yaf (fin H _ _ z4 na (get?_update_seq ga λ_=>(qgH (jU ks) vs).toArray))
 by_cases h2:vs.length<2
 ·have h2':vs.toArray.size<2:=by rw[sT_];exact h2
  rw[if_pos h2',if_pos h2']
  refine yaa (yaf ?_)
  rw[StateT.run_pure]
  refine yaa (yaf ?_)
  refine tail _ ?_ rfl
  have e0:qgH (jU ks) vs=vs:=by
   show(Srt.ord (jU ks)).map _=vs
   unfold Srt.ord
   rw[if_pos (by omega),hrl]
   exact Srt.map_getD_range _ vs
  rw[e0]
  apply Array.toList_inj.mp
  show((vs.toArray.zip vs.toArray).map (·.2)).toList=vs.toArray.toList
  rw[Array.toList_map,ksk_zip,List.map_snd_zip (yak _)]
 ·have h2':¬vs.toArray.size<2:=by rw[sT_];exact h2
  rw[if_neg h2',if_neg h2']
  obtain⟨fs,t1,t2,t3⟩:=qfU kv3'
  refine yaa ?_
  refine PySem.W.kat_kind (T:=.type "int") t1 (by omega) (λv hv=>?_) rfl ?_
  ·obtain⟨i,t,rfl⟩:=t3 v hv
   exact .now
  show wpAny _ _ _ _ _ _
  refine yaa (yaV (PySem.W.kat_run (κ:=yb7 true) (Q:=λst' s'=>s'=s3/\(arrOf st').map (·.2)=(qgH (jU ks) vs).toArray/\failedOf st'=none) (G:=λp s'=>s'=s3/\p.toList=Srt.ord (jU ks)) rfl (by omega) h64 (λp st' s' a1 a2 a3 a4=>?_) ?_) ?_ λ_ _ x=>x)
  ·refine⟨a4.1,?_,a3⟩
   rw[PySem.W.kat_snds rfl a2,a4.2]
  ·have ft:=Srt.fits_sort (n:=ks.length) (by omega)
   rw[<-hlen]
   refine qez hu kv3' ft ⟨rfl,?_⟩
   unfold Srt.ord
   rw[if_neg (by omega),qbg]
  ·rintro⟨⟨⟩,st'⟩ s' ⟨rfl,h3,h4⟩
   exact tail st' h3 h4
end
end L2
namespace L2.Sk
open PySem PySem.Spec PyProof.Rows
def qkh:List D->Option (List uM)
 | []=>some []
 |d::ds=>match qmg d,qkh ds with
  |some k,some ks=>some (k::ks)
  |_,_=>none
def qmi (i:Nat):M (List D):=λZ=>match zi i Z with
 | some ds=>if ds.length<64 then match qkh ds with
   |some ks => .ok (qh3 (Srt.ord (jU ks)) ds,Z)
   |none => .bad
  else .bad
 |none => .bad
section
variable{X:Cx}{c:Fc}{pos:Pos}
end
def ltB:D->D->Option D
 |.int i,.int j=>some (.bl (decide (i<j)))
 |.tup xs,.tup ys=>match yJ xs,yJ ys with
  |some ns,some ms=>some (.bl (HT.lexLt ns ms))
  |_,_=>none
 |_,_=>none
end L2.Sk
set_option maxHeartbeats 1000000
namespace L2.Sk
open PySem PySem.Spec PyProof.Rows
def qki (O:List Nat) (Z:Env):Bool:=O.all λj=>match Z[j]? with
 |some (some (.lst ds))=>immL ds
 |_=>true
open Classical in
noncomputable def qmj (i:Nat) (O:List Nat) (F:List D->R D) (g:M (List D)) (t:M Bool):MS:=λZ=>match g Z with
 | .ok (ds,Z1)=>if immFs ds=true/\qki O Z1=true/\i<Z1.length then match F ds with
   | .ok (.tup [.lst xs,.lst ys])=>match t (Z1.set i (some (.tup [.lst xs,.lst ys]))) with
     |.ok (b,Z2)=>if b=true then .ok (.rt (.bl false) Z2)else if Z2=Z1.set i (some (.tup [.lst xs,.lst ys]))/\xs.length+ys.length<1000 then .ok (.nx (Z1.set i none))else .bad
     |_ => .bad
   |_ => .bad
  else .bad
 |_ => .bad
section
variable{X:Cx}{c:Fc}
end
end L2.Sk
set_option maxHeartbeats 1000000
namespace L2.Sk
open PySem PySem.Spec PyProof.Rows
def zA (z:Str) (X:Cx) (scope:Scope) (N':List Str) (fp:List Addr) (cl:List (Str×Addr)) (C:Addr) (s₀:yab) (H₀:Hp) (pn:List (Addr×Obj)):Cx where
 prog:=X.prog
 w:=X.w
 K:=X.K
 mg:=X.mg
 base:=X.base
 A:=X.A
 N:=N'
 s₀:=s₀
 H₀:=H₀
 env:=ycM scope cl C X.env
 outer:=X.stack
 stack:=X.stack
 ex:=fp
 fn:=λx=>x==z
 calm:=X.calm
 pn:=pn
 xe:=λ_ _=>False
theorem zZ {z:Str} {env:yaG}:∀{names:List (Str×ybZ)}{x:Str}{q:ybZ},(names.map λ(n,k)=>if(k==yaC&&env.scope.kind == .function&&env.kindOf n==some .cell) then(n,ya1) else(n,k)).lookup x=some q ->
  q=.cell\/q=.free->(∀y∈names,y.2=.cell->y.1=z)->x=z\/∃k,(x,k)∈names/\k=.free
 | [],_,_,h,_,_=>by simp at h
 | (n,k)::r,x,q,h,hq,hc=>by
  have ih := @zZ z env r x q
  have h':yed x ((if(k==yaC&&env.scope.kind == .function&&env.kindOf n==some .cell)=true then(n,ya1) else(n,k))::(r.map λ(n,k)=>if(k==yaC&&env.scope.kind == .function&&env.kindOf n==some .cell) then(n,ya1) else(n,k)))=some q:=h
  have hr:∀y∈r,y.2=.cell->y.1=z:=λy hy=>hc y (mM _ hy)
  by_cases hcd:(k==yaC&&env.scope.kind == .function&&env.kindOf n==some .cell)=true
  ·rw [if_pos hcd]at h'
   cases hxn:x==n with
   |true=>
    have e:x=n:=ybB hxn
    subst e
    refine .inr ⟨k,mS_,?_⟩
    rw[yaj,yaj]at hcd
    exact ybB hcd.1.1
   |false=>
    simp only[yay,hxn]at h'
    rcases ih h' hq hr with e|⟨k',m,e⟩
    ·exact .inl e
    ·exact .inr ⟨k',mM _ m,e⟩
  ·rw [if_neg hcd]at h'
   cases hxn:x==n with
   |true=>
    have e:x=n:=ybB hxn
    subst e
    simp only[yay,hxn]at h'
    cases h'
    rcases hq with rfl|rfl
    ·exact .inl (hc (x,.cell) mS_ rfl)
    ·exact .inr ⟨.free,mS_,rfl⟩
   |false=>
    simp only[yay,hxn]at h'
    rcases ih h' hq hr with e|⟨k',m,e⟩
    ·exact .inl e
    ·exact .inr ⟨k',mM _ m,e⟩
def qkj (z:Str) (X:Cx) (tg:Expr) (ifs:List Expr) (elt:Expr) (scope:Scope) (N':List Str) (wi:TI) (nt:Nat) (fr:List Nat):TE:=λσ H Q=>wi σ H λJ H1=>∀acc fp cl C s₀ H₀ pn,H1 acc=none ->
 ∃(g:TG)(tt:TT)(te:TE),PG (zA z X scope N' fp cl C s₀ H₀ pn) tg g/\PF (zA z X scope N' fp cl C s₀ H₀ pn) ifs tt/\PE (zA z X scope N' fp cl C s₀ H₀ pn) elt te /\
 ∃W:Nat->Nat->St->Hp->Prop,(∃m,W 0 m (qu nt fr σ) (upd H1 acc (.lst []))) /\
 ∀ i m σ' H',W i m σ' H'->(J.stop i H'/\Q (.ref acc) H')\/(J.go i H'/\∀x H'',J.yld i H' x H''->g x σ' H'' λσ2 H2=>tt σ2 H2 λb H3=>
  if b=true then te σ2 H3 λy H4=>∃ys,H4 acc=some (.lst ys)/\ys.length<yas/\∃m',m'<m/\W (i+1) m' σ2 (upd H4 acc (.lst (ys++[y])))else ∃m',m'<m/\W (i+1) m' σ2 H3)
structure yW (z:Str) (X:Cx) (scope:Scope) (N':List Str) (nt:Nat) (fr:List Nat):Prop where
 kind:scope.kind=.function
 cell:∀y∈scope.names,y.2=.cell->y.1=z
 cz:scope.names.lookup z=some .cell
 cf:∀n acc,ycj n scope.names acc=(z,n)::acc
 pc:∀h:Heap,pushCells h scope.names=h.push {cls:=.type "cell",data:=.cell none}
 names:∀y∈scope.names,y.2=.local->scope.names.lookup y.1=some .local
 frees:∀y∈scope.names,y.2=.free->X.env.kindOf y.1=some .cell/\y.1≠z
 len:N'.length=nt+fr.length
 slot:∀i j,fr[i]? = some j->∃x,N'[nt+i]? = some x/\X.N[j]? = some x/\scope.names.lookup x=some .free
theorem qaD {M:Model} {A:yar} {E:Value->yab->Prop} {s:yab} {z:Str} {scope:Scope} {globals:Addr} {closure:List (Str×Addr)} {qual:Str} {func:Option Addr} {code:Value} {outer:yaG} {builtins:Addr} {Q:yaG->yab->Prop}
  (cf:∀n acc,ycj n scope.names acc=(z,n)::acc) (pc:∀h:Heap,pushCells h scope.names=h.push {cls:=.type "cell",data:=.cell none})
  (hQ:∀h':Heap,(∃m,h'.Ns s.heap.objs.size m)->(∀b o,s.heap.get? b=some o->h'.get? b=some o)->h'.IsCell (s.heap.objs.size+1) none ->
   Q (newEnv scope s.heap.objs.size globals ((z,s.heap.objs.size+1)::closure) qual func code (some outer) builtins) {s with heap:=h',toks:=s.toks}) :
  wpAny M A (newFunctionEnv scope globals closure [] qual func code (some outer) builtins) Q E s:=by
 simp only[newFunctionEnv,ye7,if_true]
 refine yaa (wpAny_alloc ?_)
 refine yaa (wpAny_layCells _ (λname kind cells=>by cases hkc:kind==ya1<;>simp[hkc]) _ _ _ _ ?_)
 rw[cf,pc,show({s with heap:=s.heap.push {cls:=.type "dict",data:=.dict #[]} }:yab).heap.objs.size=s.heap.objs.size+1 from yby ..]
 rw[ycs]
 refine yaa (yaf (yaf ?_))
 refine hQ _ ⟨_,(Heap.Ns.new s.heap (.type "dict")).keeps λb o e=>Heap.get?_push_of_some _ e⟩ (λb o e=>Heap.get?_push_of_some _ (Heap.get?_push_of_some _ e)) ⟨{cls:=.type "cell",data:=.cell none},?_,rfl⟩
 have:=Heap.get?_push_size (s.heap.push {cls:=.type "dict",data:=.dict #[]}) (o:={cls:=.type "cell",data:=.cell none}) rfl
 rw[yby]at this
 exact this
theorem lk1 {z x:Str} {a c:Addr} {cl:List (Str×Addr)} (h:((z,a)::cl).lookup x=some c):(x=z/\c=a)\/(x≠z/\cl.lookup x=some c):=by
 rw[yay]at h
 cases e:x==z with
 |true=>
  rw[e]at h
  cases h
  exact .inl ⟨ybB e,rfl⟩
 |false=>
  rw[e]at h
  exact .inr ⟨λq=>by rw[q]at e;simp at e,h⟩
theorem qlu{z:Str}{a:Addr}{cl:List (Str×Addr)}:((z,a)::cl).lookup z=some a:=by rw[yay];simp
theorem qgI {z x:Str} {a:Addr} {cl:List (Str×Addr)} (h:x≠z):((z,a)::cl).lookup x=cl.lookup x:=by
 rw[yay]
 have:(x==z)=false:=beq_eq_false_iff_ne.mpr h
 rw[this]
section
variable{z:Str}{X:Cx}{tg iter elt:Expr}{ifs:List Expr}{scope:Scope}{pos:Pos}{wi:TI}{N':List Str}{nt:Nat}{fr:List Nat}
theorem qbO {pins:List (Addr×Obj)} {σ:St} {H:Hp} {s:yab} {hX:Heap} {tk:Nat} {fp:List Addr} {cl:List (Str×Addr)} (S:yW z X scope N' nt fr) (I:Inv X pins σ H s) (hfp:∀b∈fp,wT X pins H b)
  (hex:∀b∈fp,∃o,s.heap.get? b=some o) (cl1:∀n a,cl.lookup n=some a->X.env.cells.lookup n=some a) (cl2:∀y∈scope.names,y.2=.free->∃a,cl.lookup y.1=some a)
  (hcell:hX.IsCell (s.heap.objs.size+1) none) (hns:∃m,hX.Ns s.heap.objs.size m) (old:∀b o,s.heap.get? b=some o->hX.get? b=some o) :
  Inv (zA z X scope N' fp ((z,s.heap.objs.size+1)::cl) s.heap.objs.size s H (X.pn++pins)) [] (qu nt fr σ) H {s with heap:=hX,toks:=tk}:=by
 have stkB:∀b∈frs X.stack,b=X.env.locals\/b∈X.fs:=λb hb=>List.mem_cons.mp (I.stkSub b hb)
 have hC:∀b o,s.heap.get? b=some o->b≠s.heap.objs.size:=λb o e=>yaq (yac e)
 obtain⟨m,hn⟩:=hns
 have hC1:∀b o,s.heap.get? b=some o->b≠s.heap.objs.size+1:=λb o e=>yaq (ycy (yac e))
 have clo:∀n a,cl.lookup n=some a->∃o,s.heap.get? a=some o:=λn a e=>by
  obtain⟨v,o,ho,_⟩:=I.cell n a (cl1 n a e)
  exact⟨o,ho⟩
 have inj1:∀x y c,((z,s.heap.objs.size+1)::cl).lookup x=some c->((z,s.heap.objs.size+1)::cl).lookup y=some c->x=y:=λx y c h1 h2=>by
  rcases lk1 h1 with⟨a1,a2⟩|⟨a1,a2⟩<;>rcases lk1 h2 with⟨b1,b2⟩|⟨b1,b2⟩
  ·rw[a1,b1]
  ·obtain⟨o,e⟩:=clo y c b2
   exact absurd a2 (hC1 c o e)
  ·obtain⟨o,e⟩:=clo x c a2
   exact absurd b2 (hC1 c o e)
  ·exact I.ok.inj x y c (cl1 x c a2) (cl1 y c b2)
 refine ⟨⟨I.ok.mod,S.kind,I.ok.glob,I.ok.blt,yak _,inj1,λx hx=>?_,λx c hx hx2=>?_,I.ok.hd,I.ok.frames,.inl rfl,λb hb=>⟨?_,λx c hx=>?_⟩,I.bs,yaJ I.ok.bsz I.sz,λb o e hb=>?_,λb hb hb2=>?_,I.stack,I.stkFree⟩,
  rfl,I.bare,Un.kept old,⟨m,hn,λi x v h1 h2 h3=>?_⟩,λx c hx=>?_,I.hok.fresh (yak _),λx c hx=>?_,λp hp=>?_,I.hok.kept old,?_⟩
 ·have hx':x=z\/∃k,(x,k)∈scope.names/\k=.free:=by
   rcases hx with hx|hx
   ·exact zZ (env:=X.env) (q:=.cell) hx (.inl rfl) S.cell
   ·exact zZ (env:=X.env) (q:=.free) hx (.inr rfl) S.cell
  rcases hx' with rfl|⟨k,m,rfl⟩
  ·exact⟨_,qlu⟩
  ·obtain⟨a,ea⟩:=cl2 (x,.free) m rfl
   exact⟨a,(qgI (S.frees (x,.free) m rfl).2).trans ea⟩
 ·have hx':(x==z)=true:=hx
  have:=ybB hx'
  subst this
  rcases lk1 hx2 with⟨_,e⟩|⟨e,_⟩
  ·rw[e]
   exact yeg _
  ·exact absurd rfl e
 ·obtain⟨o,e⟩:=hex b hb
  exact hC b o e
 ·rcases lk1 hx with⟨_,e2⟩|⟨_,e2⟩
  ·obtain⟨o,e⟩:=hex b hb
   rw[e2]
   exact(hC1 b o e).symm
  ·exact(hfp b hb).2.2.2.2.1 x c (cl1 x c e2)
 ·obtain⟨f0,f1,f2,f3,f4,f5⟩:=hfp b hb
  rcases f3 with z|z
  ·exact I.ok.noex b o e z
  ·exact absurd (yat (yac e) (yaJ I.ok.bsz z)) (ybc _)
 ·obtain⟨f0,f1,f2,f3,f4,f5⟩:=hfp b hb
  rcases stkB b hb2 with z|z
  ·exact f1 z
  ·exact f2 z
 ·-- names
  have hi:nt<=i:=by
   apply yb5
   intro hlt
   unfold qu at h2
   rw[List.getElem?_append_left (by simpa using hlt),List.getElem?_replicate]at h2
   split at h2<;>cases h2
  have h2':(fr.map λj=>(σ[j]?).join)[i-nt]? = some (some v):=by
   unfold qu at h2
   rw[List.getElem?_append_right (by simpa using hi),yaK]at h2
   exact h2
  rw[gM_]at h2'
  cases ej:fr[i-nt]? with
  |none=>rw[ej]at h2';cases h2'
  | some j=>
   rw[ej]at h2'
   have hσ:(σ[j]?).join=some v:=by simpa using h2'
   have hσ':σ[j]? = some (some v):=by
    cases e:σ[j]? with
    |none=>rw[e]at hσ;cases hσ
    |some o=>
     rw[e]at hσ
     have:o=some v:=hσ
     rw[this]
   obtain⟨y,hy1,hy2,hy3⟩:=S.slot (i-nt) j ej
   have hii:nt+(i-nt)=i:=by omega
   rw[hii]at hy1
   have exy:y=x:=by
    have h1':N'[i]? = some x:=h1
    rw[h1']at hy1
    exact(yaF hy1).symm
   subst exy
   have hmem:(y,yaC)∈scope.names:=yaL hy3
   have hcellk:X.env.kindOf y=some .cell:=(S.frees (y,.free) hmem rfl).1
   obtain⟨m0,hn0,hl0⟩:=I.loc
   obtain⟨u,ru,lk⟩:=hl0 j y v hy2 hσ' (.inr (.inl hcellk))
   refine⟨u,ru,.inr ⟨.inl (zH hy3 I.ok.kind hcellk),?_⟩⟩
   rcases lk with⟨k1,_⟩|⟨_,c,e,z⟩
   ·rw[hcellk]at k1;cases k1
   ·obtain⟨a,ea⟩:=cl2 (y,.free) hmem rfl
    have ea':=cl1 y a ea
    rw[e]at ea'
    cases ea'
    obtain⟨o,ho,hd⟩:=z
    exact⟨c,(qgI (S.frees (y,.free) hmem rfl).2).trans ea,o,old _ _ ho,hd⟩
 ·rcases lk1 hx with⟨_,e⟩|⟨_,e⟩
  ·rw[e];exact⟨_,hcell⟩
  ·obtain⟨v,o,ho,hd⟩:=I.cell x c (cl1 x c e)
   exact⟨v,o,old _ _ ho,hd⟩
 ·rcases lk1 hx with⟨_,e⟩|⟨_,e⟩
  ·rw[e];exact I.hok.fresh (yeg _)
  ·exact I.freeC x c (cl1 x c e)
 ·have hp':p∈X.pn++pins:=by
   rcases mA_.mp (show p∈(X.pn++pins)++[]from hp)with z|z
   ·exact z
   ·cases z
  obtain⟨e,n,ne,nf,d⟩:=I.pin p hp'
  refine⟨old _ _ e,n,hC _ _ e,λz=>?_,d⟩
  rcases stkB p.1 z with z|z
  ·exact ne z
  ·exact nf z
 ·show(qu nt fr σ).length=N'.length
  unfold qu
  rw[lA_,yaK,lM_,S.len]
theorem qeB {pins:List (Addr×Obj)} {σ σ':St} {H H':Hp} {s s':yab} {h':Heap} {fp:List Addr} {cl:List (Str×Addr)} (I:Inv X pins σ H s) (hfp:∀b∈fp,wT X pins H b)
  (J:Inv (zA z X scope N' fp cl s.heap.objs.size s H (X.pn++pins)) [] σ' H' s') (sb:ybi s.heap.objs.size s'.heap h'):Inv X pins σ H' {s' with heap:=h' }:=by
 have hC:H' s.heap.objs.size=none:=J.free
 have u:=J.base
 have big:∀b o,s.heap.get? b=some o->b≠s.heap.objs.size:=λb o e=>yaq (yac e)
 have get':∀b,b≠s.heap.objs.size->h'.get? b=s'.heap.get? b:=λb hb=>sb.2 b hb
 have u2:Un (frs X.stack) fp H H' s.heap h' :=
  ⟨λb o e n hb hx=>(get' b (big b o e)).trans (u.keep b o e n hb hx),λb o e n hb hx=>by
   obtain⟨sl,q⟩:=u.slot b o e n hb hx
   exact⟨sl,(get' b (big b o e)).trans q⟩,u.free,λb o e hx=>by
   obtain⟨o',q⟩:=u.there b o e hx
   exact⟨o',(get' b (big b o e)).trans q⟩,u.tups,u.frzs,u.tbls⟩
 refine I.call' (s':={s' with heap:=h' }) (ch:=fp) J.os u2 (λb o e=>?_) J.bare (λb hb=>?_)
 ·refine(J.hok b o e).stay (λc v hc q=>?_) (λ_ q=>q) λ_ _ q=>q
  refine(get' c ?_).trans q
  rintro rfl
  rcases hc with hc|hc
  ·rw[<-hc,hC]at e;cases e
  ·rw[hC]at hc;cases hc
 ·obtain⟨f0,f1,f2,f3,f4,f5⟩:=hfp b hb
  exact⟨f3,f1,f4,f5⟩
theorem qfX (hc:X.calm=true) (hi:PI X tg iter wi) (S:yW z X scope N' nt fr)
  (hs:∀x,yba iter X.env x=pure x:=by intro _;rfl):PE X (.ListComp elt [⟨tg,iter,ifs,0⟩] scope pos) (qkj z X tg ifs elt scope N' wi nt fr):=by
 intro pins s σ H Q I hw
 obtain⟨cl,hcl,cl1,cl2⟩:=yr (env:=X.env) (scope:=scope) (λy hy hf=>I.ok.has y.1 (.inl (S.frees y hy hf).1))
 rw[yeI]
 refine ycl (use:=none) rfl hs hcl S.kind S.names (thn (hi pins s σ H _ I hw) λv s1 h1=>thn h1 λitv s2 h2=>?_)
 obtain⟨it,fp,tn,J,H2,e,I2,T,st2,f2,hR⟩:=h2
 subst e
 have hacc:H2 s2.heap.objs.size=none:=I2.hok.fresh (yak _)
 refine yaM (qaD S.cf S.pc λhX hns1 old hcell1=>?_)
 dsimp only at hns1 old hcell1 |-
 have I3:Inv X pins σ (upd H2 s2.heap.objs.size (.lst [])) {s2 with heap:=s2.heap.push {cls:=.type "list",dict:=none,data:=.seq ([]:List Value).toArray} } :=
  I2.lnew (t':=s2.toks) (its:=[]) .nil (yaP _)
 generalize hs3:({s2 with heap:=s2.heap.push {cls:=.type "list",dict:=none,data:=.seq ([]:List Value).toArray} }:yab)=s3 at I3
 have hh3:s2.heap.push {cls:=.type "list",dict:=none,data:=.seq ([]:List Value).toArray}=s3.heap:=by rw[<-hs3]
 rw[hh3]at hns1 old hcell1
 have objs2:∀b∈fp,∃o,s2.heap.get? b=some o:=λb hb=>by
  obtain⟨o,q,_⟩:=T.obj 0 _ st2 b hb
  exact⟨o,q⟩
 have keep23:∀b o,s2.heap.get? b=some o->s3.heap.get? b=some o:=λb o q=>by rw[<-hh3];exact Heap.get?_push_of_some _ q
 have fpne:∀b∈fp,b≠s2.heap.objs.size:=λb hb=>by
  obtain⟨o,q⟩:=objs2 b hb
  exact yaq (yac q)
 have f3:∀b∈fp,wT X pins (upd H2 s2.heap.objs.size (.lst [])) b:=λb hb=>⟨by rw[qm (fpne b hb)];exact(f2 b hb).1,(f2 b hb).2⟩
 have J0:Inv (zA z X scope N' fp ((z,s3.heap.objs.size+1)::cl) s3.heap.objs.size s3 (upd H2 s2.heap.objs.size (.lst [])) (X.pn++pins)) [] (qu nt fr σ) (upd H2 s2.heap.objs.size (.lst [])) {s3 with heap:=hX,toks:=s3.toks} :=
  qbO S I3 f3 (λb hb=>(objs2 b hb).imp λo q=>keep23 b o q) cl1 cl2 hcell1 hns1 old
 obtain⟨g,tt,te,hg,hf,he,W,⟨m0,w0⟩,turn⟩:=hR s2.heap.objs.size fp ((z,s3.heap.objs.size+1)::cl) s3.heap.objs.size s3 (upd H2 s2.heap.objs.size (.lst [])) (X.pn++pins) hacc
 have T0:tn 0 hX:=T.keep 0 _ _ st2 λb hb o q=>old b o (keep23 b o q)
 have s3e:∀tk:Nat,({s2 with heap:=hX,toks:=tk}:yab)={s3 with heap:=hX,toks:=tk}:=λtk=>by rw[<-hs3]
 have loop:∀tk:Nat,ybp (model X.prog X.w) X.A (.compLoop (.ListComp elt [⟨tg,iter,ifs,0⟩] scope pos) 0 (.ref it) (.ref s2.heap.objs.size) (ycM scope ((z,s3.heap.objs.size+1)::cl) s3.heap.objs.size X.env))
   (ydR (model X.prog X.w) X.A X.xe none (EP X pins σ Q) (.ref s2.heap.objs.size) s3.heap.objs.size) {s3 with heap:=hX,toks:=tk}:=λtk=>by
  have stat:∀{H':Hp},(∀b∈fp,H' b=none)->∀b∈fp,wT (zA z X scope N' fp ((z,s3.heap.objs.size+1)::cl) s3.heap.objs.size s3 (upd H2 s2.heap.objs.size (.lst [])) (X.pn++pins)) [] H' b:=λ{H'} hn b hb=>by
   obtain⟨o,q⟩:=objs2 b hb
   have hbC:b≠s3.heap.objs.size:=yaq (yac (keep23 b o q))
   refine⟨hn b hb,hbC,λz=>?_,.inl hb,λx c hx=>?_,λp hp=>?_⟩
   ·rcases List.mem_cons.mp (I2.stkSub b z)with z|z
    ·exact(f2 b hb).2.1 z
    ·exact(f2 b hb).2.2.1 z
   ·rcases lk1 hx with⟨_,e⟩|⟨_,e⟩
    ·rw[e]
     exact(yaq (ycy (yac (keep23 b o q)))).symm
    ·exact(f2 b hb).2.2.2.2.1 x c (cl1 x c e)
   ·have hp':p∈X.pn++pins:=by
     rcases mA_.mp (show p∈(X.pn++pins)++[]from hp)with z|z
     ·exact z
     ·cases z
    exact(f2 b hb).2.2.2.2.2 p hp'
  have fr0:∀b∈fp,upd H2 s2.heap.objs.size (.lst []) b=none:=λb hb=>(f3 b hb).1
  refine ug (λn s'=>∃i σ' H',Inv (zA z X scope N' fp ((z,s3.heap.objs.size+1)::cl) s3.heap.objs.size s3 (upd H2 s2.heap.objs.size (.lst [])) (X.pn++pins)) [] σ' H' s'/\tn i s'.heap/\(∀b∈fp,H' b=none)/\W i n σ' H') ?_ m0
   ⟨0,qu nt fr σ,_,J0.tok tk,T0,fr0,w0⟩
  rintro n s4 ⟨i,σ4,H4,J4,st4,fr4,w4⟩
  rcases turn i n σ4 H4 w4 with⟨stop,qn⟩|⟨go,step⟩
  ·refine thn (T.done (zA z X scope N' fp ((z,s3.heap.objs.size+1)::cl) s3.heap.objs.size s3 (upd H2 s2.heap.objs.size (.lst [])) (X.pn++pins)) rfl rfl rfl hc i [] s4 σ4 H4 _ J4 (stat fr4) st4 stop) λr s5 ⟨hr,J5⟩=>?_
   subst hr
   obtain⟨m5,n5,_⟩:=J5.loc
   refine⟨m5,n5,λh' sb=>⟨.ref s2.heap.objs.size,H4,qeB I3 f3 J5 sb,rfl,qn⟩⟩
  ·refine thn (T.item (zA z X scope N' fp ((z,s3.heap.objs.size+1)::cl) s3.heap.objs.size s3 (upd H2 s2.heap.objs.size (.lst [])) (X.pn++pins)) rfl rfl rfl hc i [] s4 σ4 H4 _ J4 (stat fr4) st4 go) λr s5 ⟨u,hr,h5⟩=>?_
   subst hr
   refine thn h5 λ_ s6 ⟨x,H6,J6,r6,y6,st6,fr6⟩=>?_
   have J6':=J6.pinned (stat fr6) (T.obj _ _ st6)
   have again:∀{σ7:St}{H7:Hp}{s7:yab},Inv (zA z X scope N' fp ((z,s3.heap.objs.size+1)::cl) s3.heap.objs.size s3 (upd H2 s2.heap.objs.size (.lst [])) (X.pn++pins)) ([]++vP fp s6.heap) σ7 H7 s7->(∃m',m'<n/\W (i+1) m' σ7 H7) ->
     ∃m,m<n/\∃i σ' H',Inv (zA z X scope N' fp ((z,s3.heap.objs.size+1)::cl) s3.heap.objs.size s3 (upd H2 s2.heap.objs.size (.lst [])) (X.pn++pins)) [] σ' H' s7/\tn i s7.heap/\(∀b∈fp,H' b=none)/\W i m σ' H':=λ{σ7 H7 s7} I7 hm=>by
    obtain⟨m',hm,w7⟩:=hm
    refine⟨m',hm,i+1,σ7,H7,I7.unpinned,T.keep _ _ _ st6 λb hb o q=>(I7.pin (b,o) (mr_ _ (mr_ _ (zN hb q)))).1,λb hb=>?_,w7⟩
    obtain⟨o,q,d⟩:=T.obj _ _ st6 b hb
    exact(I7.pin (b,o) (mr_ _ (mr_ _ (zN hb q)))).2.1
   refine thn (hg _ s6 σ4 H6 x u _ J6' r6 (step x H6 y6)) λ_ s7 ⟨σ7,H7,J7,q7⟩=>?_
   refine thn (hf _ s7 σ7 H7 _ J7 q7) λok s8 ⟨H8,J8,q8⟩=>?_
   cases ok with
   |false=>
    rw[if_neg yal]at q8 |-
    exact again J8 q8
   |true=>
    rw[if_pos rfl]at q8 |-
    refine thn (he _ s8 σ7 H8 _ J8 q8) λz s9 ⟨y,H9,J9,r9,ys,hys,hz,hm⟩=>?_
    refine thn (uy _ s9 σ7 H9 (.ref s2.heap.objs.size) [y] (.ref s2.heap.objs.size) [z] (λ_ H'=>H'=upd H9 s2.heap.objs.size (.lst (ys++[y]))) J9 rfl (.cons r9 .nil) ⟨_,ys,y,rfl,rfl,hys,hz,rfl⟩) λ_ s10 ⟨_,H10,J10,_,e10⟩=>?_
    subst e10
    exact again J10 hm
 have ze:∀tk:Nat,ybp (model X.prog X.w) X.A (.compStart (.ListComp elt [⟨tg,iter,ifs,0⟩] scope pos) 0 (.ref it) (.ref s2.heap.objs.size) (ycM scope ((z,s3.heap.objs.size+1)::cl) s3.heap.objs.size X.env))
   (ydR (model X.prog X.w) X.A X.xe none (EP X pins σ Q) (.ref s2.heap.objs.size) s3.heap.objs.size) {s3 with heap:=hX,toks:=tk}:=λtk=>
  ycE (loop tk) (T.self X.A 0 _ _ _ T0 (loop tk))
 have fin:=ze s2.toks
 rw[<-s3e]at fin
 rw[<-hh3]at fin
 rw[hh3]at fin |-
 exact fin
end
section
variable{X:Cx}{c:Fc}{tg:Expr}{pos:Pos}
theorem deCz {z:Str} {it elt:Expr} {ifs:List Expr} {scope:Scope} {N':List Str} {nt:Nat} {fr:List Nat} {fo:Option (Nat×Nat)} {f:M (List D)} {g:D->Env->Option Env} {t:M Bool} {k:M D} (hc:X.calm=true) (hi:DI X c tg it f) (S:yW z X scope N' nt fr)
  (hfo:qgt c nt fr fo)
  (hb:∀fp cl C s₀ H₀ pn B0 H1 Io' acc S',DG (zA z X scope N' fp cl C s₀ H₀ pn) (cin B0 H1 (foO fo) Io' acc S') tg g/\DF (zA z X scope N' fp cl C s₀ H₀ pn) (cin B0 H1 (foO fo) Io' acc S') ifs t/\DE (zA z X scope N' fp cl C s₀ H₀ pn) (cin B0 H1 (foO fo) Io' acc S') elt k)
  (hs:∀x,yba it X.env x=pure x:=by intro _;rfl):DE X c (.ListComp elt [⟨tg,it,ifs,0⟩] scope pos) (qE nt fr fo f g t k):=by
 obtain⟨wi,pi,wI⟩:=hi
 refine⟨_,qfX hc pi S hs,λZ σ H Q r h=>wI Z σ H _ r (WpI.bnd h λds Z1 J H1 r1 iok g1 h1=>?_)⟩
 intro acc fp cl C s₀ H₀ pn hn
 obtain⟨⟨tg',pg,wg⟩,⟨tt,pt,wt⟩,⟨te,pe,we⟩⟩:=hb fp cl C s₀ H₀ pn (Cn c σ) H1 (wm σ fo) acc λj=>(qu nt fr σ)[j]?
 refine⟨tg',tt,te,pg,pt,pe,?_⟩
 cases ew:qG g t k ds [] (zC nt fr Z1) with
 |exc x Z'=>rw[ew]at h1;exact h1.elim
 |bad=>rw[ew]at h1;exact h1.elim
 | ok p =>
  rw[ew]at h1
  obtain⟨ys,Ze⟩:=p
  have h1:∀v H',Rep X.K c (qfw fo Ze Z1) σ H'->Is X.K (Cn c σ) H' (.lst ys) v->Gr c.O σ H1 H'->Q v H':=h1
  have accO:∀j∈foO fo,(qu nt fr σ)[j]? ≠ some (some (.ref acc)):=λj hj e=>by
   have r0:=r1.entry (acc:=acc) hn hfo
   cases fo with
   |none=>cases hj
   |some p=>
    obtain⟨i',j'⟩:=p
    have e2:j=i':=by simpa [foO] using hj
    subst e2
    obtain⟨k2,j2,e1,e2,e3⟩:=zP e
    have hk2:k2=j-nt:=by omega
    subst hk2
    rw[hfo.2.2.1]at e2
    cases e2
    obtain⟨a,us,e4,e5,_⟩:=r1.own j' hfo.1 _ e3
    cases e4;rw[hn]at e5;cases e5
  refine ⟨λi m σ' H'=>m=ds.length-i/\i<=ds.length/\∃Z' zs xs,Rep X.K (cin (Cn c σ) H1 (foO fo) (wm σ fo) acc λj=>(qu nt fr σ)[j]?) Z' σ' H'/\(∀j∈foO fo,σ'[j]? = (qu nt fr σ)[j]?)/\H' acc=some (.lst xs)/\IsL X.K (Cn (cin (Cn c σ) H1 (foO fo) (wm σ fo) acc λj=>(qu nt fr σ)[j]?) σ') H' zs xs/\qG g t k (ds.drop i) zs Z'=.ok (ys,Ze),
   ⟨ds.length,by simp,yaP _,zC nt fr Z1,[],[],r1.entry hn hfo,λ_ _=>rfl,qi,rfl,by simpa using ew⟩,?_⟩
  rintro i m σ' H' ⟨rfl,hi,Z',zs,xs,r',so,ha,iz,w⟩
  obtain⟨_,gr⟩:=r1.leave hn hfo (λi j e=>so i (by rw[e];simp[foO])) r'
  have ex:Ext (CnT c σ H1) H1 H':=⟨gr.ext.tup,gr.ext.frz,λb o hb hq=>gr.ext.at_ b o hb.1.2 hq⟩
  have accC:∀τ:St,(∀j∈foO fo,τ[j]? = (qu nt fr σ)[j]?)->Cl (foO fo) τ acc:=λτ hτ j hj e=>accO j hj (by rw[<-hτ j hj];exact e)
  by_cases hlt:i<ds.length
  ·refine .inr ⟨iok.go H' i ds[i] ex (by simp[hlt]),λx H'' y=>?_⟩
   obtain⟨sm,ix⟩:=iok.yl H' i ds[i] x H'' ex (by simp[hlt]) y
   rw[yV hlt]at w
   unfold qG at w
   have ix2:Is X.K (Cn (cin (Cn c σ) H1 (foO fo) (wm σ fo) acc λj=>(qu nt fr σ)[j]?) σ') H'' ds[i] x:=Is.ext Ext.refl (λa ha _=>⟨⟨ha.1,λe=>by
    have:=ha.2
    rw [e,hn]at this;cases this⟩,λj hj e=>by
     rw[so j hj]at e
     cases fo with
     |none=>cases hj
     |some p=>
      obtain⟨i',j'⟩:=p
      have e2:j=i':=by simpa [foO,cin] using hj
      subst e2
      obtain⟨k2,j2,e1,e2,e3⟩:=zP e
      have hk2:k2=j-nt:=by omega
      subst hk2
      rw[hfo.2.2.1]at e2
      cases e2
      exact ha.1.2 j' hfo.1 e3⟩) ix
   cases e1:g ds[i] Z' with
   |none=>simp only[e1]at w;cases w
   | some Z2=>
    simp only[e1]at w
    refine wg Z' σ' H'' ds[i] x Z2 _ (r'.same sm) ix2 e1 λσ2 r2 g2 o2=>?_
    have so2:∀j∈foO fo,σ2[j]? = (qu nt fr σ)[j]? := λj hj=>(o2 j hj).trans (so j hj)
    have ha2:H'' acc=some (.lst xs):=sm _ _ ha
    have iz2:=g2.isL (IsL.ext (Ext.of_same sm) (λ_ h _=>h) iz)
    cases e2:t Z2 with
    |exc x Z3=>simp only[e2]at w;cases w
    |bad=>simp only[e2]at w;cases w
    | ok p2=>
     obtain⟨bb,Z3⟩:=p2
     refine wt Z2 σ2 H'' _ r2 ?_
     rw[e2]
     intro H3 r3 g3
     have ha3:H3 acc=some (.lst xs):=g3.ext.at_ _ _ (accC σ2 so2) ha2
     have iz3:=g3.isL iz2
     cases bb with
     |false=>
      rw[if_neg yal]
      simp only[e2]at w
      exact⟨ds.length-(i+1),by omega,rfl,hlt,Z3,zs,xs,r3,so2,ha3,iz3,w⟩
     | true=>
      rw[if_pos rfl]
      simp only[e2]at w
      cases e3:k Z3 with
      |exc x Z4=>simp only[e3]at w;cases w
      |bad=>simp only[e3]at w;cases w
      | ok p3=>
       obtain⟨d4,Z4⟩:=p3
       simp only[e3]at w
       refine we Z3 σ2 H3 _ r3 ?_
       rw[e3]
       intro y4 H4 r4 i4 g4
       have ha4:H4 acc=some (.lst xs):=g4.ext.at_ _ _ (accC σ2 so2) ha3
       have hsz:qC (zs.length+1)=true:=by
        cases e5:qC (zs.length+1) with
        |true=>rfl
        |false=>rw[e5]at w;simp at w
       rw[if_pos hsz]at w
       have hsz':zs.length+1<=yas:=of_decide_eq_true hsz
       have r5:=r4.grow (ys:=xs++[y4]) ha4 (λj hj e=>accC σ2 so2 j hj e)
       have ext5:Ext (Cn (cin (Cn c σ) H1 (foO fo) (wm σ fo) acc λj=>(qu nt fr σ)[j]?) σ2) H4 (upd H4 acc (.lst (xs++[y4]))):=⟨λb us hb=>by rw[qm (ux hb ha4 (by intro z';cases z'))];exact hb,λb o u hb=>by rw[qm (ux hb ha4 (by intro z';cases z'))];exact hb,λb o hb hq=>by rw[qm hb.1.2];exact hq⟩
       refine⟨xs,ha4,by rw[iz3.length];omega,ds.length-(i+1),by omega,rfl,hlt,Z4,zs++[d4],xs++[y4],r5,so2,qi,?_,w⟩
       exact IsL.append (IsL.ext ext5 (λ_ h _=>h) (g4.isL iz3)) (IsL.one (Is.ext ext5 (λ_ h _=>h) i4))
  ·have hie:i=ds.length:=by omega
   subst hie
   rw[yb0 (yak _)]at w
   unfold qG at w
   cases w
   obtain⟨r6,g6⟩:=r1.leave hn hfo (λi j e=>so i (by rw[e];simp[foO])) r'
   exact .inl ⟨iok.stop H' ex,h1 _ H' r6 ⟨acc,xs,rfl,r1.new hn,ha,IsL.ext Ext.refl (λa ha hs=>ha.1.1) iz⟩ g6⟩
theorem cs1 {X:Cx} (z:Str) (N N':List Str) (nt:Nat) (fr:List Nat) (outer:Scope) {scope:Scope} (h0:scope.kind=.function:=by rfl) (h1:∀y∈scope.names,y.2=.cell->y.1=z:=by decide +kernel) (hz:scope.names.lookup z=some .cell:=by rfl)
  (hf:∀n acc,ycj n scope.names acc=(z,n)::acc:=by intro _ _;rfl) (hp:∀h:Heap,pushCells h scope.names=h.push {cls:=.type "cell",data:=.cell none}:=by intro _;rfl) (h2:∀y∈scope.names,y.2=.local->scope.names.lookup y.1=some .local:=by decide +kernel)
  (h3:∀y∈scope.names,y.2=.free->outer.names.lookup y.1=some .cell/\y.1≠z:=by decide +kernel) (h4:N'.length=nt+fr.length:=by rfl) (h5:∀p∈fr.zipIdx,N'[nt+p.2]? = N[p.1]? /\ ((N[p.1]?).bind λx=>scope.names.lookup x)=some .free:=by decide +kernel)
  (h6:X.env.scope=outer:=by rfl) (h7:X.N=N:=by rfl):yW z X scope N' nt fr:=by
 subst h6 h7
 refine⟨h0,h1,hz,hf,hp,h2,h3,h4,λi j h=>?_⟩
 have hm:(j,i)∈fr.zipIdx:=by
  rw[ycU]
  refine⟨i,?_⟩
  rw[List.getElem?_zipIdx,h]
  simp
 obtain⟨h3,h4⟩:=h5 (j,i) hm
 cases e:X.N[j]? with
 |none=>
  have h4':((X.N[j]?).bind λx=>scope.names.lookup x)=some .free:=h4
  rw[e]at h4';cases h4'
 | some x=>
  have h4':((X.N[j]?).bind λx=>scope.names.lookup x)=some .free:=h4
  rw[e]at h4'
  exact ⟨x,by
    have h3':N'[nt+i]? = X.N[j]? := h3
    rw[h3',e],rfl,h4'⟩
end
end L2.Sk
set_option maxHeartbeats 1000000
namespace L2.Sk
open PySem PySem.Spec PyProof.Rows
abbrev wD (h:Heap) (z TI TO:Addr) (a:Nat) (b:Bool):Prop :=
 h.get? z=some {cls:=.type "zip",dict:=none,data:=.fields #[ybA a,.bool b,.bool false,.ref TI,.ref TO],slots := #[]}
section
variable{prog:yap}{w:World}{A:yar}{E:Value->yab->Prop}{s:yab}{z TI TO i1 i2:Addr}{fp1 fp2:List Addr}{n1 n2 k:Nat}{P1 P2:Nat->Value->Prop}{S1 S2:Nat->Heap->Prop}
theorem qlv {M:Model} {a:Addr} {Q:Option Obj->yab->Prop} (h:Q (s.heap.get? a) s):wpAny M A (loadIfAlive a) Q E s:=λΓ p _=>by
 show Sem.wp M Γ (.loadIfAlive a .pure) _ _ p s
 rw[Sem.wp_loadIfAlive]
 exact h
theorem qcy {a:Nat} {b:Bool} {o:Obj} (zz:wD s.heap z TI TO a b) (ho:s.heap.get? a=some o) {Q:Bool->yab->Prop}
  (fin:∀h',wD h' z TI TO a true->ybi z s.heap h'->Q false {s with heap:=h' }):wpAny (model prog w) A (yaD (.ref z)) Q E s:=by
 unfold yaD
 refine yaa (yaz zz rfl (x:=ybA a) rfl ?_)
 show wpAny (model prog w) A (loadIfAlive (Int.toNat (a:Int)) >>= _) _ _ _
 refine yaa (qlv ?_)
 have e:s.heap.get? (Int.toNat (a:Int))=some o:=ho
 rw[e]
 simp only[Option.isNone_some,yaU,if_false]
 refine yaa (yaz zz rfl (x:=yaY b) rfl ?_)
 cases b with
 |true=>
  have e1:(yaY true != yaY true)=false:=by decide
  simp only[e1,yaU,if_false]
  exact yaf (fin s.heap zz (Heap.SameBut.refl ..))
 |false=>
  have e1:(yaY false != yaY true)=true:=by decide
  simp only[e1,if_true]
  refine yaa (ybf zz (by simp) λh1 zz1 b1=>yaf (fin h1 zz1 b1))
theorem qh6 (D1:Draws prog w A i1 fp1 n1 P1 S1) (D2:Draws prog w A i2 fp2 n2 P2 S2) (ap:ZAp z TI TO i1 i2 fp1 fp2) {a:Nat} {b:Bool} {o:Obj} (zz:wD s.heap z TI TO a b) (ho:s.heap.get? a=some o) (zI:yaT s.heap TI (.ref i1) (.ref i2))
  (t1:S1 k s.heap) (t2:S2 k s.heap) (l1:k<n1) (l2:k<n2) {Q:Value->yab->Prop}
  (fin:∀x y h' tk,P1 k x->P2 k y->wD h' z TI TO a true->S1 (k+1) h'->S2 (k+1) h'->yaT h' s.heap.objs.size x y ->
   (∀c o,c≠z->c≠i1->c≠i2->s.heap.get? c=some o->h'.get? c=some o)->Q (.ref s.heap.objs.size) {s with heap:=h',toks:=tk}) :
  wpAny (model prog w) A (ybM.«zip.__next__» ⟨[.ref z],[]⟩) (λr s'=>∃v,r=.done (.ret v)/\Q v s') E s:=by
 show wpAny (model prog w) A (field (yad z) 2 >>= _) _ _ _
 refine yaa (yaz zz rfl (x:=yaY false) rfl ?_)
 show wpAny (model prog w) A (field (yad z) 3 >>= _) _ _ _
 refine yaa (yaz zz rfl (x:=yad TI) rfl (yaa (ya8 zI rfl ?_)))
 show wpAny (model prog w) A (yaD (yad z) >>= _) _ _ _
 refine yaa (qcy zz ho λh1 zz1 b1=>?_)
 simp only[yaU,if_false]
 refine yaa ?_
 simp only[<-ye9,ych,ycs]
 refine yaa (yaa (yaZ ?_))
 show wpAny (model prog w) A (yaB (yad i1) >>= _) _ _ _
 refine yaa (D1.item k _ _ _ l1 (D1.frame _ _ _ t1 (zc b1 ap.z1)) λx h2 tk2 px u1 b2=>yaf (yaf ?_))
 refine yaa (yaa (yaZ ?_))
 show wpAny (model prog w) A (yaB (yad i2) >>= _) _ _ _
 have t2':S2 k h2:=D2.frame _ _ _ (D2.frame _ _ _ t2 (zc b1 ap.z2)) (zc b2 ap.i12)
 refine yaa (D2.item k _ _ _ l2 t2' λy h3 tk3 py u2 b3=>yaf (yaf (yaf ?_)))
 refine yaa (m:=newTuple [x,y]) (yep ?_)
 have sz:h3.objs.size=s.heap.objs.size:=by rw[b3.1,b2.1,b1.1]
 have zz3:wD h3 z TI TO a true:=b3.extBut _ _ ap.zi2 (b2.extBut _ _ ap.zi1 zz1)
 have v1:S1 (k+1) h3:=D1.frame _ _ _ u1 (zc b3 ap.i21)
 have up:∀c o,h3.get? c=some o->(h3.push {cls:=.type "tuple",data:=.seq #[x,y]}).get? c=some o:=λc o e=>Heap.get?_push_of_some _ e
 have new:yaT (h3.push {cls:=.type "tuple",data:=.seq #[x,y]}) s.heap.objs.size x y:=by
  have:yaT (h3.push {cls:=.type "tuple",data:=.seq #[x,y]}) h3.objs.size x y:=Heap.get?_push_size _ rfl
  rw[sz]at this
  exact this
 refine yaf ⟨_,rfl,?_⟩
 show Q (yad h3.objs.size) _
 rw[sz]
 exact fin x y _ tk3 px py (up _ _ zz3) (D1.frame _ _ _ v1 λb hb o e=>up b o e) (D2.frame _ _ _ u2 λb hb o e=>up b o e) new λc o c1 c2 c3 e=>up c o (b3.extBut _ _ c3 (b2.extBut _ _ c2 (b1.extBut _ _ c1 e)))
theorem qeC (hh:A.handled=none) (D1:Draws prog w A i1 fp1 n1 P1 S1) (D2:Draws prog w A i2 fp2 n2 P2 S2) (ap:ZAp z TI TO i1 i2 fp1 fp2) {a:Nat} {b:Bool} {o:Obj} (zz:wD s.heap z TI TO a b) (ho:s.heap.get? a=some o) (zI:yaT s.heap TI (.ref i1) (.ref i2))
  (t1:S1 k s.heap) (t2:S2 k s.heap) (hk:k=min n1 n2) {Q:Fin->yab->Prop}
  (fin:∀h' tk e,(∀c o,c≠z->c≠i1->c≠i2->s.heap.get? c=some o->h'.get? c=some o)->(∃o,h'.get? e=some o/\o.cls=.type "StopIteration")->E (.ref e) {s with heap:=h',toks:=tk}) :
  wpAny (model prog w) A (ybM.«zip.__next__» ⟨[.ref z],[]⟩) Q E s:=by
 show wpAny (model prog w) A (field (yad z) 2 >>= _) _ _ _
 refine yaa (yaz zz rfl (x:=yaY false) rfl ?_)
 show wpAny (model prog w) A (field (yad z) 3 >>= _) _ _ _
 refine yaa (yaz zz rfl (x:=yad TI) rfl (yaa (ya8 zI rfl ?_)))
 show wpAny (model prog w) A (yaD (yad z) >>= _) _ _ _
 refine yaa (qcy zz ho λh1 zz1 b1=>?_)
 simp only[yaU,if_false]
 refine yaa ?_
 simp only[<-ye9,ych,ycs]
 refine yaa (yaa (yaZ ?_))
 show wpAny (model prog w) A (yaB (yad i1) >>= _) _ _ _
 have t1':S1 k h1:=D1.frame _ _ _ t1 (zc b1 ap.z1)
 by_cases h12:n1<=n2
 ·have e1:k=n1:=by rw[hk];exact yc6 h12
  rw[e1]at t1'
  refine yaa (D1.done _ _ _ t1' λh2 e b2 he=>?_)
  exact fin h2 s.toks e (λc o c1 c3 _ x=>b2 _ _ c3 (b1.extBut _ _ c1 x)) he
 ·have e1:k=n2:=by rw[hk];exact ydS (by omega)
  refine yaa (D1.item k _ _ _ (by omega) t1' λx h2 tk2 px u1 b2=>yaf (yaf ?_))
  refine yaa (yaa (yaZ ?_))
  show wpAny (model prog w) A (yaB (yad i2) >>= _) _ _ _
  have t2':S2 k h2:=D2.frame _ _ _ (D2.frame _ _ _ t2 (zc b1 ap.z2)) (zc b2 ap.i12)
  rw[e1]at t2'
  refine yaa (D2.done _ _ _ t2' λh4 e b4 he=>?_)
  exact fin h4 tk2 e (λc o c1 c3 c4 x=>b4 _ _ c4 (b2.extBut _ _ c3 (b1.extBut _ _ c1 x))) he
end
def jd (h:Heap) (lo:Nat) (ch:List Addr) (u v acc:Array Value) (n:Nat):Prop :=
 acc.size=n/\(∀(i:Nat)(x y:Value),i<n->u[i]? = some x->v[i]? = some y->∃p:Addr,acc[i]? = some (yad p)/\yaT h p x y/\lo<=p/\p ∉ ch)/\∀(i j:Nat)(p:Addr),acc[i]? = some (yad p)->acc[j]? = some (yad p)->i=j
theorem jd.keep {h h':Heap} {lo:Nat} {ch:List Addr} {u v acc:Array Value} {n:Nat} (P:jd h lo ch u v acc n) (k:∀c o,c ∉ ch->h.get? c=some o->h'.get? c=some o):jd h' lo ch u v acc n :=
 ⟨P.1,λi x y hi h1 h2=>by
  obtain⟨p,e1,e2,e3,e4⟩:=P.2.1 i x y hi h1 h2
  exact⟨p,e1,k p _ e4 e2,e3,e4⟩,P.2.2⟩
theorem jd.push {h:Heap} {lo:Nat} {ch:List Addr} {u v acc:Array Value} {n:Nat} {x y:Value} {p:Addr} (P:jd h lo ch u v acc n) (hx:u[n]? = some x) (hy:v[n]? = some y) (hp:yaT h p x y) (hlo:lo<=p) (hc:p ∉ ch) (hnew:∀i:Nat,acc[i]? ≠ some (yad p)):jd h lo ch u v (acc.push (.ref p)) (n+1):=by
 refine⟨by rw[Array.size_push,P.1],λi x' y' hi h1 h2=>?_,λi j q h1 h2=>?_⟩
 rotate_left
 ·rw [Array.getElem?_push]at h1 h2
  split at h1<;>split at h2
  ·omega
  ·cases h1
   exact absurd h2 (hnew j)
  ·cases h2
   exact absurd h1 (hnew i)
  ·exact P.2.2 i j q h1 h2
 by_cases e:i=n
 ·subst e
  rw[hx]at h1
  rw[hy]at h2
  cases h1
  cases h2
  refine⟨p,?_,hp,hlo,hc⟩
  rw[<-P.1]
  simp
 ·obtain⟨q,e1,e2,e3,e4⟩:=P.2.1 i x' y' (by omega) h1 h2
  refine⟨q,?_,e2,e3,e4⟩
  rw[Array.getElem?_push,if_neg (by rw[P.1];exact e)]
  exact e1
def LZ (z TI TO i1 i2 a1 a2 S:Addr) (u v:Array Value) (k:Nat) (h:Heap):Prop :=
 ((IsZip h z TI TO .none/\∃p q,yaT h TO p q)\/∃(a:Nat)(b:Bool)(o o':Obj),wD h z TI TO a b/\h.get? a=some o/\h.get? TO=some o'/\(a:Addr) ∉ [z,TO,i1,i2,S])/\yaT h TI (.ref i1) (.ref i2)/\(h.IsTupleIter i1 a1 k/\h.IsTuple a1 u)/\(h.IsTupleIter i2 a2 k/\h.IsTuple a2 v)
section
variable{prog:yap}{w:World}{A:yar}{s:yab}{R:ydN->yab->Prop}{z TI TO i1 i2 a1 a2 S:Addr}{u v:Array Value}
theorem LZ.keep {k:Nat} {h h':Heap} (L:LZ z TI TO i1 i2 a1 a2 S u v k h) (n1:S≠z) (n2:S≠TO) (n3:S≠TI) (n4:S≠i1) (n5:S≠i2) (n6:S≠a1) (n7:S≠a2) (kp:∀c o,c≠S->h.get? c=some o->h'.get? c=some o):LZ z TI TO i1 i2 a1 a2 S u v k h':=by
 obtain⟨f,q1,⟨q2,o2,g2,r2⟩,⟨q3,o3,g3,r3⟩⟩:=L
 refine⟨?_,kp _ _ n3.symm q1,⟨q2.at λo e=>kp _ o n4.symm e,o2,kp _ _ n6.symm g2,r2⟩,⟨q3.at λo e=>kp _ o n5.symm e,o3,kp _ _ n7.symm g3,r3⟩⟩
 rcases f with⟨f1,p,q,f2⟩|⟨a,b,o,o',f1,f2,f4,f3⟩
 ·exact .inl ⟨kp _ _ n1.symm f1,p,q,kp _ _ n2.symm f2⟩
 ·refine .inr ⟨a,b,o,o',kp _ _ n1.symm f1,kp _ _ (λe=>f3 ?_) f2,kp _ _ n2.symm f4,f3⟩
  rw[e]
  simp
theorem qh7 {E:Value->yab->Prop} (hh:A.in1.handled=none) (ap:ZAp z TI TO i1 i2 [i1,a1] [i2,a2]) (m1:a1≠i1) (m2:a2≠i2) {k:Nat} (L:LZ z TI TO i1 i2 a1 a2 S u v k s.heap) (l1:k<u.size) (l2:k<v.size) (hS:∃o,s.heap.get? S=some o) (sa1:a1 ∉ [z,TO,i1,i2]) (sa2:a2 ∉ [z,TO,i1,i2]) {Q:Option Value->yab->Prop}
  (fin:∀x y h' tk,u[k]? = some x->v[k]? = some y->LZ z TI TO i1 i2 a1 a2 S u v (k+1) h'->yaT h' s.heap.objs.size x y->(∀c o,c ∉ [z,TO,i1,i2]->s.heap.get? c=some o->h'.get? c=some o)->(s.heap.objs.size:Addr) ∉ [z,TO,i1,i2,S]->Q (some (.ref s.heap.objs.size)) {s with heap:=h',toks:=tk}) :
  wpAny (model prog w) A (ybT (.ref z)) Q E s:=by
 obtain⟨f,q1,q2,q3⟩:=L
 have D1:=j7 (prog:=prog) (w:=w) hh i1 a1 m1 u
 have D2:=j7 (prog:=prog) (w:=w) hh i2 a2 m2 v
 have hT:s.TypeIs (.ref z) "zip":=by
  rcases f with⟨f1,_⟩|⟨a,b,o,o',f1,_⟩
  ·exact⟨_,f1,rfl⟩
  ·exact⟨_,f1,rfl⟩
 have lt:∀c∈[z,TO,i1,i2,S],c≠s.heap.objs.size:=λc hc=>by
  have hz:∃o,s.heap.get? c=some o:=by
   simp only[yao,nN_,or_false]at hc
   obtain⟨⟨o4,g4,_⟩,_⟩:=q2
   obtain⟨⟨o5,g5,_⟩,_⟩:=q3
   rcases hc with rfl|rfl|rfl|rfl|rfl
   ·obtain⟨o,e,_⟩:=hT
    exact⟨o,e⟩
   ·rcases f with⟨_,p,q,f2⟩|⟨_,_,_,o',_,_,f4,_⟩
    ·exact⟨_,f2⟩
    ·exact⟨_,f4⟩
   ·exact⟨_,g4⟩
   ·exact⟨_,g5⟩
   ·exact hS
  obtain⟨o,e⟩:=hz
  exact yaq (yac e)
 unfold ybT
 refine yaa (ycJ (wpAny_callSpecial?_slot (name:=ybb "__next__") hT ybn (ya6 ybn hT ycO ?_ (ycx _))))
 rcases f with⟨f1,p,q,f2⟩|⟨a,b,o,o',f1,f2,f4,f3⟩
 ·refine qgv D1 D2 ap f1 q1 f2 q2 q3 l1 l2 λx y h' tk px py zz zO u1 u2 new kp=>yaf ?_
  have hsz:s.heap.objs.size<h'.objs.size:=yac new
  refine fin x y h' tk px py ⟨.inr ⟨s.heap.objs.size,false,_,_,zz,new,zO,λhm=>lt _ hm rfl⟩,kp _ _ ap.zTI.symm ap.IO ap.Ii1 ap.Ii2 q1,u1,u2⟩ new (λc o hc e=>?_) (λhm=>lt _ hm rfl)
  simp only[yao,nN_,or_false,not_or]at hc
  exact kp c o hc.1 hc.2.1 hc.2.2.1 hc.2.2.2 e
 ·refine qh6 D1 D2 ap f1 f2 q1 q2 q3 l1 l2 λx y h' tk px py zz u1 u2 new kp=>yaf ?_
  have hsz:s.heap.objs.size<h'.objs.size:=yac new
  have f3':=f3
  simp only[yao,nN_,or_false,not_or]at f3'
  refine fin x y h' tk px py ⟨.inr ⟨a,true,o,o',zz,kp _ _ f3'.1 f3'.2.2.1 f3'.2.2.2.1 f2,kp _ _ ap.zTO.symm ap.Oi1 ap.Oi2 f4,f3⟩,kp _ _ ap.zTI.symm ap.Ii1 ap.Ii2 q1,u1,u2⟩ new (λc o hc e=>?_) (λhm=>lt _ hm rfl)
  simp only[yao,nN_,or_false,not_or]at hc
  exact kp c o hc.1 hc.2.2.1 hc.2.2.2 e
theorem qh8 {E:Value->yab->Prop} (hh:A.in1.handled=none) (ap:ZAp z TI TO i1 i2 [i1,a1] [i2,a2]) (m1:a1≠i1) (m2:a2≠i2) {k:Nat} (L:LZ z TI TO i1 i2 a1 a2 S u v k s.heap) (hk:k=min u.size v.size) {Q:Option Value->yab->Prop}
  (fin:∀h' tk,(∀c o,c ∉ [z,TO,i1,i2]->s.heap.get? c=some o->h'.get? c=some o)->Q none {s with heap:=h',toks:=tk}) :
  wpAny (model prog w) A (ybT (.ref z)) Q E s:=by
 obtain⟨f,q1,q2,q3⟩:=L
 have D1:=j7 (prog:=prog) (w:=w) hh i1 a1 m1 u
 have D2:=j7 (prog:=prog) (w:=w) hh i2 a2 m2 v
 have hT:s.TypeIs (.ref z) "zip":=by
  rcases f with⟨f1,_⟩|⟨a,b,o,o',f1,_⟩
  ·exact⟨_,f1,rfl⟩
  ·exact⟨_,f1,rfl⟩
 unfold ybT
 refine yaa (ycJ (wpAny_callSpecial?_slot (name:=ybb "__next__") hT ybn (ya6 ybn hT ycO ?_ (ycx _))))
 rcases f with⟨f1,p,q,f2⟩|⟨a,b,o,o',f1,f2,f4,f3⟩
 ·refine qca hh D1 D2 ap f1 q1 f2 q2 q3 hk λh' tk e kp he=>?_
  obtain⟨o,ho,hcl⟩:=he
  refine yaa (ycP (T:="StopIteration") (b:=true) ⟨o,ho,hcl⟩ ydg (yaf (fin h' tk λc o hc e=>?_)))
  simp only[yao,nN_,or_false,not_or]at hc
  exact kp c o hc.1 hc.2.1 hc.2.2.1 hc.2.2.2 e
 ·refine qeC hh D1 D2 ap f1 f2 q1 q2 q3 hk λh' tk e kp he=>?_
  obtain⟨o,ho,hcl⟩:=he
  refine yaa (ycP (T:="StopIteration") (b:=true) ⟨o,ho,hcl⟩ ydg (yaf (fin h' tk λc o hc e=>?_)))
  simp only[yao,nN_,or_false,not_or]at hc
  exact kp c o hc.1 hc.2.2.1 hc.2.2.2 e
theorem qh9 (hh:A.handled=none) (ap:ZAp z TI TO i1 i2 [i1,a1] [i2,a2]) (m1:a1≠i1) (m2:a2≠i2) (sa1:a1 ∉ [z,TO,i1,i2]) (sa2:a2 ∉ [z,TO,i1,i2]) (hS:S ∉ [z,TI,TO,i1,i2,a1,a2]) (lo:Nat) (hmin:min u.size v.size<=1000) (res:Value) :
  ∀(m k:Nat)(s:yab)(acc:Array Value)(c:Nat),m=min u.size v.size-k->k<=min u.size v.size->lo<=s.heap.objs.size->LZ z TI TO i1 i2 a1 a2 S u v k s.heap->jd s.heap lo [z,TO,i1,i2,S] u v acc k->s.heap.get? S=some {cls:=.type "list",dict:=none,data:=.seq acc c,slots := #[]} ->
  (∀h' tk acc' c',(∀b o,b ∉ [z,TO,i1,i2,S]->s.heap.get? b=some o->h'.get? b=some o)->h'.get? S=some {cls:=.type "list",dict:=none,data:=.seq acc' c',slots := #[]}->jd h' lo [z,TO,i1,i2,S] u v acc' (min u.size v.size)->R (.ok (.ret res)) {s with heap:=h',toks:=tk}) ->
  ybp (model prog w) A (.builtin "list.extend.loop" ⟨[.ref S,.ref z,res],[]⟩) R s:=by
 have hS':=hS
 simp only[yao,nN_,or_false,not_or]at hS'
 have cut:∀c,c ∉ [z,TO,i1,i2,S]->c ∉ [z,TO,i1,i2]:=λc hc h=>hc (by
  simp only[yao,nN_,or_false]at h
  rcases h with h|h|h|h<;>rw[h]<;>simp)
 have sS:S ∉ [z,TO,i1,i2]:=by
  simp only[yao,nN_,or_false,not_or]
  exact⟨hS'.1,hS'.2.2.1,hS'.2.2.2.1,hS'.2.2.2.2.1⟩
 intro m
 induction m with
 |zero=>
  intro k s acc c hm hk hlo L P hs fin
  refine yc3 yeQ ?_
  rw[yc7 ycc _]
  show wpAny (model prog w) A.in1 (ybT (yad z) >>= _) _ _ s
  refine yaa (qh8 (A:=A.in1) hh ap m1 m2 L (by omega) λh' tk kp=>yaf ?_)
  have ek:k=min u.size v.size:=by omega
  rw[ek]at P
  exact fin h' tk acc c (λb o hb e=>kp b o (cut b hb) e) (kp S _ sS hs) (P.keep λb o hb e=>kp b o (cut b hb) e)
 | succ m ih=>
  intro k s acc c hm hk hlo L P hs fin
  refine yc3 yeQ ?_
  rw[yc7 ycc _]
  show wpAny (model prog w) A.in1 (ybT (yad z) >>= _) _ _ s
  refine yaa (qh7 (A:=A.in1) hh ap m1 m2 L (by omega) (by omega) ⟨_,hs⟩ sa1 sa2 λx y h' tk px py L' new kp nin=>?_)
  have hs':=kp S _ sS hs
  show wpAny (model prog w) A.in1 (updateSeq S (·.push (yad s.heap.objs.size)) >>= _) _ _ _
  refine yaa ?_
  have P':jd h' lo [z,TO,i1,i2,S] u v (acc.push (.ref s.heap.objs.size)) (k+1):=jd.push (P.keep λb o hb e=>kp b o (cut b hb) e) px py new hlo nin λi hi=>by
   have hik:i<k:=by
    have:=(Array.getElem?_eq_some_iff.mp hi).1
    rw[P.1]at this
    exact this
   obtain⟨p,e1,e2,_⟩:=P.2.1 i u[i] v[i] hik (Array.getElem?_eq_getElem (by omega)) (Array.getElem?_eq_getElem (by omega))
   rw[hi]at e1
   cases e1
   exact ybc _ (yac e2)
  have oth:∀b o,b≠S->h'.get? b=some o->(h'.update S (yaH (·.push (yad s.heap.objs.size)))).get? b=some o:=λb o hb e=>(Heap.get?_update_other _ _ (ya2 hb)).trans e
  have nS:∀b,b ∉ [z,TO,i1,i2,S]->b≠S:=λb hb e=>hb (by rw[e];simp)
  refine yd8 hs' rfl (yaf ⟨plainId_quiet ycc _,ih (k+1) _ (acc.push (.ref s.heap.objs.size)) _ (by omega) (by omega) ?_ (L'.keep hS'.1 hS'.2.2.1 hS'.2.1 hS'.2.2.2.1 hS'.2.2.2.2.1 hS'.2.2.2.2.2.1 hS'.2.2.2.2.2.2 oth) (P'.keep λb o hb e=>oth b o (nS b hb) e) (Heap.get?_update_self _ hs' rfl) λh'' tk' acc' c' kp2 hs'' P''=>?_⟩) (by have:=P.1;rw[ybz];omega) (by show(acc.push _).size<=yas+1;rw[Array.size_push,ybz];have:=P.1;omega)
  ·show lo<=(h'.update S _).objs.size
   rw[ycR]
   have:=yac new
   exact yaJ hlo (ybN this)
  ·exact fin h'' tk' acc' c' (λb o hb e=>kp2 b o hb (oth b o (nS b hb) (kp b o (cut b hb) e))) hs'' P''
end
end L2.Sk
set_option maxHeartbeats 1000000
namespace L2.Sk
open PySem PySem.Spec PyProof.Rows
theorem qdi:yfy (.type "zip") "__len__"=pure none:=by
 rw[typeLookup_type,yeu]
 kernel_rfl
theorem qbP:yfy (.type "zip") "__length_hint__"=pure none:=by
 rw[typeLookup_type,yeu]
 kernel_rfl
section
variable{prog:yap}{w:World}{A:yar}{s:yab}{R:ydN->yab->Prop}{z TI TO i1 i2 a1 a2 S:Addr}{u v:Array Value}
theorem qia (hh:A.handled=none) (ap:ZAp z TI TO i1 i2 [i1,a1] [i2,a2]) (m1:a1≠i1) (m2:a2≠i2) (sa1:a1 ∉ [z,TO,i1,i2]) (sa2:a2 ∉ [z,TO,i1,i2]) (hS:S ∉ [z,TI,TO,i1,i2,a1,a2]) (hmin:min u.size v.size<=1000)
  (zz:IsZip s.heap z TI TO .none) (zO:∃p q,yaT s.heap TO p q) (zI:yaT s.heap TI (.ref i1) (.ref i2)) (t1:s.heap.IsTupleIter i1 a1 0/\s.heap.IsTuple a1 u) (t2:s.heap.IsTupleIter i2 a2 0/\s.heap.IsTuple a2 v)
  (lo:Nat) (hlo:lo<=s.heap.objs.size) (hs:s.heap.get? S=some {cls:=.type "list",data:=.seq #[]})
  (fin:∀h' tk acc' c',(∀b o,b ∉ [z,TO,i1,i2,S]->s.heap.get? b=some o->h'.get? b=some o)->h'.get? S=some {cls:=.type "list",dict:=none,data:=.seq acc' c',slots := #[]}->jd h' lo [z,TO,i1,i2,S] u v acc' (min u.size v.size)->R (.ok (.ret .none)) {s with heap:=h',toks:=tk}) :
  wpAny (model prog w) A.in1 (ybM.«list.__init__» ⟨[.ref S,.ref z],[]⟩)
   (λr s'=>match r with|.done f=>R (.ok f) s'|.again c'=>c'.quiet=true/\ybp (model prog w) A c' R s') (λe s'=>R (.error e) s') s:=by
 have hS':=hS
 simp only[yao,nN_,or_false,not_or]at hS'
 have hT:s.TypeIs (.ref z) "zip":=⟨_,zz,rfl⟩
 show wpAny (model prog w) A.in1 (Builtin.List.listItems (yad S) >>= λold=>yd0 (yad S) (λ_ => #[]) >>= λ_=>letGo old.toList.reverse >>= λ_=>ydo (yad S) (yad z) yau) _ _ s
 refine yaa (listItems_at hs rfl (yaa (yeK hs rfl ?_ (yaP _) (yaP _))))
 have hs2:=Heap.get?_update_self (yaH λ_=>(#[]:Array Value)) hs rfl
 have o2:∀b o,b≠S->s.heap.get? b=some o->(s.heap.update S (yaH λ_=>(#[]:Array Value))).get? b=some o:=λb o hb e=>(Heap.get?_update_other _ _ (ya2 hb)).trans e
 refine yaa (yef ?_)
 generalize hm:s.heap.update S (yaH λ_=>(#[]:Array Value))=m at hs2 o2
 have szm:m.objs.size=s.heap.objs.size:=by rw[<-hm,ycR]
 unfold ydo
 have hT2:({s with heap:=m}:yab).TypeIs (.ref z) "zip":=⟨_,o2 _ _ (ya2 hS'.1) zz,rfl⟩
 refine yaa (ydQ hT2 ?_)
 have e1:ydX (yad S) (yad z)=false:=by simp[ydX,hS'.1]
 have e2:(yaR "zip"==yaR "list")=false:=by decide
 have e3:(yaR "zip"==yaR "tuple")=false:=by decide
 simp only[e1,e2,e3,Bool.or_false,yaU,if_false]
 have zz2:IsZip m z TI TO .none:=o2 _ _ (ya2 hS'.1) zz
 refine yaa (ydT zz2 (yaa (yaZ ?_)))
 unfold Builtin.List.listLengthHint
 refine yaa (wpAny_specialOf hT2 qdi ?_)
 show wpAny (model prog w) A.in1 (specialOf (yad z) (ybb "__length_hint__") >>= _) _ _ _
 refine yaa (wpAny_specialOf hT2 qbP (yaf ?_))
 show wpAny (model prog w) A.in1 (rule "list.extend.makes-room" >>= λ_=>Builtin.List.listTouch (yad S) >>= λ_=>again (.builtin "list.extend.loop" ⟨[yad S,yad z,yau],[]⟩)) _ _ _
 refine yaa (ycq (yaa ?_))
 show wpAny (model prog w) A.in1 (updateSeq S (·.push yau) >>= λ_=>updateSeq S (·.pop)) _ _ _
 refine yaa (yd8 hs2 rfl ?_)
 have hs3:=Heap.get?_update_self (yaH (·.push yau)) hs2 rfl
 refine yd8 (hz:=by seq_fits) hs3 rfl ?_
 have hs4:=Heap.get?_update_self (yaH (·.pop)) hs3 rfl
 have o4:∀b o,b≠S->s.heap.get? b=some o->((m.update S (yaH (·.push yau))).update S (yaH (·.pop))).get? b=some o:=λb o hb e=>(Heap.get?_update_other _ _ (ya2 hb)).trans ((Heap.get?_update_other _ _ (ya2 hb)).trans (o2 b o hb e))
 have sz4:((m.update S (yaH (·.push yau))).update S (yaH (·.pop))).objs.size=s.heap.objs.size:=by rw[ycR,ycR,szm]
 have L:LZ z TI TO i1 i2 a1 a2 S u v 0 ((m.update S (yaH (·.push yau))).update S (yaH (·.pop))):=LZ.keep (h:=s.heap) ⟨.inl ⟨zz,zO⟩,zI,t1,t2⟩ hS'.1 hS'.2.2.1 hS'.2.1 hS'.2.2.2.1 hS'.2.2.2.2.1 hS'.2.2.2.2.2.1 hS'.2.2.2.2.2.2 o4
 have nS:∀b,b ∉ [z,TO,i1,i2,S]->b≠S:=λb hb e=>hb (by rw[e];simp)
 exact yaf ⟨plainId_quiet ycc _,qh9 hh ap m1 m2 sa1 sa2 hS lo hmin .none _ 0 _ _ _ rfl (yaP _) (by show lo<=_;rw[sz4];exact hlo) L ⟨rfl,λi x y hi=>absurd hi (yd6 _),λi j p h=>by simp at h⟩ hs4 λh' tk acc' c' kp hs' P=>fin h' tk acc' c' (λb o hb e=>kp b o hb (o4 b o (nS b hb) e)) hs' P⟩
end
section
variable{prog:yap}{w:World}{A:yar}{s:yab}{E:Value->yab->Prop}{z TI TO i1 i2 a1 a2:Addr}{u v:Array Value}
theorem qib (hh:A.handled=none) (ap:ZAp z TI TO i1 i2 [i1,a1] [i2,a2]) (m1:a1≠i1) (m2:a2≠i2) (sa1:a1 ∉ [z,TO,i1,i2]) (sa2:a2 ∉ [z,TO,i1,i2]) (hmin:min u.size v.size<=1000)
  (zz:IsZip s.heap z TI TO .none) (zO:∃p q,yaT s.heap TO p q) (zI:yaT s.heap TI (.ref i1) (.ref i2)) (t1:s.heap.IsTupleIter i1 a1 0/\s.heap.IsTuple a1 u) (t2:s.heap.IsTupleIter i2 a2 0/\s.heap.IsTuple a2 v) (lo:Nat) (hlo:lo<=s.heap.objs.size)
  {Q:Value->yab->Prop} (fin:∀h' tk acc' c',(∀b o,b ∉ [z,TO,i1,i2]->s.heap.get? b=some o->h'.get? b=some o)->h'.get? s.heap.objs.size=some {cls:=.type "list",dict:=none,data:=.seq acc' c',slots := #[]}->jd h' lo [z,TO,i1,i2,s.heap.objs.size] u v acc' (min u.size v.size)->Q (.ref s.heap.objs.size) {s with heap:=h',toks:=tk}) :
  wpAny (model prog w) A (call (.type "list") [.ref z]) Q E s:=by
 refine callType_codes (Q₁:=λobj sJ=>obj=.ref s.heap.objs.size/\sJ={s with heap:=s.heap.push {cls:=.type "list",data:=.seq #[]} }) F.called_list (F.typeCall_list_1 _) F.entry_list_init (code_list_new _ ⟨rfl,rfl⟩) λobj sJ hX=>?_
 obtain⟨rfl,rfl⟩:=hX
 have hs:(s.heap.push {cls:=.type "list",data:=.seq #[]}).get? s.heap.objs.size=some {cls:=.type "list",data:=.seq #[]}:=Heap.get?_push_size _ rfl
 have up:∀b o,s.heap.get? b=some o->(s.heap.push {cls:=.type "list",data:=.seq #[]}).get? b=some o:=λb o e=>Heap.get?_push_of_some _ e
 have ne:∀b o,s.heap.get? b=some o->s.heap.objs.size≠b:=λb o e=>(yaq (yac e)).symm
 obtain⟨p,q,zO⟩:=zO
 obtain⟨⟨o4,g4,r4⟩,o6,g6,r6⟩:=t1
 obtain⟨⟨o5,g5,r5⟩,o7,g7,r7⟩:=t2
 have hS:s.heap.objs.size ∉ [z,TI,TO,i1,i2,a1,a2]:=by
  simp only[yao,nN_,or_false,not_or]
  exact⟨ne _ _ zz,ne _ _ zI,ne _ _ zO,ne _ _ g4,ne _ _ g5,ne _ _ g6,ne _ _ g7⟩
 refine⟨⟨_,hs,rfl⟩,F.args_list_init_2 _ _,qia (A:=A.in1) hh ap m1 m2 sa1 sa2 hS hmin (up _ _ zz) ⟨p,q,up _ _ zO⟩ (up _ _ zI) ⟨⟨o4,up _ _ g4,r4⟩,o6,up _ _ g6,r6⟩ ⟨⟨o5,up _ _ g5,r5⟩,o7,up _ _ g7,r7⟩ lo ?_ hs λh' tk acc' c' kp hs' P=>⟨rfl,fin h' tk acc' c' (λb o hb e=>kp b o ?_ (up b o e)) hs' P⟩⟩
 ·show lo<=(s.heap.push _).objs.size
  rw[yby]
  exact Nat.le_succ_of_le hlo
 ·intro hm
  simp only[yao,nN_,or_false]at hm hb
  rcases hm with h|h|h|h|h
  ·exact hb (.inl h)
  ·exact hb (.inr (.inl h))
  ·exact hb (.inr (.inr (.inl h)))
  ·exact hb (.inr (.inr (.inr h)))
  ·exact ne b o e h.symm
end
end L2.Sk
set_option maxHeartbeats 1000000
namespace L2.Sk
open PySem PySem.Spec PyProof.Rows
section
variable{X:Cx}{H0 H:Hp}{s0 s:yab}{T:Addr}{o:HO}
theorem qgJ (z:SS X H0 s0 H s) (ht:s0.heap.get? T=none) (hn:H T=none) (new:jx X.prog X.w (upd H T o) s.heap T o):SS X H0 s0 (upd H T o) s:=by
 have ne':∀c u,H c=some u->c≠T:=λc u q z=>by rw[z,hn]at q;cases q
 refine⟨z.os,z.bare,qbH z.un ht hn,λb u e=>?_,λb o e=>qfR hn b o (z.same b o e)⟩
 by_cases hb:b=T
 ·subst hb
  rw[qi]at e
  cases e
  exact new
 ·rw[qm hb]at e
  exact(z.hok b u e).stay (λ_ _ _ q=>q) (λc q=>by rw[qm (ne' c _ q)];exact q) (λc xs q=>by rw[qm (ne' c _ q)];exact q) λc ob y q=>by rw[qm (ne' c _ q)];exact q
theorem qbh {pins:List (Addr×Obj)} {σ:St} {xs ys:List V} {it1 it2:List Value} {acc:Array Value} {ch:List Addr} (I:Inv X pins σ H0 s0) (z:SS X H0 s0 H0 s) (r1:qK xs it1) (r2:qK ys it2) (P:jd s.heap s0.heap.objs.size ch it1.toArray it2.toArray acc (min it1.length it2.length)) :
  ∀n,n<=min xs.length ys.length->∃(H':Hp)(ps:List V),SS X H0 s0 H' s/\ps.length=n/\qK ps (acc.toList.take n)/\(∀i u v,i<n->xs[i]? = some u->ys[i]? = some v->∃p,ps[i]? = some (.ref p)/\H0 p=none/\H' p=some (.tup [u,v]))/\∀b,(∀i,i<n->acc[i]? ≠ some (yad b))->H' b=H0 b
 |0,_=>⟨H0,[],z,rfl,by rw[List.take_zero];exact .nil,λi u v hi=>absurd hi (yd6 _),λb _=>rfl⟩
 | n + 1,hn=>by
  obtain⟨H',ps,z',hl,hv,hp,hf⟩:=qbh I z r1 r2 P n (by omega)
  have l1:=r1.length
  have l2:=r2.length
  obtain⟨u,hu⟩:∃u,xs[n]? = some u:=⟨xs[n]'(by omega),gG (by omega)⟩
  obtain⟨v,hv'⟩:∃v,ys[n]? = some v:=⟨ys[n]'(by omega),gG (by omega)⟩
  obtain⟨x,ex,rx⟩:=r1.get hu
  obtain⟨y,ey,ry⟩:=r2.get hv'
  obtain⟨p,e1,e2,e3,e4⟩:=P.2.1 n x y (by omega) (by rw[List.getElem?_toArray];exact ex) (by rw[List.getElem?_toArray];exact ey)
  have h0:H0 p=none:=I.hok.fresh e3
  have hp':H' p=none:=(hf p λi hi e=>by
   have:=P.2.2 i n p e e1
   omega).trans h0
  have z2:=qgJ z' (o:=.tup [u,v]) (T:=p) (Heap.get?_none_of_le e3) hp' ⟨by show 2<=yas;rw[ybz];omega,[x,y],.cons rx (.cons ry .nil),⟨_,e2,rfl,_,rfl⟩⟩
  refine⟨_,ps++[.ref p],z2,by rw[lA_,hl];rfl,?_,λi u' v' hi g1 g2=>?_,λb hb=>?_⟩
  ·have ha:acc.toList[n]? = some (yad p):=by rw[<-Array.getElem?_toList]at e1;exact e1
   have hlt:n<acc.toList.length:=(gI_.mp ha).1
   rw[List.take_succ_eq_append_getElem hlt]
   have:acc.toList[n]=yad p:=(gI_.mp ha).2
   rw[this]
   exact qK.append hv (.cons rfl .nil)
  ·by_cases e:i=n
   ·subst e
    rw[hu]at g1
    rw[hv']at g2
    cases g1
    cases g2
    refine⟨p,?_,h0,qi⟩
    rw[List.getElem?_append_right (by omega),hl,Nat.sub_self]
    rfl
   ·obtain⟨q,k1,k2,k3⟩:=hp i u' v' (by omega) g1 g2
    refine⟨q,by rw[List.getElem?_append_left (by omega)];exact k1,k2,?_⟩
    rw[qm (λe=>by rw[e,hp']at k3;cases k3)]
    exact k3
  ·rw[qm (λe=>hb n (by omega) (by rw[e];exact e1))]
   exact hf b λi hi=>hb i (by omega)
end
def tLZ (K:Fr0) (ta:TA):TE:=λσ H Q=>ta σ H λvs H1=>∃(a1 a2:Addr)(xs ys:List V),vs=[V.ref a1,V.ref a2]/\SqT K H1 a1 xs/\SqT K H1 a2 ys/\min xs.length ys.length<=1000 /\
 ∀(S:Addr)(ps:List V)(H2:Hp),H1 S=none->zG H1 H2->H2 S=some (.lst ps)->ps.length=min xs.length ys.length->(∀(i:Nat)(u v:V),xs[i]? = some u->ys[i]? = some v->∃p,ps[i]? = some (V.ref p)/\H1 p=none/\H2 p=some (HO.tup [u,v]))->Q (V.ref S) H2
section
variable{X:Cx}{a b:Expr}{pos:Pos}
theorem qic {ta:TA} {p p1 q:Pos} (hc:X.calm=true) (hgl:Gl X "list") (hml:X.mg "list"=none) (hg:Gl X "zip") (hm:X.mg "zip"=none) (ha:PA X [a,b] ta) (hs:yae [a,b] X.env=[(false,eval a X.env),(false,eval b X.env)]:=by rfl) (hs2:yae [b] X.env=[(false,eval b X.env)]:=by rfl)
  (he:yae [.Call (.Name "zip" p1) [a,b] [] q] X.env=(false,eval (.Call (.Name "zip" p1) [a,b] [] q) X.env)::yae [] X.env:=by rfl) (hpl:(yaO pos (yae [] X.env)).any (·.1)=false:=by rfl) :
  PE X (.Call (.Name "list" p) [.Call (.Name "zip" p1) [a,b] [] q] [] pos) (tLZ X.K ta):=by
 intro pins s σ H Q I h
 refine ybW (vh I hgl hml PyProof.Rows.boot_list ?_)
 refine yaX ?_ he hpl
 rw[he]
 show wpAny _ _ (spliced ((false,eval (.Call (.Name "zip" p1) [a,b] [] q) X.env)::yaO pos (yae [] X.env))) _ _ s
 refine yeY ?_
 refine Call_ (vh I hg hm yeq (yaX (thn (ha q pins s σ H _ I h) λus s1 ⟨vs,H1,I1,r1,q1⟩=>?_) (by rw[hs,hs2]) (by rw[hs2];rfl)))
 obtain⟨a1,a2,xs,ys,e1,hx,hy,hmin,fin⟩:=q1
 subst e1
 obtain⟨u1,u2,rfl,ru1,ru2⟩:=qK.two r1
 cases (show u1=yad a1 from ru1)
 cases (show u2=yad a2 from ru2)
 obtain⟨it1,v1,p1',z1⟩:=I1.tuple hx
 obtain⟨it2,v2,p2',z2⟩:=I1.tuple hy
 have l1:=v1.length
 have l2:=v2.length
 have la1:a1<s1.heap.objs.size:=by obtain⟨o,e,_⟩:=p1';exact yac e
 have la2:a2<s1.heap.objs.size:=by obtain⟨o,e,_⟩:=p2';exact yac e
 refine qcb (show s1.heap.IsTuple a1 it1.toArray from p1') (show s1.heap.IsTuple a2 it2.toArray from p2') λh' zz zI zO g1 g2 kp=>?_
 have sz:∀c o,s1.heap.get? c=some o->c<s1.heap.objs.size:=λc o e=>yac e
 have kz:s1.heap.objs.size+4<h'.objs.size:=yac zz
 refine yfj ?_
 have hh:X.A.handled=none:=I.ok.hd hc
 have ap:ZAp (s1.heap.objs.size+4) (s1.heap.objs.size+2) (s1.heap.objs.size+3) s1.heap.objs.size (s1.heap.objs.size+1) [s1.heap.objs.size,a1] [s1.heap.objs.size+1,a2]:=qed _ _ _ la1 la2
 have nin:∀c,c<s1.heap.objs.size->c ∉ [s1.heap.objs.size+4,s1.heap.objs.size+3,s1.heap.objs.size,s1.heap.objs.size+1]:=λc hc=>by
  simp only[yao,nN_,or_false,not_or]
  unfold Addr at *
  omega
 obtain⟨o1,y1,y2⟩:=p1'
 obtain⟨o2,y3,y4⟩:=p2'
 refine qib (s:={s1 with heap:=h' }) (u:=it1.toArray) (v:=it2.toArray) hh ap (yaq la1) (yaq (ycy la2)) (nin _ la1) (nin _ la2) (by rw[sT_,sT_];omega) zz ⟨_,_,zO⟩ zI ⟨g1,o1,kp _ _ y1,y2⟩ ⟨g2,o2,kp _ _ y3,y4⟩ s1.heap.objs.size (ybN (yfa (ybR _ _) kz)) λh2 tk acc c' kp2 hs' P=>?_
 have keep:∀b o,s1.heap.get? b=some o->h2.get? b=some o:=λb o e=>kp2 b o (nin b (sz b o e)) (kp b o e)
 have z0:=(SS.of I1).kept keep tk
 have w1:it1.toArray.size=it1.length:=sT_ ..
 have w2:it2.toArray.size=it2.length:=sT_ ..
 obtain⟨H',ps,z',hl,hv,hp,hf⟩:=qbh (ch:=_) I1 z0 v1 v2 P (min xs.length ys.length) (yak _)
 have hlo:s1.heap.objs.size<=h'.objs.size:=ybN (yfa (ybR _ _) kz)
 have hS1:H1 h'.objs.size=none:=I1.hok.fresh hlo
 have hS':H' h'.objs.size=none:=by
  refine(hf _ λi hi e=>?_).trans hS1
  obtain⟨p,e1,_,_,e4⟩:=P.2.1 i (it1[i]'(by omega)) (it2[i]'(by omega)) (by omega) (by rw[List.getElem?_toArray];exact gG _) (by rw[List.getElem?_toArray];exact gG _)
  rw[e]at e1
  cases e1
  exact e4 (by simp)
 have hacc:acc.toList.take (min xs.length ys.length)=acc.toList:=ycD (by rw[yca,P.1];omega)
 rw[hacc]at hv
 have z3:=qgJ z' (o:=.lst ps) (T:=h'.objs.size) (Heap.get?_none_of_le hlo) hS' ⟨by rw[hl,ybz];omega,acc.toList,c',hv,by rw[Array.toArray_toList];exact hs'⟩
 refine⟨.ref h'.objs.size,_,z3.inv I1,rfl,fin _ ps _ hS1 z3.same qi hl λi u v g1 g2=>?_⟩
 obtain ⟨p,k1,k2,k3⟩:=hp i u v (by
  have:=(gI_.mp g1).1
  have:=(gI_.mp g2).1
  omega) g1 g2
 exact⟨p,k1,k2,by rw[qm (λe=>by rw[e,hS']at k3;cases k3)];exact k3⟩
theorem qeD {K:Fr0} {A:Addr->Prop} {H:Hp}:∀(ds es:List D)(xs ys ps:List V),IsL K A H ds xs->IsL K A H es ys->ps.length=min xs.length ys.length->(∀(i:Nat)(u v:V),xs[i]? = some u->ys[i]? = some v->∃p,ps[i]? = some (V.ref p)/\H p=some (HO.tup [u,v]))->IsL K A H (vn ds es) ps
 | [],es,xs,ys,ps,i1,i2,hl,_=>by
  have e:xs=[]:=i1
  subst e
  have:ps=[]:=List.length_eq_zero_iff.mp (by rw[hl];simp)
  rw[this]
  simp[vn,IsL]
 |d::ds,[],xs,ys,ps,i1,i2,hl,_=>by
  have e:ys=[]:=i2
  subst e
  have:ps=[]:=List.length_eq_zero_iff.mp (by rw[hl];simp)
  rw[this]
  simp[vn,IsL]
 | d::ds,e::es,xs,ys,ps,i1,i2,hl,hp=>by
  obtain⟨x,xs',rfl,j1,k1⟩:=i1
  obtain⟨y,ys',rfl,j2,k2⟩:=i2
  cases ps with
  |nil=>simp at hl
  |cons q ps=>
   obtain⟨p,e1,e2⟩:=hp 0 x y rfl rfl
   have eq:q=.ref p:=by simpa using e1
   subst eq
   refine⟨.ref p,ps,rfl,⟨p,[x,y],rfl,.inl e2,x,[y],rfl,j1,y,[],rfl,j2,rfl⟩,qeD ds es xs' ys' ps k1 k2 (by simp at hl;omega) λi u v g1 g2=>?_⟩
   have:=hp (i+1) u v (by simpa using g1) (by simpa using g2)
   simpa using this
def qaE (f:M (List D)):M D:=bnd f λds=>match qc6 ds with
 |some es=>if es.length<=1000 then ret (.lst es)else λ_ => .bad
 |none=>λ_ => .bad
theorem qid {f:M (List D)} {Z Z1:Env} {ds es:List D} (h:f Z=.ok (ds,Z1)) (hz:qc6 ds=some es) (hl:es.length<=1000):qaE f Z=.ok (.lst es,Z1):=by
 unfold qaE bnd
 rw[h]
 simp only[hz,hl,if_true]
 rfl
theorem qie {c:Fc} {f:M (List D)} {p p1 q:Pos} (hc:X.calm=true) (hgl:Gl X "list") (hml:X.mg "list"=none) (hg:Gl X "zip") (hm:X.mg "zip"=none) (ha:DA X c [a,b] f) (hs:yae [a,b] X.env=[(false,eval a X.env),(false,eval b X.env)]:=by rfl) (hs2:yae [b] X.env=[(false,eval b X.env)]:=by rfl)
  (he:yae [.Call (.Name "zip" p1) [a,b] [] q] X.env=(false,eval (.Call (.Name "zip" p1) [a,b] [] q) X.env)::yae [] X.env:=by rfl) (hpl:(yaO pos (yae [] X.env)).any (·.1)=false:=by rfl) :
  DE X c (.Call (.Name "list" p) [.Call (.Name "zip" p1) [a,b] [] q] [] pos) (qaE f):=by
 obtain⟨t,pa,w⟩:=ha
 refine⟨_,qic hc hgl hml hg hm pa hs hs2 he hpl,λZ σ H Q r h=>w Z σ H _ r (WpL.bnd h λds Z1 vs H1 r1 i1 g1 h1=>?_)⟩
 cases ez:qc6 ds with
 |none=>rw[ez]at h1;exact h1.elim
 | some es=>
  rw[ez]at h1
  by_cases hl:es.length<=1000
  case neg=>simp only[hl,if_false]at h1;exact h1.elim
  simp only[hl,if_true]at h1
  unfold qc6 at ez
  split at ez
  ·obtain⟨v,u,rfl,j1,j2⟩:=IsL.inv2 i1
   cases ez
   obtain⟨a1,xs,rfl,t1,il1⟩:=Is.tr j1
   obtain⟨a2,ys,rfl,t2,il2⟩:=Is.tr j2
   rw[vG,<-il1.length,<-il2.length]at hl
   refine⟨a1,a2,xs,ys,rfl,t1.sq,t2.sq,hl,λS ps H2 hS sm hlst hlen hpp=>?_⟩
   refine h1 _ H2 (r1.same sm) ⟨S,ps,rfl,r1.new hS,hlst,qeD _ _ xs ys ps (IsL.ext (Ext.of_same sm) (λ_ h _=>h.1) il1) (IsL.ext (Ext.of_same sm) (λ_ h _=>h.1) il2) hlen λi u v g1 g2=>?_⟩ (.of_same sm)
   obtain⟨p,k1,_,k3⟩:=hpp i u v g1 g2
   exact⟨p,k1,k3⟩
  ·cases ez
end
end L2.Sk
set_option maxHeartbeats 1000000
namespace L2.Sk
open PySem PySem.Spec PyProof.Rows
theorem jV {env:yaG}:∀{names:List (Str×ybZ)}{x:Str},names.lookup x=some .cell ->
  (names.map λ(n,k)=>if(k==yaC&&env.scope.kind == .function&&env.kindOf n==some .cell) then(n,ya1) else(n,k)).lookup x=some .cell
 | [],_,h=>by simp at h
 | (n,k)::r,x,h=>by
  have ih := @jV env r x
  show yed x ((if(k==yaC&&env.scope.kind == .function&&env.kindOf n==some .cell)=true then(n,ya1) else(n,k))::_)=_
  cases hxn:x==n with
  |true=>
   simp only[yay,hxn]at h
   cases h
   by_cases hc:(ya1==yaC&&env.scope.kind == .function&&env.kindOf n==some .cell)=true
   ·rw[if_pos hc];simp only[yay,hxn]
   ·rw[if_neg hc];simp only[yay,hxn]
  |false=>
   simp only[yay,hxn]at h
   by_cases hc:(k==yaC&&env.scope.kind == .function&&env.kindOf n==some .cell)=true
   ·rw[if_pos hc];simp only[yay,hxn];exact ih h
   ·rw[if_neg hc];simp only[yay,hxn];exact ih h
theorem cs2 {z:Str} {X0:Cx} {oscope scope:Scope} {N0:List Str} {fp:List Addr} {cl:List (Str×Addr)} {C:Addr} {s₀:yab} {H₀:Hp} {pn:List (Addr×Obj)} (N':List Str) (nt j:Nat) (hoz:oscope.names.lookup z=some .cell:=by rfl) (h0:scope.kind=.function:=by rfl) (h1:∀y∈scope.names,y.2 ≠ .cell:=by decide +kernel) (h2:∀y∈scope.names,y.2=.local->scope.names.lookup y.1=some .local:=by decide +kernel)
  (h3:∀y∈scope.names,y.2=.free->y.1=z:=by decide +kernel) (hj:N0[j]? = some z:=by rfl) (h4:N'.length=nt+1:=by rfl) (h5:N'[nt]? = some z:=by rfl) (h6:scope.names.lookup z=some .free:=by rfl):jo (zA z X0 oscope N0 fp cl C s₀ H₀ pn) scope N' nt [j]:=by
 refine⟨h0,h1,h2,λy hy e=>?_,h4,λi k h=>?_⟩
 ·rw[h3 y hy e]
  exact jV hoz
 ·match i,h with
  |0,h=>
   cases h
   exact⟨z,h5,hj,h6⟩
  |i+1,h=>simp at h
end L2.Sk
set_option maxHeartbeats 1000000
namespace L2.Sk
open PySem PySem.Spec PyProof.Rows
theorem qif (l:Addr) (dd:Option Addr) (items:Array Value) (n:Nat) (sl:Array (Option Value)) (t:Tok) :
  Meets (ybM.«tuple.__mul__» ⟨[.ref l,.int 1 t],[]⟩) (λ_ R s=>s.heap.get? l=some {cls:=.type "tuple",dict:=dd,data:=.seq items n,slots:=sl}/\R (.ok (.ret (.ref l))) s) :=
 .of_wp λprog w A R s h=>by
  obtain⟨hp,g,d,tk,os⟩:=s
  obtain⟨hl,h⟩:=h
  have f1:=ydU
  have f2:=ybO
  have h3:¬(decide ((1:Int) < -(2 ^ 63))||decide ((1:Int) >= 2 ^ 63))=true:=by decide
  have h01:(items.isEmpty||(1:Int)==1)=true:=by simp
  wp_walk using ybk hl
  exact⟨_,rfl,h⟩
theorem qig (l:Addr) (dd:Option Addr) (items:Array Value) (n:Nat) (sl:Array (Option Value)) (t:Tok) (h0:¬items.isEmpty=true) :
  Meets (ybM.«tuple.__mul__» ⟨[.ref l,.int 0 t],[]⟩) (λ_ R s=>s.heap.get? l=some {cls:=.type "tuple",dict:=dd,data:=.seq items n,slots:=sl}/\R (.ok (.ret (.ref s.heap.objs.size))) {s with heap:=s.heap.push {cls:=.type "tuple",data:=.seq #[]} }) :=
 .of_wp λprog w A R s h=>by
  obtain⟨hp,g,d,tk,os⟩:=s
  obtain⟨hl,h⟩:=h
  have f1:=ydU
  have f2:=ybO
  have h3:¬(decide ((0:Int) < -(2 ^ 63))||decide ((0:Int) >= 2 ^ 63))=true:=by decide
  have h01:¬(items.isEmpty||(0:Int)==1)=true:=by simp only[yc2,not_or];exact⟨h0,by decide⟩
  wp_walk using ybk hl
  exact⟨_,rfl,h⟩
section
variable{X:Cx}
def qeE(K:Fr0):R2:=λx y H Q=>∃a xs k,x=.ref a/\y=.int k/\SqT K H a xs/\xs≠[]/\((k=1/\Q (.ref a) H)\/(k=0/\∀p,H p=none->Q (.ref p) (upd H p (.tup []))))
theorem qfY:OpR X (ya3 .Mult) (qeE X.K):=by
 intro pins s σ H x y v u Q I rx ry h
 obtain⟨a,xs,k,rfl,rfl,hx,hne,q⟩:=h
 cases rx
 obtain⟨t,rfl⟩:=ry
 obtain⟨its,r,p1,_⟩:=I.tuple hx
 obtain⟨⟨cls,dd,data,sl⟩,ho,hc,n,hd⟩:=id p1
 simp only at hc hd
 subst hc hd
 have hl:=r.length
 have e0:¬its.toArray.isEmpty=true:=by
  intro e
  have:its=[]:=by simpa using e
  rw[this]at hl
  exact hne (List.length_eq_zero_iff.mp hl)
 have T1:s.TypeIs (.ref a) "tuple":=⟨_,ho,rfl⟩
 rcases q with⟨rfl,q⟩|⟨rfl,q⟩
 ·exact ybL (T:="tuple") (U:="int") (by decide) T1 (λs'=>ybX s' 1 t) yt yc1 ybl uZ F.slot_int_index.lookup
   (ybK ybl (ybX s 1 t) ycL (ycw _ _) (yM 1 t a dd its.toArray n sl)
    ⟨ho,rfl,T1,ybK ydV T1 ydD (ydn _ _) (qif a dd its.toArray n sl t) ⟨ho,⟨.ref a,H,I,rfl,q⟩⟩⟩)
 ·refine ybL (T:="tuple") (U:="int") (by decide) T1 (λs'=>ybX s' 0 t) yt yc1 ybl uZ F.slot_int_index.lookup
   (ybK ybl (ybX s 0 t) ycL (ycw _ _) (yM 0 t a dd its.toArray n sl)
    ⟨ho,rfl,T1,ybK ydV T1 ydD (ydn _ _) (qig a dd its.toArray n sl t e0) ⟨ho,?_⟩⟩)
  exact⟨.ref s.heap.objs.size,_,I.laid (t':=s.toks) (o:=.tup []) (λb ob q=>Heap.get?_push_of_some _ q) (yak _) ⟨yaP _,[],.nil,ydj _ _⟩,rfl,q _ (I.hok.fresh (yak _))⟩
theorem qih:OpR X (ya3 .Mult) (λx y H Q=>qfC X.K x y H Q\/qeE X.K x y H Q):=OpR.or jz qfY
end
def qe3:D->D->Option D
 |.tup ds,.int k=>if ds.isEmpty then none else if k=0 then some (.tup [])else if k=1 then some (.tup ds)else jq (.tup ds) (.int k)
 |x,y=>jq x y
theorem qfZ {K:Fr0}:OpS K qe3 (λx y H Q=>qfC K x y H Q\/qeE K x y H Q):=by
 intro A H x y d v u Q hn ix iy e k
 unfold qe3 at e
 split at e
 ·rename_i ds j
  by_cases h0:ds.isEmpty=true
  ·rw[if_pos h0]at e;cases e
  rw[if_neg h0]at e
  by_cases h1:j=0
  ·rw[if_pos h1]at e
   cases e
   subst h1
   obtain⟨a,xs,rfl,ta,il⟩:=ix
   cases iy
   refine .inr ⟨a,xs,0,rfl,rfl,ta.sq,λz=>?_,.inr ⟨rfl,λp hp=>k _ _ (qs hp _) ⟨p,[],rfl,.inl qi,rfl⟩⟩⟩
   have:=il.length
   rw[z]at this
   exact h0 (by rw[List.length_eq_zero_iff.mp this.symm];rfl)
  rw[if_neg h1]at e
  by_cases h2:j=1
  ·rw[if_pos h2]at e
   cases e
   subst h2
   have ix':=ix
   obtain⟨a,xs,rfl,ta,il⟩:=ix
   cases iy
   refine .inr ⟨a,xs,1,rfl,rfl,ta.sq,λz=>?_,.inl ⟨rfl,k _ H (zG.refl H) ix'⟩⟩
   have:=il.length
   rw[z]at this
   exact h0 (by rw[List.length_eq_zero_iff.mp this.symm];rfl)
  rw[if_neg h2]at e
  exact .inl (zu A H _ _ d v u Q hn ix iy e k)
 ·exact .inl (zu A H _ _ d v u Q hn ix iy e k)
end L2.Sk
namespace L2.Sk
namespace Law
open PySem PySem.Spec PyProof.Rows
set_option maxHeartbeats 4000000
theorem qkk(ds:List D)(r:Env):zi 0 (some (.lst ds)::r)=some ds:=rfl
theorem qkl(i:Nat)(o:Option D)(r:Env):zi (i+1) (o::r)=zi i r:=rfl
theorem ix0(a b c:D):ixD (.tup [a,b,c]) (.int 0)=some a:=rfl
theorem ix1(a b c:D):ixD (.tup [a,b,c]) (.int 1)=some b:=rfl
theorem ix2(a b c:D):ixD (.tup [a,b,c]) (.int 2)=some c:=rfl
theorem qbQ(i j:Int):neB (.int i) (.int j)=some (.bl (!decide (i=j))):=rfl
theorem yy(i j:Int):eqB (.int i) (.int j)=some (.bl (decide (i=j))):=rfl
theorem u8(ds:List D):qao (tyD (.tup ds)) "tuple"=true:=rfl
theorem z5(ds:List D):uw [.tup ds]=some (.int ds.length):=rfl
theorem qgK(d:D):isN d .non=some (.bl (yI d)):=rfl
theorem qii(d:D):qmG d .non=some (.bl (!yI d)):=rfl
theorem uk(i j:Int):gtD (.int i) (.int j)=some (.bl (decide (j<i))):=rfl
theorem qeF(i j:Int):ltD (.int i) (.int j)=some (.bl (decide (i<j))):=rfl
theorem wE(i j:Int):leD (.int i) (.int j)=some (.bl (decide (i<=j))):=rfl
local macro_rules | `(tactic| push_cast [$xs,*]) => `(tactic| simp only [jA, qc7, qmK, yw, qcf, qbb, qjH, qkK, qmL, qbE, vH, qek, qjI, wv, qgw, qjJ, qfH, qel, qjK, qjL, qc8, qhE, qcg, qgy, qhF, qbF, qjM, qjN, qjO, qbc, qem, qhG, qbd, ww, qhH, qjP, qhI, qhJ, qhK, qjQ, qen, qli, qeo, lC_, lN_, mC_, List.map_nil, List.replicate, List.nil_append, List.cons_append, List.append_nil, List.getElem?_cons_zero, List.getElem?_cons_succ, List.set_cons_zero, List.set_cons_succ, Nat.reduceAdd, Nat.reduceSub, Nat.sub_self, Nat.zero_add, reduceIte, Bool.not_true, Bool.not_false, Bool.false_eq_true, if_true, if_false, ite_true, ite_false, cond_true, cond_false, decide_true, decide_false, ix0, ix1, ix2, u8, z5, qbQ, yy, qgK, qii, uk, qeF, wE, qkk, qkl, qax, qcs, qfO, qj0, qhW, qhP, $xs,*])
theorem qbi {n p:Nat} {body:MS} {ds:List D} {d:D} (h:ds.length=p) (e:∃Z,body (jA n ds)=.ok (.rt d Z)):dfn n p body ds=.ok d:=by
 obtain⟨Z,e⟩:=e
 exact qhL h e
def yQ:D->Bool
 |.int _=>true
 |_=>false
def z6:D->Bool
 |.int i=>decide (0<=i)
 |_=>false
def qeG:D->Bool
 |.int i=>decide (0<i)
 |_=>false
def ub:D->Bool
 |.tup [a,b,c]=>qeG a&&z6 b&&(yI c||z6 c)
 |_=>false
theorem qmQ {ds:List D} (h:ds.length=3):∃a b c,ds=[a,b,c]:=by
 match ds,h with
 | [a,b,c],_=>exact⟨a,b,c,rfl⟩
theorem qdj {ds:List D} (h:ds.length≠3):ub (.tup ds)=false:=by
 match ds,h with
 | [],_=>rfl
 | [_],_=>rfl
 | [_,_],_=>rfl
 | [a,b,c],h=>exact absurd rfl h
 |_::_::_::_::_,_=>rfl
theorem qw{p q:MS}{Z Z':Env}(h:p Z=.ok (.nx Z')):qI p q Z=q Z':=by rw[qgx,h]
theorem uc{p q:MS}{Z Z':Env}{d:D}(h:p Z=.ok (.rt d Z')):qI p q Z=.ok (.rt d Z'):=by rw[qgx,h]
theorem qij {e:M D} {f:D->D}:∀(ds acc:List D)(o:Option D),(∀d∈ds,e [some d]=.ok (f d,[some d]))->acc.length+ds.length<=1000->∃Z',qG (ql 0) (ret true) e ds acc [o]=.ok (acc++ds.map f,Z')
 | [],acc,o,_,_=>⟨[o],by simp[qG]⟩
 |d::ds,acc,o,h,hl=>by
  have hl':acc.length+(ds.length+1)<=1000:=hl
  obtain⟨Z',q⟩:=qij ds (acc++[f d]) (some d) (λx hx=>h x (mM _ hx)) (by rw[lA_,ybe];omega)
  refine⟨Z',?_⟩
  unfold qG
  simp only[ql,ybg,ret,h d mS_,jc (show acc.length+1<=1000000 by omega),if_true,q]
  simp
theorem qbj (f:D->Bool):∀ds:List D,yD (ds.map λd=>D.bl (f d))=some (ds.map f)
 | []=>rfl
 |d::ds=>by simp[yD,qbj f ds]
theorem all_map {ds:List D} {f:D->Bool}:qc4 [.lst (ds.map λd=>D.bl (f d))]=some (.bl (ds.all f)):=by
 simp only[qc4,qbj,yd9]
 congr 2
 rw[yfb]
 rfl
theorem qik {F:List D->R D} {f:D->Bool} {xs:M (List D)} {ds:List D} {Z:Env} (hx:xs Z=.ok (ds,Z)) (hF:∀d∈ds,F [d]=.ok (.bl (f d))) (hl:ds.length<=1000) :
  qj qc4 (qa (qE 1 [] none xs (ql 0) (ret true) (qt F (qa (dv 0) (ret [])))) (ret [])) Z=.ok (.bl (ds.all f),Z):=by
 obtain⟨Z',q⟩:=qij (e:=qt F (qa (dv 0) (ret []))) (f:=λd=>D.bl (f d)) ds [] none (λx hm=>by push_cast [];rw[hF x hm]) (by simpa using hl)
 have q':qG (ql 0) (ret true) (qt F (qa (dv 0) (ret []))) ds [] (zC 1 [] Z)=.ok ([]++ds.map λd=>D.bl (f d),Z'):=q
 simp only[qbE,yw,u4,hx,q',qc7,ybF,all_map]
 rfl
def u9:D->Bool
 |.tup ds=>decide (ds.length<=12)&&ds.all ub
 |_=>false
def leI:D->D->Bool
 |.int i,.int j=>decide (i<=j)
 |_,_=>false
def qlw (k x:D):Bool:=match k with
 |.tup [_,_,m]=>z6 x&&(yI m||leI x m)
 |_=>false
def qcz:List D->List D->Bool
 |k::ks,x::xs=>qlw k x&&qcz ks xs
 |_,_=>true
def qmk:D->D->Bool
 |.tup xs,.tup ks=>decide (xs.length=ks.length)&&qcz ks xs
 |_,_=>false
theorem qcA:∀bs:List Bool,yD (bs.map D.bl)=some bs
 | []=>rfl
 |b::bs=>by simp[yD,qcA bs]
theorem de_comp1 {F:List D->R D} {f:D->Bool} {xs:M (List D)} {ds:List D} {Z:Env} (hx:xs Z=.ok (ds,Z)) (hF:∀d∈ds,F [d]=.ok (.bl (f d))) (hl:ds.length<=1000) :
  qE 1 [] none xs (ql 0) (ret true) (qt F (qa (dv 0) (ret []))) Z=.ok (.lst (ds.map λd=>D.bl (f d)),Z):=by
 obtain⟨Z',q⟩:=qij (e:=qt F (qa (dv 0) (ret []))) (f:=λd=>D.bl (f d)) ds [] none (λx hm=>by push_cast [];rw[hF x hm]) (by simpa using hl)
 have q':qG (ql 0) (ret true) (qt F (qa (dv 0) (ret []))) ds [] (zC 1 [] Z)=.ok ([]++ds.map λd=>D.bl (f d),Z'):=q
 simp only[u4,hx,q',ybF]
 rfl
theorem uN {l:M (List D)} {Z Z1:Env} {j:Int} (e:l Z=.ok ([.int j],Z1)) (h0:0<=j) (h:j<=1000000):z8 l Z=.ok (qab 0 j.toNat,Z1):=by
 have h1:(-(2 ^ 62)<=j):=by omega
 have h2:(j<2 ^ 62):=by omega
 have e2:qfv [.int j]=some (qab 0 j.toNat):=by
  simp only[qfv,h1,h2,decide_true,ybH,if_true]
 have e3:z8 l Z=lift (qfv [.int j]) Z1:=by
  show bnd l (λds=>lift (qfv ds)) Z=_
  rw[qlh,e]
 rw[e3,e2]
 rfl
theorem qeH {n m:Int} (h0:0<m) (h1:m<1606938044258990275541962092341162602522202993782792835301376):v9 [.int n,.int m]=some (.tup [.int (n/m),.int (n%m)]):=by
 simp only[v9,qcY,h0,h1,decide_true,ybH,if_true]
theorem at0 (d:D) (r:List D):atI (d::r) 0=some d:=by
 unfold atI ixN
 rw[if_pos (by omega),if_pos (by simp)]
 rfl
theorem qmR:ixN 1 0=some 0:=by decide
theorem yX(i j:Int):j4 (.int i) (.int j)=some (.int (i+j)):=rfl
theorem qcB(i j:Int):qiu (.int i) (.int j)=some (.int (i-j)):=rfl
theorem qcC {ds:List D} {k:Int} (h0:0<=k) (h1:k<ds.length):∃d∈ds,ixD (.lst ds) (.int k)=some d:=by
 obtain⟨i,rfl⟩:=ycu h0
 have hi:i<ds.length:=by omega
 refine⟨ds[i],List.getElem_mem hi,?_⟩
 show atI ds (i:Int)=_
 unfold atI ixN
 rw[if_pos (by omega),if_pos (by omega)]
 show ds[(i:Int).toNat]? = _
 rw[ybq,gG hi]
theorem qf0(j:Nat):(qab 0 j).length=j:=by simp[qab]
theorem uO {i j:Int} (h:0<j):qbu (.int i) (.int j)=some (.int (i%j)):=by
 simp only[qbu,qfk,h,decide_true,if_true]
theorem qeI {i j:Int} (h:0<j) (h1:j<1606938044258990275541962092341162602522202993782792835301376):qfm (.int i) (.int j)=some (.int (i/j)):=by
 simp only[qfm,qfk,qcY,h,h1,decide_true,ybH,if_true]
theorem qbk {i j:Int} (h:z9 i=true):jq (.int i) (.int j)=some (.int (i*j)):=by
 simp only[jq,qdX,h,ydY,if_true]
theorem qkm {i j:Int} (h:z9 j=true):jq (.int i) (.int j)=some (.int (i*j)):=by
 simp only[jq,qdX,h,ye6,if_true]
theorem qil {i:Int} (h0:0<=i) (h1:i<2000000000):z9 i=true:=by
 unfold z9
 rw[yaj,decide_eq_true_eq,decide_eq_true_eq]
 constructor<;>omega
def facts:List Int:=[48271,69621,16807,39373,30269,40014,40692,50021,61687,71993,83869,95561,30307]
structure vq (w e:Nat) (d:D):Prop where
 lv:(zt d).leavesShort 40=true
 sh:(zt d).showable=true
 wt:(zt d).weight<=w
 dp:(zt d).depth<=e
theorem vq.mono{w e w' e':Nat}{d:D}(h:vq w e d)(h1:w<=w')(h2:e<=e'):vq w' e' d:=⟨h.lv,h.sh,yaJ h.wt h1,yaJ h.dp h2⟩
theorem qaF {w e:Nat}:∀ds:List D,(∀d∈ds,vq w e d)->yev 40 (toPDs ds)=true/\ybY (toPDs ds)=true/\PyData.weightAll (toPDs ds)<=ds.length*(w+1)/\PyData.depthAll (toPDs ds)<=e
 | [],_=>⟨rfl,rfl,yaP _,yaP _⟩
 |d::ds,h=>by
  obtain⟨h1,h2,h3,h4⟩:=qaF ds λx hx=>h x (mM _ hx)
  have g:=h d mS_
  have g3:=g.wt
  have g4:=g.dp
  simp only[toPDs,yev,ybY,PyData.weightAll,PyData.depthAll,h1,h2,g.lv,g.sh,ybH,true_and,lC_,Nat.succ_mul]
  omega
theorem vJ {w e n:Nat} {ds:List D} (h:∀d∈ds,vq w e d) (hl:ds.length<=n):vq (n*(w+1)) (e+1) (.tup ds):=by
 obtain⟨h1,h2,h3,h4⟩:=qaF ds h
 refine⟨?_,?_,?_,?_⟩
 ·simp only[zt,yfc,h1]
 ·simp only[zt,yc4,h2]
 ·simp only[zt,PyData.weight]
  exact yaJ h3 (yeF _ hl)
 ·simp only[zt,PyData.depth]
  omega
theorem qf1 {w e n:Nat} {ds:List D} (h:∀d∈ds,vq w e d) (hl:ds.length<=n):vq (n*(w+1)) (e+1) (.lst ds):=by
 obtain⟨h1,h2,h3,h4⟩:=qaF ds h
 refine⟨?_,?_,?_,?_⟩
 ·simp only[zt,yfc,h1]
 ·simp only[zt,yc4,h2]
 ·simp only[zt,PyData.weight]
  exact yaJ h3 (yeF _ hl)
 ·simp only[zt,PyData.depth]
  omega
def qf2(d:D):Bool:=(zt d).leavesShort 40&&(zt d).showable&&decide ((zt d).weight<=130)&&decide ((zt d).depth<=5)
theorem qbR {d:D} (h:qf2 d=true):vq 130 5 d:=by
 simp only[qf2,yaj,decide_eq_true_eq]at h
 exact⟨h.1.1.1,h.1.1.2,h.1.2,h.2⟩
def dl(d:D):Bool := !(zt d).hasDict||noL d
def plain(d:D):Bool := !(zt d).hasDict&&noL d
def dlL(ds:List D):Bool := !yaW (toPDs ds)||noLs ds
theorem va {w e:Nat} {d:D} (h:vq w e d) (hw:w<=100000) (he:e<=50) (hd:dl d=true):yg d=true:=by
 have h1:=PyData.shown_le 40 (by omega) _ h.lv
 have h2:(40+2)*(zt d).weight<=42*100000:=Nat.mul_le_mul_left _ (yaJ h.wt hw)
 have h3:=h.dp
 have e1:(zt d).shown.length<=yas:=by rw[yfo];omega
 have e2:(zt d).depth<=50:=by omega
 unfold dl at hd
 simp only[yg,h.sh,e1,e2,decide_true,ybu,hd]
theorem qaG:∀xs ys:List D,noLs (xs++ys)=(noLs xs&&noLs ys)
 | [],ys=>by simp[noLs]
 |x::xs,ys=>by simp[noLs,qaG xs ys,Bool.and_assoc]
theorem qaH:∀xs ys:List D,yaW (toPDs (xs++ys))=(yaW (toPDs xs)||yaW (toPDs ys))
 | [],ys=>by simp[toPDs,yaW]
 |x::xs,ys=>by simp[toPDs,yaW,qaH xs ys,Bool.or_assoc]
theorem yR:∀xs:List D,(∀d∈xs,plain d=true)->yaW (toPDs xs)=false/\noLs xs=true
 | [],_=>⟨rfl,rfl⟩
 |x::xs,h=>by
  obtain⟨h1,h2⟩:=yR xs λy hy=>h y (mM _ hy)
  have g:=h x mS_
  unfold plain at g
  rw[yaj,ydE]at g
  simp[toPDs,yaW,noLs,h1,h2,g.1,g.2]
theorem qgL (ds:List D):dl (.tup ds)=dlL ds:=by
 simp only[dl,dlL,zt,yew,noL]
theorem qkn {xs ys zs:List D} (h1:∀d∈xs,plain d=true) (h2:∀d∈zs,plain d=true) (h:dlL ys=true):dl (.tup (xs++ys++zs))=true:=by
 obtain⟨a1,a2⟩:=yR xs h1
 obtain⟨b1,b2⟩:=yR zs h2
 rw[qgL]
 unfold dlL at h |-
 rw[qaH,qaH,qaG,qaG,a1,a2,b1,b2]
 simpa using h
theorem qdk {i:Int} (h0:0<=i) (h1:i<=39):vq 7 0 (.int i):=by
 have h:(ybd 40).all (λi=>(zt (.int (i:Nat))).leavesShort 40&&(zt (.int (i:Nat))).showable&&decide ((zt (.int (i:Nat))).weight<=7))=true:=by decide +kernel
 obtain⟨k,rfl⟩:=ycu h0
 have hk:=List.all_eq_true.mp h k (mR_.mpr (by omega))
 simp only[yaj,decide_eq_true_eq]at hk
 exact⟨hk.1.1,hk.1.2,hk.2,yaP _⟩
theorem neg_int(i:Int):qhx (.int i)=some (.int (-i)):=rfl
theorem qf3 {xs ys:List D} (h:xs.length+ys.length<=1000000):j4 (.lst xs) (.lst ys)=some (.lst (xs++ys)):=by
 simp only[j4,jc h,if_true]
theorem qcD {xs ys:List D} (h:xs.length+ys.length<=1000000):j4 (.tup xs) (.tup ys)=some (.tup (xs++ys)):=by
 simp only[j4,jc h,if_true]
def pt (p:Int):D->Int
 |.tup [.int a,.int b,_]=>if p=0 then a else b
 |_=>0
def num:D->Int
 |.int x=>x
 |_=>0
def qlx (p:Int):List D->List D->List Int
 |k::ks,x::xs=>(pt p k*num x)::qlx p ks xs
 |_,_=>[]
theorem qcE:∀ns:List Int,yJ (ns.map D.int)=some ns
 | []=>rfl
 |n::ns=>by simp[yJ,qcE ns]
theorem qcF {i:Int} (h:i.natAbs<10 ^ 39):vq 130 0 (.int i):=by
 have hl:i.natAbs.log2<130:=by
  by_cases h0:i.natAbs=0
  ·rw[h0];decide
  ·refine(Nat.log2_lt h0).mpr (yat h (by decide +kernel))
 refine⟨?_,?_,?_,yak _⟩
 ·show decide ((yfd (.int i)).length<=40)=true
  refine decide_eq_true ?_
  have e:=int_text_length_le10 (k:=39) (by decide) h
  show(ybb (toString i)).length<=40
  rw[PySem.ofString_length]
  exact e
 ·show decide (i.natAbs.log2<1920)=true
  exact decide_eq_true (by omega)
 ·show(if(i==0)=true then 0 else i.natAbs.log2+1)<=130
  split<;>omega
theorem qf4 {i:Int} (h:i.natAbs<10 ^ 39):qL [.int i]=some (.str (yfd (.int i))):=by
 have:yg (.int i)=true:=va (qcF h) (by omega) (by omega) rfl
 simp only[qL,this,if_true];rfl
theorem qah(xs:List D):ye [.lst xs]=some (.tup xs):=rfl
theorem qeJ(xs:List D):qc1 [.tup xs]=some (.lst xs):=rfl
theorem qbS (x:Str):neB (.str x) (.str x)=some (.bl false):=by
 show some (D.bl (!decide (x=x)))=_
 rw[decide_eq_true rfl];rfl
theorem qly {F:List D->R D} {f g h:M D} {Z:Env} {a b c d:D} (hf:f Z=.ok (a,Z)) (hg:g Z=.ok (b,Z)) (hh:h Z=.ok (c,Z)) (e:F [a,b,c]=.ok d):qt F (qa f (qa g (qa h (ret [])))) Z=.ok (d,Z):=by
 have e1:qa h (ret []) Z=.ok ([c],Z):=by rw[yw,hh];rfl
 have e2:qa g (qa h (ret [])) Z=.ok ([b,c],Z):=by rw[yw,hg];dsimp only;rw[e1]
 have e3:qa f (qa g (qa h (ret []))) Z=.ok ([a,b,c],Z):=by rw[yw,hf];dsimp only;rw[e2]
 rw[vH,e3]
 dsimp only
 rw[e]
theorem zm {F:List D->Option D} {f:M D} {Z:Env} {a d:D} (hf:f Z=.ok (a,Z)) (e:F [a]=some d):qj F (qa f (ret [])) Z=.ok (d,Z):=by
 have e0:qa f (ret []) Z=.ok ([a],Z):=by rw[yw,hf];rfl
 rw[qbE,e0]
 dsimp only
 rw[e]
theorem qeK {xs:List D} (h:∀x∈xs,x=.non\/∃v:Int,x=.int v/\v.natAbs<10 ^ 39) (hl:xs.length<=12):qL [.tup xs]=some (.str (zt (.tup xs)).shown):=by
 have hn:vq (12*131) 1 (.tup xs):=vJ (λd hd=>by
  rcases h d hd with rfl|⟨v,rfl,hv⟩
  ·exact⟨rfl,rfl,yaP _,yaP _⟩
  ·exact qcF hv) hl
 have hp:=yR xs λd hd=>by
  rcases h d hd with rfl|⟨v,rfl,hv⟩<;>rfl
 have:yg (.tup xs)=true:=va hn (by omega) (by omega) (by rw[qgL];unfold dlL;rw[hp.1];rfl)
 simp only[qL,this,if_true]
theorem sl_tup(xs:List D)(a b:Option Int):slD (.tup xs) a b=some (.tup (qdt xs a b)):=rfl
theorem qim {α:Type} {e:M D} {t:M Bool} {k f:α->D} {p:α->Bool} {r:Env}:∀(as:List α)(acc:List D)(o:Option D),(∀a∈as,t (some (k a)::r)=.ok (p a,some (k a)::r))->(∀a∈as,p a=true->e (some (k a)::r)=.ok (f a,some (k a)::r))->acc.length+as.length<=1000000 ->
  ∃o',qG (ql 0) t e (as.map k) acc (o::r)=.ok (acc++(as.filter p).map f,o'::r)
 | [],acc,o,_,_,_=>⟨o,by simp[qG]⟩
 | a::as,acc,o,ht,he,hl=>by
  have hl':acc.length+(as.length+1)<=1000000:=hl
  have h1:=ht a mS_
  rw[mC_]
  unfold qG
  simp only[ql,ybg,h1]
  cases hp:p a with
  |false=>
   obtain⟨o',q⟩:=qim as acc (some (k a)) (λx hx=>ht x (mM _ hx)) (λx hx=>he x (mM _ hx)) (by omega)
   refine⟨o',?_⟩
   simp only[q,ft_,hp,yaU,if_false]
  |true=>
   obtain⟨o',q⟩:=qim as (acc++[f a]) (some (k a)) (λx hx=>ht x (mM _ hx)) (λx hx=>he x (mM _ hx)) (by rw[lA_,ybe];omega)
   refine⟨o',?_⟩
   simp only[he a mS_ hp,jc (show acc.length+1<=1000000 by omega),if_true,q,ft_,hp,mC_,ydB,yex]
theorem qko {α:Type} {e:M D} {t:M Bool} {k:α->D} {xs:M (List D)} {Z r:Env} {fr:List Nat} (as:List α) (p:α->Bool) (f:α->D) (hx:xs Z=.ok (as.map k,Z)) (hr:zC 1 fr Z=none::r) (hl:as.length<=1000000)
  (ht:∀a∈as,t (some (k a)::r)=.ok (p a,some (k a)::r)) (he:∀a∈as,p a=true->e (some (k a)::r)=.ok (f a,some (k a)::r)):qE 1 fr none xs (ql 0) t e Z=.ok (.lst ((as.filter p).map f),Z):=by
 obtain⟨o',q⟩:=qim as [] none ht he (by simpa using hl)
 rw[u4,hx]
 simp only[hr,q,ybF]
 rfl
theorem ul{α:Type}(as:List α):as.filter (λ_=>true)=as:=by simp
theorem qcG {α:Type} {e:M D} {k:α->D} {xs:M (List D)} {Z r:Env} {fr:List Nat} (as:List α) (f:α->D) (hx:xs Z=.ok (as.map k,Z)) (hr:zC 1 fr Z=none::r) (hl:as.length<=1000000)
  (he:∀a∈as,e (some (k a)::r)=.ok (f a,some (k a)::r)):qE 1 fr none xs (ql 0) (ret true) e Z=.ok (.lst (as.map f),Z):=by
 rw[qko as (λ_=>true) f hx hr hl (λ_ _=>rfl) λa ha _=>he a ha,ul]
theorem qbl {α β:Type} {G:D->Env->Option Env} {b:MS} {k:α->D} {step:β->α->β} {Inv:Nat->β->Env->Prop}:∀(as:List α)(n:Nat)(s:β)(Z:Env),Inv n s Z ->
  (∀a∈as,∀m s Z,n<=m->m<n+as.length->Inv m s Z->∃Z1 Z2,G (k a) Z=some Z1/\b Z1=.ok (.nx Z2)/\Inv (m+1) (step s a) Z2) ->
  ∃Z',uh G b (as.map k) Z=.ok (.nx Z')/\Inv (n+as.length) (as.foldl step s) Z'
 | [],n,s,Z,h,_=>⟨Z,rfl,h⟩
 | a::as,n,s,Z,h,H=>by
  obtain⟨Z1,Z2,h1,h2,h3⟩:=H a mS_ n s Z (yak _) (by rw[lC_];omega) h
  obtain⟨Z',q,w⟩:=qbl as (n+1) (step s a) Z2 h3 λx hx m s Z m1 m2=>H x (mM _ hx) m s Z (by omega) (by rw[lC_];omega)
  refine⟨Z',?_,?_⟩
  ·rw[mC_]
   unfold uh
   simp only[h1,h2]
   exact q
  ·rw[lC_,show n+(as.length+1)=n+1+as.length by omega]
   exact w
theorem qaI{f:M D}{Z:Env}{a:D}(hf:f Z=.ok (a,Z)):qa f (ret []) Z=.ok ([a],Z):=by rw[yw,hf];rfl
theorem j6{f g:M D}{Z:Env}{a b:D}(hf:f Z=.ok (a,Z))(hg:g Z=.ok (b,Z)):qa f (qa g (ret [])) Z=.ok ([a,b],Z):=by rw[yw,hf];simp only[qaI hg]
theorem qlz{f g h:M D}{Z:Env}{a b c:D}(hf:f Z=.ok (a,Z))(hg:g Z=.ok (b,Z))(hh:h Z=.ok (c,Z)):qa f (qa g (qa h (ret []))) Z=.ok ([a,b,c],Z):=by rw[yw,hf];simp only[j6 hg hh]
theorem qlA{f g:M D}{Z:Env}{a b:D}(hf:f Z=.ok (a,Z))(hg:g Z=.ok (b,Z)):jw (qa f (qa g (ret []))) Z=.ok (.tup [a,b],Z):=by rw[qcf,j6 hf hg];simp only[lC_,lN_,jc (show 0+1+1<=1000000 by omega),if_true]
theorem qcH{F:List D->R D}{f:M D}{Z:Env}{a d:D}(hf:f Z=.ok (a,Z))(e:F [a]=.ok d):qt F (qa f (ret [])) Z=.ok (d,Z):=by rw[vH,qaI hf];simp only[e]
theorem qgM{F:List D->R D}{f g:M D}{Z:Env}{a b d:D}(hf:f Z=.ok (a,Z))(hg:g Z=.ok (b,Z))(e:F [a,b]=.ok d):qt F (qa f (qa g (ret []))) Z=.ok (d,Z):=by rw[vH,j6 hf hg];simp only[e]
theorem qD{F:D->D->Option D}{f g:M D}{Z:Env}{a b d:D}(hf:f Z=.ok (a,Z))(hg:g Z=.ok (b,Z))(e:F a b=some d):d2 F f g Z=.ok (d,Z):=by rw[qkK,hf];simp only[hg,e]
theorem zf{f:M D}{Z:Env}{b:Bool}(hf:f Z=.ok (.bl b,Z)):tst f Z=.ok (b,Z):=by rw[qjI,hf];rfl
theorem qgN{t:M Bool}{p q:MS}{Z:Env}(h:t Z=.ok (true,Z)):sif t p q Z=p Z:=by rw[qhE,h];rfl
theorem qe4{t:M Bool}{p q:MS}{Z:Env}(h:t Z=.ok (false,Z)):sif t p q Z=q Z:=by rw[qhE,h];rfl
theorem io1 {F:List D->List D->R (D×List D)} {i:Nat} {f:M D} {Z:Env} {ds ds':List D} {a d:D} (h:zi i Z=some ds) (hf:f Z=.ok (a,Z)) (e:F ds [a]=.ok (d,ds')):qo F i (qa f (ret [])) Z=.ok (d,Z.set i (some (.lst ds'))):=by
 simp only[ww,h,qaI hf,e]
def mD:Option Int->D
 |none => .non
 |some j => .int j
abbrev Kd:=Int×Int×Option Int
def kD(x:Kd):D:=.tup [.int x.1,.int x.2.1,mD x.2.2]
def okK(x:Kd):Prop:=0<x.1/\0<=x.2.1/\(∀j,x.2.2=some j->0<=j)
theorem qeL {x:Kd} (h:okK x):ub (kD x)=true:=by
 obtain⟨a,b,m⟩:=x
 obtain⟨h1,h2,h3⟩:=h
 have e1:qeG (.int a)=true:=decide_eq_true h1
 have e2:z6 (.int b)=true:=decide_eq_true h2
 cases m with
 |none=>simp only[kD,mD,ub,e1,e2,yI,ybu,ydY]
 |some j=>
  have e3:z6 (.int j)=true:=decide_eq_true (h3 j rfl)
  simp only[kD,mD,ub,e1,e2,e3,ybu,ye6]
theorem qdl {ks:List Kd} (h:∀x∈ks,okK x) (hl:ks.length<=12):u9 (.tup (ks.map kD))=true:=by
 have:(ks.map kD).all ub=true:=by
  rw[yfb]
  exact List.all_eq_true.mpr λx hx=>qeL (h x hx)
 simp only[u9,lM_,hl,decide_true,this,ybu]
theorem qkp(x:Kd):ixD (kD x) (.int 0)=some (.int x.1):=rfl
theorem qkq(x:Kd):ixD (kD x) (.int 1)=some (.int x.2.1):=rfl
theorem qlB(x:Kd):ixD (kD x) (.int 2)=some (mD x.2.2):=rfl
theorem qkr {α:Type} {ds:List α} {n:Nat} {d:α} (h:ds[n]? = some d):atI ds (n:Int)=some d:=by
 unfold atI ixN
 have hl:=(gI_.mp h).1
 rw[if_pos (by omega),if_pos (by omega)]
 show ds[(n:Int).toNat]? = _
 rw[ybq];exact h
theorem qf5(lo:Int)(n:Nat):qab lo n=(ybd n).map λi=>D.int (lo+(i:Nat)):=rfl
theorem vK {α:Type} {as:List α} {f:α->Bool}:qc4 [.lst (as.map λa=>D.bl (f a))]=some (.bl (as.all f)):=by
 have:yD (as.map λa=>D.bl (f a))=some (as.map f):=by
  have:=qcA (as.map f)
  rw[List.map_map]at this
  exact this
 simp only[qc4,this,yd9]
 congr 2
 rw[yfb]
 rfl
theorem vL {α:Type} {as:List α} {f:α->Int}:qaq [.lst (as.map λa=>D.int (f a))]=some (.int (as.map f).sum):=by
 have:yJ (as.map λa=>D.int (f a))=some (as.map f):=by
  have:=qcE (as.map f)
  rw[List.map_map]at this
  exact this
 simp only[qaq,this,yd9]
theorem qeM {α:Type} {e:M D} {t:M Bool} {u v f:α->D} {p:α->Bool} {r:Env}:∀(as:List α)(acc:List D)(o o':Option D),(∀a∈as,t (some (u a)::some (v a)::r)=.ok (p a,some (u a)::some (v a)::r))->(∀a∈as,p a=true->e (some (u a)::some (v a)::r)=.ok (f a,some (u a)::some (v a)::r))->acc.length+as.length<=1000000 ->
  ∃o1 o2,qG (v4 2 (qO (ql 0) (qO (ql 1) v3))) t e (as.map λa => .tup [u a,v a]) acc (o::o'::r)=.ok (acc++(as.filter p).map f,o1::o2::r)
 | [],acc,o,o',_,_,_=>⟨o,o',by simp[qG]⟩
 | a::as,acc,o,o',ht,he,hl=>by
  have hl':acc.length+(as.length+1)<=1000000:=hl
  have h1:=ht a mS_
  rw[mC_]
  unfold qG
  have hg:v4 2 (qO (ql 0) (qO (ql 1) v3)) (.tup [u a,v a]) (o::o'::r)=some (some (u a)::some (v a)::r):=rfl
  simp only[hg,h1]
  cases hp:p a with
  |false=>
   obtain⟨o1,o2,q⟩:=qeM as acc (some (u a)) (some (v a)) (λx hx=>ht x (mM _ hx)) (λx hx=>he x (mM _ hx)) (by omega)
   refine⟨o1,o2,?_⟩
   simp only[q,ft_,hp,yaU,if_false]
  |true=>
   obtain⟨o1,o2,q⟩:=qeM as (acc++[f a]) (some (u a)) (some (v a)) (λx hx=>ht x (mM _ hx)) (λx hx=>he x (mM _ hx)) (by rw[lA_,ybe];omega)
   refine⟨o1,o2,?_⟩
   simp only[he a mS_ hp,jc (show acc.length+1<=1000000 by omega),if_true,q,ft_,hp,mC_,ydB,yex]
theorem vb {α:Type} {e:M D} {t:M Bool} {u v:α->D} {xs:M (List D)} {Z r:Env} {fr:List Nat} (as:List α) (p:α->Bool) (f:α->D) (hx:xs Z=.ok (as.map λa => .tup [u a,v a],Z)) (hr:zC 2 fr Z=none::none::r) (hl:as.length<=1000000)
  (ht:∀a∈as,t (some (u a)::some (v a)::r)=.ok (p a,some (u a)::some (v a)::r)) (he:∀a∈as,p a=true->e (some (u a)::some (v a)::r)=.ok (f a,some (u a)::some (v a)::r)):qE 2 fr none xs (v4 2 (qO (ql 0) (qO (ql 1) v3))) t e Z=.ok (.lst ((as.filter p).map f),Z):=by
 obtain⟨o1,o2,q⟩:=qeM as [] none none ht he (by simpa using hl)
 rw[u4,hx]
 simp only[hr,q,ybF]
 rfl
theorem qlC{t u:M Bool}{Z:Env}(h1:t Z=.ok (false,Z))(h2:u Z=.ok (false,Z)):tor t u Z=.ok (false,Z):=by rw[qfH,h1];exact h2
theorem qlD{t u:M Bool}{Z:Env}(h1:t Z=.ok (true,Z)):tor t u Z=.ok (true,Z):=by rw[qfH,h1];rfl
theorem qbm{F:List D->R D}{f g h:M D}{Z:Env}{a b c d:D}(hf:f Z=.ok (a,Z))(hg:g Z=.ok (b,Z))(hh:h Z=.ok (c,Z))(e:F [a,b,c]=.ok d):qt F (qa f (qa g (qa h (ret [])))) Z=.ok (d,Z):=qly hf hg hh e
theorem qf6 (xs:List D) (j:Nat) (h:j<=xs.length):qdt xs none (some (j:Int))=xs.take j:=by
 unfold qdt
 rw[HT.sIx_none,HT.sIx_nat,yc6 h]
 simp
theorem vt{i:Nat}{f:M D}{Z Z1:Env}{d:D}(h:f Z=.ok (d,Z1)):zb i f Z=.ok (.nx (Z1.set i (some d))):=by rw[qgy,h]
theorem jr{f:M D}{Z Z1:Env}{d:D}(h:f Z=.ok (d,Z1)):jk f Z=.ok (.rt d Z1):=by rw[qcg,h]
theorem wF{f:M D}{Z Z1:Env}{d:D}(h:f Z=.ok (d,Z1)):uD f Z=.ok (.nx Z1):=by rw[qbF,h]
theorem qf7 {fr:List Nat} {e:M D} {Z r:Env} (n:Nat) (d:D) (hn:n<=1000) (hr:zC 1 fr Z=none::r) (h:∀i:Nat,i<n->e (some (.int i)::r)=.ok (d,some (.int i)::r)) :
  qE 1 fr none (z8 (qa (ret (.int (n:Int))) (ret []))) (ql 0) (ret true) e Z=.ok (.lst (yag n d),Z):=by
 have e1:z8 (qa (ret (.int (n:Int))) (ret [])) Z=.ok (qab 0 n,Z):=by
  have:=uN (l:=qa (ret (.int (n:Int))) (ret [])) (Z:=Z) (Z1:=Z) (j:=(n:Int)) rfl (by omega) (by omega)
  rw[this,ybq]
 rw[qcG (r:=r) (k:=λi:Nat=>D.int (0+(i:Nat))) (ybd n) (λ_=>d) (by rw[e1,qf5]) hr (by rw[ydF];omega) λi hi=>?_]
 ·rw[List.map_const',ydF]
 ·have:=h i (mR_.mp hi)
  rw[show((0:Int)+(i:Nat))=(i:Int) by omega]
  exact this
theorem qks {fr:List Nat} {e f:M D} {Z r:Env} {p:MS} (n:Nat) (d x:D) (hn:n<=1000) (hr:zC 1 fr Z=none::r) (h:∀i:Nat,i<n->e (some (.int i)::r)=.ok (d,some (.int i)::r)) (hf:f Z=.ok (x,Z)) (hx:neB (.lst (yag n d)) x=some (.bl false)) :
  sif (tst (d2 neB (qE 1 fr none (z8 (qa (ret (.int (n:Int))) (ret []))) (ql 0) (ret true) e) f)) p yE Z=.ok (.nx Z) :=
 qe4 (zf (qD (qf7 n d hn hr h) hf hx))
def top(i:Nat):Stmt:=PySem.Challenge.pw_sackloads_k61_stows.main.body.getD i (.Pass ⟨0,0,0,0⟩)
abbrev je:Stmt:=top 36
abbrev jf:Stmt:=top 43
abbrev zJ:Stmt:=top 31
abbrev jH:Stmt:=top 16
abbrev jI:Stmt:=top 17
abbrev jJ:Stmt:=top 21
abbrev jg:Stmt:=top 27
abbrev jK:Stmt:=top 28
abbrev qP:Stmt:=top 23
abbrev yh:Stmt:=top 18
abbrev jh:Stmt:=top 19
abbrev zn:Stmt:=top 20
abbrev qN:Stmt:=top 26
abbrev js:Stmt:=top 29
abbrev zK:Stmt:=top 30
abbrev qR:Stmt:=top 32
abbrev za:Stmt:=top 33
abbrev qT:Stmt:=top 40
abbrev zo:Stmt:=top 41
abbrev zL:Stmt:=top 44
abbrev zQ:Stmt:=top 37
abbrev jt:Stmt:=top 42
abbrev jL:Stmt:=top 38
abbrev zv:Stmt:=top 39
abbrev jM:Stmt:=top 35
abbrev uP:Stmt:=top 45
structure Txt (K:yai) (mg:Str->Option Value):Prop where
 b_ValueError:mg "ValueError"=none
 b_all:mg "all"=none
 b_bool:mg "bool"=none
 b_divmod:mg "divmod"=none
 b_int:mg "int"=none
 b_isinstance:mg "isinstance"=none
 b_len:mg "len"=none
 b_list:mg "list"=none
 b_max:mg "max"=none
 b_min:mg "min"=none
 b_range:mg "range"=none
 b_repr:mg "repr"=none
 b_sum:mg "sum"=none
 b_tuple:mg "tuple"=none
 b_zip:mg "zip"=none
 c_KINDS_AT_MOST:∃t,mg "KINDS_AT_MOST"=some (.int 12 t)
 c_KINDS_STOWED_AT_MOST:∃t,mg "KINDS_STOWED_AT_MOST"=some (.int 8 t)
 c_MOST:∃t,mg "MOST"=some (.int 2 t)
 c_WEIGHT:∃t,mg "WEIGHT"=some (.int 0 t)
 c_WORTH:∃t,mg "WORTH"=some (.int 1 t)
def RN:List Str:=["NotSingle","NoStore","TooMany","NoLoad"]
def TN:List Str:=["SackError","NoText","NoLine","NoKind","NotEndless","NotSingle","TooMany","NoLoad","NoNumber","NoStore"]
noncomputable def yz:MS :=
  (qI (qkH (qj v9 (qa (qju 0 (ret (.int 0))) (qa (dv 1) (ret [])))) (v4 2 (qO (ql 2) (qO (ql 3) v3))))
  (qI (qfx 0 (ret (.int 0)) (dv 2))
  (jk (dv 3))))
noncomputable def qg:List D->List D->R (D×List D):=uX 4 2 yz
noncomputable def jW:MS :=
  (qI (zb 3 (qo qg 0 (qa (d2 j4 (qj uw (qa (dv 1) (ret []))) (ret (.int 1))) (ret []))))
  (qI (zb 4 (yp (qa (jw (ret [])) (qa (jw (qa (ret (.int 3)) (ret []))) (qa (jw (qa (d1 qhx (ret (.int 1))) (ret []))) (qa (jw (qa (ret (.bl true)) (ret []))) (qa (jw (qa (ret .non) (ret []))) (qa (jw (qa (ret (.str "1")) (ret []))) (qa (jw (qa (dv 2) (ret []))) (qa (jw (qa (ret (.int 1)) (qa (ret (.int 1)) (ret [])))) (qa (jw (qa (ret (.int 2)) (ret []))) (ret []))))))))))))
  (qI (zb 5 (qo qg 0 (qa (ret (.int 11)) (ret []))))
  (qI (sif (tst (d2 ltD (dv 5) (ret (.int 9)))) (jk (d2 j4 (d2 j4 (qh2 (dv 1) (ret none) (wX (dv 3))) (d2 ixD (dv 4) (dv 5))) (qh2 (dv 1) (wX (d2 j4 (dv 3) (ret (.int 1)))) (ret none)))) yE)
  (jk (d2 ixD (yp (qa (qj qc1 (qa (dv 1) (ret []))) (qa (jw (qa (dv 1) (ret []))) (ret [])))) (d2 qiu (dv 5) (ret (.int 9)))))))))
noncomputable def qz:List D->List D->R (D×List D):=uX 6 3 jW
noncomputable def uo:MS :=
  (jk (qj qaq (qa (qE 2 [2] none (qee (qa (dv 0) (qa (dv 1) (ret [])))) (v4 2 (qO (ql 0) (qO (ql 1) v3))) (tst (d2 eqB (dv 1) (dv 2))) (d2 ixD (dv 0) (ret (.int 0)))) (ret []))))
noncomputable def jX:List D->R D:=dfn 3 3 uo
noncomputable def vc:MS :=
  (jk (qdT (wS "int" (dv 0)) (qje (wS "bool" (dv 0)))))
noncomputable def yY:List D->R D:=dfn 1 1 vc
noncomputable def vd:MS :=
  (jk (qdT (qt yY (qa (dv 0) (ret []))) (d2 geD (dv 0) (ret (.int 0)))))
noncomputable def zR:List D->R D:=dfn 1 1 vd
noncomputable def ve:MS :=
  (jk (dor (d2 isN (d2 ixD (dv 0) (ret (.int 2))) (ret .non)) (d2 gtD (d2 ixD (dv 0) (ret (.int 2))) (ret (.int 0)))))
noncomputable def yi:List D->R D:=dfn 1 1 ve
noncomputable def uq:MS :=
  (jk (dif (tst (qt yi (qa (dv 0) (ret [])))) (ret (.int 2)) (ret (.int 0))))
noncomputable def yA:List D->R D:=dfn 1 1 uq
noncomputable def vf:MS :=
  (jk (qdT (qt zR (qa (dv 1) (ret []))) (d2 leD (dv 1) (qt yA (qa (dv 0) (ret []))))))
noncomputable def yj:List D->R D:=dfn 2 2 vf
noncomputable def jB:MS :=
  (sif (vB (tst (qj qc4 (qa (qE 1 [] none (yf (dv 0)) (ql 0) (ret true) (d2 inB (d2 ixD (dv 0) (ret (.int 2))) (jw (qa (ret (.int 0)) (qa (ret (.int 1)) (ret [])))))) (ret []))))) (wz "NotSingle" (qa (ret (.str "some kind is there more often than once")) (ret []))) yE)
noncomputable def jC:List D->R D:=wy 1 1 jB
noncomputable def wG:MS :=
  (qI (sif (tor (vB (tst (wS "tuple" (dv 0)))) (tst (d2 neB (qj uw (qa (dv 0) (ret []))) (ret (.int 3))))) (jk (ret (.bl false))) yE)
  (qI (sif (tor (vB (tst (qt zR (qa (d2 ixD (dv 0) (ret (.int 0))) (ret []))))) (tst (d2 eqB (d2 ixD (dv 0) (ret (.int 0))) (ret (.int 0))))) (jk (ret (.bl false))) yE)
  (jk (qdT (qt zR (qa (d2 ixD (dv 0) (ret (.int 1))) (ret []))) (dor (d2 isN (d2 ixD (dv 0) (ret (.int 2))) (ret .non)) (qt zR (qa (d2 ixD (dv 0) (ret (.int 2))) (ret []))))))))
noncomputable def yS:List D->R D:=dfn 1 1 wG
noncomputable def vg:MS :=
  (qI (sif (tor (vB (tst (wS "tuple" (dv 0)))) (tst (d2 gtD (qj uw (qa (dv 0) (ret []))) (ret (.int 12))))) (jk (ret (.bl false))) yE)
  (jk (qj qc4 (qa (qE 1 [] none (yf (dv 0)) (ql 0) (ret true) (qt yS (qa (dv 0) (ret [])))) (ret [])))))
noncomputable def yZ:List D->R D:=dfn 1 1 vg
noncomputable def j8:MS :=
  (sif (vB (tst (qt yZ (qa (dv 0) (ret []))))) (wz "NoStore" (qa (ret (.str "this is no store")) (ret []))) yE)
noncomputable def j9:List D->R D:=wy 1 1 j8
noncomputable def z7:MS :=
  (qI (uD (jT RN j9 (qa (dv 0) (ret []))))
  (qI (uD (jT RN jC (qa (dv 0) (ret []))))
  (sif (tst (d2 gtD (qj uw (qa (dv 0) (ret []))) (ret (.int 8)))) (wz "TooMany" (qa (ret (.str "there are more than eight kinds")) (ret []))) yE)))
noncomputable def zp:List D->R D:=wy 1 1 z7
noncomputable def uQ:MS :=
  (qI (uD (jT RN zp (qa (dv 1) (ret []))))
  (qI (sif (tor (vB (tst (wS "tuple" (dv 0)))) (tst (d2 neB (qj uw (qa (dv 0) (ret []))) (qj uw (qa (dv 1) (ret [])))))) (jk (ret (.bl false))) yE)
  (jk (qj qc4 (qa (qE 2 [] none (qee (qa (dv 1) (qa (dv 0) (ret [])))) (v4 2 (qO (ql 0) (qO (ql 1) v3))) (ret true) (qt yj (qa (dv 0) (qa (dv 1) (ret []))))) (ret []))))))
noncomputable def zq:List D->R D:=wy 2 2 uQ
noncomputable def jY:MS :=
  (sif (vB (tst (jT RN zq (qa (dv 1) (qa (dv 0) (ret [])))))) (wz "NoLoad" (qa (ret (.str "this is no stow of the store")) (ret []))) yE)
noncomputable def zM:List D->R D:=wy 2 2 jY
noncomputable def zD:MS :=
  (qI (uD (jT RN zM (qa (dv 0) (qa (dv 1) (ret [])))))
  (jk (jw (qa (qt jX (qa (dv 0) (qa (dv 1) (qa (ret (.int 1)) (ret []))))) (qa (qt jX (qa (dv 0) (qa (dv 1) (qa (ret (.int 2)) (ret []))))) (ret []))))))
noncomputable def zg:List D->R D:=wy 2 2 zD
noncomputable def ju:MS :=
  (qI (uD (jT RN zM (qa (dv 0) (qa (dv 1) (ret [])))))
  (jk (qj qaq (qa (qE 2 [] none (qee (qa (dv 0) (qa (dv 1) (ret [])))) (v4 2 (qO (ql 0) (qO (ql 1) v3))) (tst (d2 gtD (dv 1) (ret (.int 0)))) (d2 ixD (dv 0) (ret (.int 1)))) (ret [])))))
noncomputable def zS:List D->R D:=wy 2 2 ju
noncomputable def yc:MS :=
  (qI (zb 1 (yp (qa (qbv RN "NoStore" (dv 0)) (qa (qbv RN "NoNumber" (dv 0)) (qa (qbv RN "NoLoad" (dv 0)) (qa (qbv RN "TooMany" (dv 0)) (ret [])))))))
  (qI (zb 1 (d2 j4 (dv 1) (yp (qa (qbv RN "NotSingle" (dv 0)) (qa (qbv RN "NotEndless" (dv 0)) (qa (qbv RN "NoKind" (dv 0)) (ret [])))))))
  (jk (d2 j4 (dv 1) (yp (qa (qbv RN "NoLine" (dv 0)) (qa (qbv RN "NoText" (dv 0)) (ret []))))))))
noncomputable def ud:List D->R D:=dfn 2 1 yc
noncomputable def ur:MS :=
  (qI (sif (tor (vB (tst (qbv RN "SackError" (dv 0)))) (vB (tst (qbv RN "ValueError" (dv 0))))) (jk (ret (.bl false))) yE)
  (jk (d2 eqB (qt ud (qa (dv 0) (ret []))) (qE 1 [1] none (z8 (qa (ret (.int 9)) (ret []))) (ql 0) (ret true) (d2 eqB (dv 0) (dv 1))))))
noncomputable def ut:List D->R D:=dfn 2 2 ur
noncomputable def ji:MS :=
  (wC RN 4 3 (jk (dif (tst (d2 eqB (dv 0) (ret (.int 0)))) (jT RN zg (qa (dv 1) (qa (dv 2) (ret [])))) (jT RN zS (qa (dv 1) (qa (dv 2) (ret [])))))) (d2 j4 (yp (qa (ret (.str "refused")) (ret []))) (qE 1 [3] none (z8 (qa (ret (.int 9)) (ret []))) (ql 0) (tst (qt ut (qa (dv 1) (qa (dv 0) (ret []))))) (dv 0))))
noncomputable def qh:List D->R D:=dfn 4 3 ji
noncomputable def yT:MS :=
  (jk (qdT (wS "int" (dv 0)) (qje (wS "bool" (dv 0)))))
noncomputable def jv:List D->R D:=dfn 1 1 yT
noncomputable def wH:MS :=
  (qI (sif (tor (vB (tst (wS "tuple" (dv 0)))) (tor (tst (d2 neB (qj uw (qa (dv 0) (ret []))) (qj uw (qa (dv 1) (ret []))))) (vB (tst (qj qc4 (qa (qE 1 [] none (yf (dv 0)) (ql 0) (ret true) (qt jv (qa (dv 0) (ret [])))) (ret []))))))) (jk (ret (.bl false))) yE)
  (jk (qj qc4 (qa (qE 2 [] none (qee (qa (dv 0) (qa (dv 1) (ret [])))) (v4 2 (qO (ql 0) (qO (ql 1) v3))) (ret true) (vp leD leD (ret (.int 0)) (dv 0) (d2 jq (ret (.int 2)) (d2 ixD (dv 1) (ret (.int 2)))))) (ret [])))))
noncomputable def zE:List D->R D:=dfn 2 2 wH
noncomputable def y0:MS :=
  (qI (zb 1 (yp (qa (ret .non) (qa (ret (.bl true)) (qa (ret (.bl false)) (qa (d1 qhx (ret (.int 1))) (qa (ret (.int 2)) (qa (ret (.str "")) (qa (ret (.str "1")) (qa (jw (qa (ret (.int 0)) (ret []))) (qa (yp (qa (ret (.int 1)) (ret []))) (qa (ret (.dic [(.inr "a",1)])) (qa (jw (qa (d1 qhx (ret (.int 1))) (ret []))) (qa (jw (qa (ret (.bl true)) (ret []))) (qa (jw (qa (jw (qa (ret (.int 1)) (ret []))) (ret []))) (qa (jw (qa (ret .non) (ret []))) (qa (d2 qhy (ret (.int 10)) (ret (.int 29))) (qa (yp (ret [])) (ret [])))))))))))))))))))
  (jk (d2 ixD (dv 1) (qo qg 0 (qa (ret (.int 16)) (ret []))))))
noncomputable def jj:List D->List D->R (D×List D):=uX 2 1 y0
noncomputable def jD:MS :=
  (qI (zb 2 (d2 ixD (yp (qa (ret (.int 1)) (qa (ret (.int 1)) (qa (d2 qhy (ret (.int 10)) (ret (.int 15))) (ret []))))) (qo qg 0 (qa (ret (.int 3)) (ret [])))))
  (qI (qas 3 (qkJ (ret [])))
  (qI (qe1 (z8 (qa (qo qg 0 (qa (d2 j4 (dv 1) (ret (.int 1))) (ret []))) (ret []))) (ql 4) (qI (qiw 5 6 (qa (d2 j4 (d2 jq (dv 2) (d2 j4 (ret (.int 1)) (qo qg 0 (qa (ret (.int 9)) (ret []))))) (d2 jq (dv 4) (d2 qiu (dv 2) (ret (.int 1))))) (qa (qo qg 0 (qa (ret (.int 12)) (ret []))) (ret []))))
  (uD (ui 3 (jw (qa (dv 5) (qa (dv 6) (qa (qj qcZ (qa (d2 gtD (qo qg 0 (qa (ret (.int 5)) (ret []))) (ret (.int 0))) (ret []))) (ret [])))))))))
  (jk (qea 3)))))
noncomputable def zd:List D->List D->R (D×List D):=uX 7 2 jD
noncomputable def y7:MS :=
  (qI (zb 2 (d2 j4 (d2 jq (ret (.int 7919)) (dv 1)) (ret (.int 13))))
  (qI (sif (tst (d2 ltD (dv 1) (qj uw (qa (dv 0) (ret []))))) (zb 2 (d2 ixD (dv 0) (dv 1))) yE)
  (qI (sif (tst (d2 eqB (d2 qbu (dv 2) (ret (.int 2))) (ret (.int 0)))) (jk (yp (qa (d2 qfm (dv 2) (ret (.int 2))) (ret [])))) yE)
  (qI (zb 3 (ret (.int 0)))
  (qI (qe1 (z8 (qa (ret (.int 16)) (ret []))) (ql 4) (qI (zb 5 (d2 qbu (d2 j4 (d2 j4 (d2 jq (d2 qbu (dv 2) (ret (.int 2147483647))) (ret (.int 48271))) (d2 jq (ret (.int 7919)) (dv 4))) (ret (.int 1))) (ret (.int 2147483647))))
  (qI (zb 5 (d2 qbu (d2 jq (dv 5) (dv 5)) (ret (.int 2147483629))))
  (zb 3 (d2 j4 (d2 jq (dv 3) (ret (.int 2147483647))) (d2 qbu (d2 jq (dv 5) (d2 j4 (dv 5) (ret (.int 13)))) (ret (.int 2147483647))))))))
  (jk (yp (qa (dv 3) (ret [])))))))))
noncomputable def zT:List D->R D:=dfn 6 2 y7
noncomputable def qin:MS :=
  (qI (qe1 (z8 (qa (qj qhi (qa (ret (.int 1)) (qa (qj qhj (qa (qj uw (qa (dv 0) (ret []))) (qa (ret (.int 4)) (ret [])))) (ret [])))) (ret []))) (ql 1) (qI (qas 2 (qa8 zT (qa (dv 0) (qa (dv 1) (ret [])))))
  (qI (zb 3 (qo zd 2 (qa (ret (.int 8)) (ret []))))
  (qI (zb 4 (qj ye (qa (qE 1 [2] (some (1,2)) (yf (dv 3)) (ql 0) (ret true) (d2 jq (qo qg 1 (qa (ret (.int 3)) (ret []))) (d2 ixD (dv 0) (ret (.int 2))))) (ret []))))
  (qI (zb 5 (qo jj 2 (ret [])))
  (qe1 (yf (d2 j4 (yp (qa (dv 4) (qa (dv 5) (qa (d2 qe3 (jw (qa (ret (.int 0)) (ret []))) (qj uw (qa (dv 3) (ret [])))) (ret []))))) (qE 1 [2,4,5] (some (1,2)) (z8 (qa (ret (.int 5)) (ret []))) (ql 0) (ret true) (qo qz 1 (qa (dv 2) (qa (dv 3) (ret []))))))) (ql 6) (qI (zb 7 (qj qL (qa (dv 6) (ret []))))
  (qI (zb 8 (qt zE (qa (dv 6) (qa (dv 3) (ret [])))))
  (qI (zb 9 (yP zq (qa (dv 6) (qa (dv 3) (ret [])))))
  (qI (sif (tor (vB (tst (wS "bool" (dv 9)))) (tor (tst (d2 neB (dv 9) (dv 8))) (tst (d2 neB (qj qL (qa (dv 6) (ret []))) (dv 7))))) (jk (ret (.bl false))) yE)
  (sif (tst (dv 8)) (qI (zb 10 (qaE (qa (dv 3) (qa (dv 6) (ret [])))))
  (qI (zb 11 (qj ye (qa (qE 1 [10] none (yf (jw (qa (ret (.int 1)) (qa (ret (.int 2)) (ret []))))) (ql 0) (ret true) (qj qaq (qa (qE 2 [0] none (yf (dv 1)) (v4 2 (qO (ql 0) (qO (ql 1) v3))) (tst (d2 eqB (dv 1) (dv 2))) (d2 ixD (dv 0) (ret (.int 0)))) (ret [])))) (ret []))))
  (qI (zb 12 (qj qaq (qa (qE 2 [] none (yf (dv 10)) (v4 2 (qO (ql 0) (qO (ql 1) v3))) (tst (d2 gtD (dv 1) (ret (.int 0)))) (d2 ixD (dv 0) (ret (.int 1)))) (ret []))))
  (sif (tor (tst (d2 neB (qj qL (qa (qt qh (qa (ret (.int 0)) (qa (dv 3) (qa (dv 6) (ret []))))) (ret []))) (qj qL (qa (dv 11) (ret []))))) (tst (d2 neB (qj qL (qa (qt qh (qa (ret (.int 1)) (qa (dv 3) (qa (dv 6) (ret []))))) (ret []))) (qj qL (qa (dv 12) (ret [])))))) (jk (ret (.bl false))) yE)))) (sif (tst (d2 neB (qE 1 [3,6] none (z8 (qa (ret (.int 2)) (ret []))) (ql 0) (ret true) (qt qh (qa (dv 0) (qa (dv 1) (qa (dv 2) (ret [])))))) (d2 jq (yp (qa (yp (qa (ret (.str "refused")) (qa (ret (.int 2)) (ret [])))) (ret []))) (ret (.int 2))))) (jk (ret (.bl false))) yE))))))))))))
  (jk (ret (.bl true))))
noncomputable def qbT:List D->R D:=dfn 13 1 qin
theorem qaJ (d:D):yY [d]=.ok (.bl (yQ d)):=by
 unfold yY vc
 refine qbi rfl ⟨[some d],?_⟩
 push_cast []
 cases d<;>rfl
theorem jE (d:D):zR [d]=.ok (.bl (z6 d)):=by
 unfold zR vd
 refine qbi rfl ⟨[some d],?_⟩
 push_cast []
 rw[qaJ]
 cases d<;>rfl
theorem qbn (d:D):yS [d]=.ok (.bl (ub d)):=by
 unfold yS wG
 refine qbi rfl ⟨[some d],?_⟩
 cases d with
 | tup ds=>
  by_cases h:ds.length=3
  ·obtain ⟨a,b,c,rfl⟩:=qmQ h
   refine(qw (Z':=[some (.tup [a,b,c])]) rfl).trans ?_
   by_cases hp:qeG a=true
   ·refine (qw (Z':=[some (.tup [a,b,c])]) ?_).trans ?_
    ·cases a with
     |int i=>
      have h2:0<i:=of_decide_eq_true hp
      have h0:0<=i:=by omega
      have h1:¬i=0:=by omega
      push_cast [ix0,jE,z6,yy,wv,h0,h1,decide_true,decide_false]
     |_=>exact absurd hp (by simp[qeG])
    ·push_cast [ix1,ix2,jE,qgK,ub,hp,wv,ybu]
     cases hb:z6 b<;>cases hc:yI c<;>rfl
   ·refine (uc (d:=.bl false) (Z':=[some (.tup [a,b,c])]) ?_).trans ?_
    ·cases a with
     | int i=>
      have h2:¬0<i:=λz=>hp (decide_eq_true z)
      push_cast [ix0,jE,z6,yy,wv]
      by_cases h0:0<=i
      ·have h1:i=0:=by omega
       subst h1;rfl
      ·simp only[h0,decide_false]
       rfl
     |_=>rfl
    ·have hp':qeG a=false:=by simpa using hp
     simp only[ub,hp',yb1]
  ·refine (uc (d:=.bl false) (Z':=[some (.tup ds)]) ?_).trans ?_
   ·push_cast []
    have h3:¬((ds.length:Int)=3):=by omega
    simp only[u8,z5,qbQ,h3,decide_false,wv]
    rfl
   ·rw[qdj h]
 |_=>rfl
theorem qaK (d:D):yZ [d]=.ok (.bl (u9 d)):=by
 unfold yZ vg
 refine qbi rfl ⟨[some d],?_⟩
 cases d with
 | tup ds=>
  by_cases h:ds.length<=12
  ·have h2:¬((12:Int)<(ds.length:Int)):=by omega
   refine(qw (Z':=[some (.tup ds)]) ?_).trans ?_
   ·push_cast [u8,z5,uk,h2,decide_false,wv]
   ·rw[qcg,qik (F:=yS) (f:=ub) (xs:=yf (dv 0)) (ds:=ds) (Z:=[some (.tup ds)]) rfl (λd _=>qbn d) (by omega)]
    simp only[u9,h,decide_true,ybu]
  ·have h2:((12:Int)<(ds.length:Int)):=by omega
   refine(uc (d:=.bl false) (Z':=[some (.tup ds)]) ?_).trans ?_
   ·push_cast [u8,z5,uk,h2,decide_true,wv]
   ·simp only[u9,h,decide_false,yb1]
 |_=>rfl
theorem sm1:qC 1=true:=jc (by omega)
theorem qaL (d:D) (h:u9 d=true):j9 [d]=.ok .non:=by
 unfold j9
 refine qct rfl ⟨[some d],?_⟩
 unfold j8
 push_cast [qaK,h]
theorem wJ (d:D):jv [d]=.ok (.bl (yQ d)):=by
 unfold jv yT
 refine qbi rfl ⟨[some d],?_⟩
 push_cast []
 cases d<;>rfl
theorem yB {n m:Int} (h0:0<m) (h1:m<1606938044258990275541962092341162602522202993782792835301376):qg [.int n] [.int m]=.ok (.int (n%m),[.int (n/m)]):=by
 unfold qg
 refine qbe (Z:=[some (.lst [.int (n/m)]),some (.int m),some (.int (n/m)),some (.int (n%m))]) rfl ?_ rfl
 unfold yz
 refine(qw (Z':=[some (.lst [.int n]),some (.int m),some (.int (n/m)),some (.int (n%m))]) ?_).trans ?_
 ·push_cast [at0,qeH h0 h1,v4,qO,ql,v3,Option.bind_some]
 ·refine(qw (Z':=[some (.lst [.int (n/m)]),some (.int m),some (.int (n/m)),some (.int (n%m))]) ?_).trans rfl
  push_cast [qmR,imm]
theorem qaM {i:Int} (h0:0<=i) (h1:i<3000000000):z9 i=true:=by
 unfold z9
 rw[yaj,decide_eq_true_eq,decide_eq_true_eq]
 constructor<;>omega
theorem qcI (A B:Option D) (x:Int):∀(ds:List D)(s:Int)(o o':Option D),(∀d∈ds,∃j:Int,d=.int j)->∃s' o1 o2,uh (ql 4) (qI (zb 5 (d2 qbu (d2 j4 (d2 j4 (d2 jq (d2 qbu (dv 2) (ret (.int 2147483647))) (ret (.int 48271))) (d2 jq (ret (.int 7919)) (dv 4))) (ret (.int 1))) (ret (.int 2147483647)))) (qI (zb 5 (d2 qbu (d2 jq (dv 5) (dv 5)) (ret (.int 2147483629)))) (zb 3 (d2 j4 (d2 jq (dv 3) (ret (.int 2147483647))) (d2 qbu (d2 jq (dv 5) (d2 j4 (dv 5) (ret (.int 13)))) (ret (.int 2147483647))))))) ds [A,B,some (.int x),some (.int s),o,o']=.ok (.nx [A,B,some (.int x),some (.int s'),o1,o2])
 | [],s,o,o',_=>⟨s,o,o',rfl⟩
 | d::ds,s,o,o',h=>by
  obtain⟨j,rfl⟩:=h d mS_
  let p:Int:=(x%2147483647*48271+7919*j+1)%2147483647
  let q:Int:=p*p%2147483629
  have f48:z9 48271=true:=by decide
  have f79:z9 7919=true:=by decide
  have f21:z9 2147483647=true:=by decide
  have fp:z9 p=true:=qaM (yc8 _ (by omega)) (by have:=yco (x%2147483647*48271+7919*j+1) (show(0:Int)<2147483647 by omega);simp only[p];omega)
  have fq:z9 q=true:=qaM (yc8 _ (by omega)) (by have:=yco (p*p) (show(0:Int)<2147483629 by omega);simp only[q];omega)
  obtain⟨s',o1,o2,e⟩:=qcI A B x ds (s*2147483647+q*(q+13)%2147483647) (some (.int j)) (some (.int q)) λy hy=>h y (mM _ hy)
  refine⟨s',o1,o2,?_⟩
  have st:(qI (zb 5 (d2 qbu (d2 j4 (d2 j4 (d2 jq (d2 qbu (dv 2) (ret (.int 2147483647))) (ret (.int 48271))) (d2 jq (ret (.int 7919)) (dv 4))) (ret (.int 1))) (ret (.int 2147483647)))) (qI (zb 5 (d2 qbu (d2 jq (dv 5) (dv 5)) (ret (.int 2147483629)))) (zb 3 (d2 j4 (d2 jq (dv 3) (ret (.int 2147483647))) (d2 qbu (d2 jq (dv 5) (d2 j4 (dv 5) (ret (.int 13)))) (ret (.int 2147483647))))))) [A,B,some (.int x),some (.int s),some (.int j),o']=.ok (.nx [A,B,some (.int x),some (.int (s*2147483647+q*(q+13)%2147483647)),some (.int j),some (.int q)]):=by
   refine(qw (Z':=[A,B,some (.int x),some (.int s),some (.int j),some (.int p)]) ?_).trans ?_
   ·push_cast [uO (j:=2147483647) (by decide),qkm f48,qbk f79,yX,p]
   refine(qw (Z':=[A,B,some (.int x),some (.int s),some (.int j),some (.int q)]) ?_).trans ?_
   ·push_cast [qbk fp,uO (j:=2147483629) (by decide),q]
   ·push_cast [qkm f21,yX,qbk fq,uO (j:=2147483647) (by decide)]
  unfold uh
  simp only[ql,ybg,ydp,st]
  exact e
theorem qkt (ns:List Int) (i:Int) (h0:0<=i):∃n,zT [.fz ns,.int i]=.ok (.lst [.int n]):=by
 have f79:z9 7919=true:=by decide
 have s1:∃x,(sif (tst (d2 ltD (dv 1) (qj uw (qa (dv 0) (ret []))))) (zb 2 (d2 ixD (dv 0) (dv 1))) yE) [some (.fz ns),some (.int i),some (.int (7919*i+13)),none,none,none]=.ok (.nx [some (.fz ns),some (.int i),some (.int x),none,none,none]):=by
  by_cases h:i<ns.length
  ·obtain ⟨j,rfl⟩:=ycu h0
   have hj:j<ns.length:=by omega
   have e:ixD (.fz ns) (.int (j:Int))=some (.int ns[j]):=by
    show(atI ns (j:Int)).map D.int=_
    rw[qkr (gG hj)];rfl
   refine⟨ns[j],?_⟩
   push_cast [e,uw,h]
  ·refine⟨7919*i+13,?_⟩
   push_cast [uw,h]
 obtain⟨x,e1⟩:=s1
 have s0:(zb 2 (d2 j4 (d2 jq (ret (.int 7919)) (dv 1)) (ret (.int 13)))) [some (.fz ns),some (.int i),none,none,none,none]=.ok (.nx [some (.fz ns),some (.int i),some (.int (7919*i+13)),none,none,none]):=by
  push_cast [qbk f79,yX]
 by_cases hx:x%2=0
 ·refine⟨x/2,?_⟩
  unfold zT y7
  refine qbi rfl ⟨[some (.fz ns),some (.int i),some (.int x),none,none,none],?_⟩
  refine(qw s0).trans ((qw e1).trans (uc ?_))
  push_cast [uO (j:=2) (by decide),hx,qeI (j:=2) (by decide) (by decide),jc (show 1<=1000000 by omega)]
 ·obtain ⟨s',o1,o2,q⟩:=qcI (some (.fz ns)) (some (.int i)) x (qab 0 16) 0 none none λd hd=>by
   unfold qab at hd
   obtain⟨k,hk,rfl⟩:=mP_.mp hd
   exact⟨_,rfl⟩
  refine⟨s',?_⟩
  unfold zT y7
  refine qbi rfl ⟨[some (.fz ns),some (.int i),some (.int x),some (.int s'),o1,o2],?_⟩
  refine(qw s0).trans ((qw e1).trans ?_)
  refine(qw (Z':=[some (.fz ns),some (.int i),some (.int x),none,none,none]) ?_).trans ?_
  ·push_cast [uO (j:=2) (by decide),hx]
  refine(qw (Z':=[some (.fz ns),some (.int i),some (.int x),some (.int 0),none,none]) ?_).trans ?_
  ·push_cast []
  refine(qw (Z':=[some (.fz ns),some (.int i),some (.int x),some (.int s'),o1,o2]) ?_).trans ?_
  ·rw[qbc,uN (j:=16) (Z1:=[some (.fz ns),some (.int i),some (.int x),some (.int 0),none,none]) rfl (by omega) (by omega)]
   exact q
  ·push_cast [jc (show 1<=1000000 by omega)]
def sk(w v m:Nat):Kd:=((w:Int),(v:Int),some (m:Int))
def qai(x:Kd):Prop:=∃w v m:Nat,x=sk w v m/\0<w/\w<=17000000000000000/\v<=11/\m<=1
theorem qai.ok {x:Kd} (h:qai x):okK x:=by
 obtain⟨w,v,m,rfl,h1,h2,h3,h4⟩:=h
 exact ⟨by show(0:Int)<(w:Int);omega,by show(0:Int)<=(v:Int);omega,λj e=>by
  have e':some (m:Int)=some j:=e
  cases e'
  omega⟩
def pk(c:Bool)(x y:Nat):Nat:=bif c then x else y
theorem qlE:qhy (.int 10) (.int 15)=some (.int 1000000000000000):=by
 have h:qfD 10 15=true:=by decide +kernel
 have e:(10:Int) ^ (15:Int).toNat=1000000000000000:=by decide +kernel
 simp only[qhy,qfk,h,if_true,e]
theorem qio(i:Int):gtD (.int i) (.int 0)=some (.bl (decide (0<i))):=rfl
theorem qbU (f:Int) (hf:f=1\/f=1000000000000000) (j:Int) (hj:0<=j/\j<8) (M:Int) (n:Int) (ks:List Kd) (hl:ks.length<8) (o5 o6:Option D):∃n' k p5 p6,qai k/\(qI (qiw 5 6 (qa (d2 j4 (d2 jq (dv 2) (d2 j4 (ret (.int 1)) (qo qg 0 (qa (ret (.int 9)) (ret []))))) (d2 jq (dv 4) (d2 qiu (dv 2) (ret (.int 1))))) (qa (qo qg 0 (qa (ret (.int 12)) (ret []))) (ret [])))) (uD (ui 3 (jw (qa (dv 5) (qa (dv 6) (qa (qj qcZ (qa (d2 gtD (qo qg 0 (qa (ret (.int 5)) (ret []))) (ret (.int 0))) (ret []))) (ret [])))))))) [some (.lst [.int n]),some (.int M),some (.int f),some (.lst (ks.map kD)),some (.int j),o5,o6]=.ok (.nx [some (.lst [.int n']),some (.int M),some (.int f),some (.lst ((ks++[k]).map kD)),some (.int j),p5,p6]):=by
 let a:=1+n%9
 let n1:=n/9
 let v:=n1%12
 let n2:=n1/12
 let n3:=n2/5
 have ha:1<=a/\a<=9:=by simp only[a];omega
 have hv:0<=v/\v<=11:=by simp only[v];omega
 let w:=f*a+j*(f-1)
 have hw:1<=w/\w<=17000000000000000:=by
  simp only[w]
  rcases hf with rfl|rfl
  ·simp only[Int.one_mul,Int.sub_self,Int.mul_zero,Int.add_zero];omega
  ·omega
 let m:Int:=if 0<n2%5 then 1 else 0
 have ff:z9 f=true:=by rcases hf with rfl|rfl<;>decide
 have fj:z9 j=true:=qaM hj.1 (by omega)
 have em:qcZ [.bl (decide (0<n2%5))]=some (.int m):=by
  simp only[m]
  by_cases h:0<n2%5
  ·rw[decide_eq_true h,if_pos h];rfl
  ·rw[decide_eq_false h,if_neg h];rfl
 have hm:m=0\/m=1:=by simp only[m];split<;>simp
 refine⟨n3,(w,v,some m),some (.int w),some (.int v),⟨w.toNat,v.toNat,m.toNat,?_,by omega,by show w.toNat<=17000000000000000;omega,by omega,by omega⟩,?_⟩
 ·unfold sk
  have e1:((w.toNat:Nat):Int)=w:=by omega
  have e2:((v.toNat:Nat):Int)=v:=by omega
  have e3:((m.toNat:Nat):Int)=m:=by omega
  rw[e1,e2,e3]
 refine(qw (Z':=[some (.lst [.int n2]),some (.int M),some (.int f),some (.lst (ks.map kD)),some (.int j),some (.int w),some (.int v)]) ?_).trans ?_
 ·push_cast [yB (m:=9) (by decide) (by decide),yB (m:=12) (by decide) (by decide),yX,qcB,qbk ff,qbk fj,w,a,v,n1,n2]
 ·push_cast [yB (m:=5) (by decide) (by decide),qio,em,jc (show 3<=1000000 by omega),imm,immL,ybH,lM_,jc (show ks.length+1<=1000000 by omega),yea]
  rfl
theorem wK (f:Int) (hf:f=1\/f=1000000000000000) (M:Int):∀(ds:List D)(n:Int)(ks:List Kd)(o4 o5 o6:Option D),(∀d∈ds,∃j:Int,d=.int j/\0<=j/\j<8)->(∀k∈ks,qai k)->ks.length+ds.length<=8 ->
  ∃(n':Int)(ks':List Kd)(p4 p5 p6:Option D),uh (ql 4) (qI (qiw 5 6 (qa (d2 j4 (d2 jq (dv 2) (d2 j4 (ret (.int 1)) (qo qg 0 (qa (ret (.int 9)) (ret []))))) (d2 jq (dv 4) (d2 qiu (dv 2) (ret (.int 1))))) (qa (qo qg 0 (qa (ret (.int 12)) (ret []))) (ret [])))) (uD (ui 3 (jw (qa (dv 5) (qa (dv 6) (qa (qj qcZ (qa (d2 gtD (qo qg 0 (qa (ret (.int 5)) (ret []))) (ret (.int 0))) (ret []))) (ret [])))))))) ds [some (.lst [.int n]),some (.int M),some (.int f),some (.lst (ks.map kD)),o4,o5,o6]=.ok (.nx [some (.lst [.int n']),some (.int M),some (.int f),some (.lst (ks'.map kD)),p4,p5,p6])/\(∀k∈ks',qai k)/\ks'.length<=8
 | [],n,ks,o4,o5,o6,_,h,hl=>⟨n,ks,o4,o5,o6,rfl,h,by simpa using hl⟩
 | d::ds,n,ks,o4,o5,o6,hd,h,hl=>by
  have hl':ks.length+(ds.length+1)<=8:=hl
  obtain⟨j,rfl,hj⟩:=hd d mS_
  obtain⟨n1,k,p5,p6,gk,e⟩:=qbU f hf j hj M n ks (by omega) o5 o6
  obtain ⟨n',ks',q4,q5,q6,q,g,l⟩:=wK f hf M ds n1 (ks++[k]) (some (.int j)) p5 p6 (λx hx=>hd x (mM _ hx)) (λx hx=>(mA_.mp hx).elim (h x) λhx=>by
   rw[ms_]at hx;subst hx;exact gk) (by rw[lA_,ybe];omega)
  refine⟨n',ks',q4,q5,q6,?_,g,l⟩
  unfold uh
  simp only[ql,ybg,ydp,e]
  exact q
theorem qeN (M:Int) (hM:0<=M/\M<=8) (n:Int):∃(ks:List Kd)(n':Int),zd [.int n] [.int M]=.ok (.tup (ks.map kD),[.int n'])/\(∀k∈ks,qai k)/\ks.length<=8:=by
 obtain⟨fd,hfd,ef⟩:=qcC (ds:=[.int 1,.int 1,.int 1000000000000000]) (k:=n%3) (by omega) (by simp;omega)
 have hf:∃f:Int,fd=.int f/\(f=1\/f=1000000000000000):=by
  simp only[yao,nN_,or_false]at hfd
  rcases hfd with rfl|rfl|rfl
  ·exact⟨_,rfl,.inl rfl⟩
  ·exact⟨_,rfl,.inl rfl⟩
  ·exact⟨_,rfl,.inr rfl⟩
 obtain⟨f,rfl,hf⟩:=hf
 let n1:=n/3
 let n2:=n1/(M+1)
 have hq:=yc8 n1 (show M+1≠0 by omega)
 have hq2:=yco n1 (show 0<M+1 by omega)
 obtain ⟨n',ks,p4,p5,p6,q,g,l⟩:=wK f hf M (qab 0 (n1%(M+1)).toNat) n2 [] none none none (λd hd=>by
  unfold qab at hd
  obtain⟨i,hi,rfl⟩:=mP_.mp hd
  have:=mR_.mp hi
  exact⟨_,rfl,by omega,by omega⟩) (λ_ h=>by cases h) (by rw[qf0];simp;omega)
 refine⟨ks,n',?_,g,l⟩
 unfold zd
 refine qbe (Z:=[some (.lst [.int n']),some (.int M),some (.int f),some (.lst (ks.map kD)),p4,p5,p6]) rfl ?_ rfl
 unfold jD
 refine(qw (Z':=[some (.lst [.int n1]),some (.int M),some (.int f),none,none,none,none]) ?_).trans ?_
 ·push_cast [yB (m:=3) (by decide) (by decide),qlE,jc (show 3<=1000000 by omega),ef,n1]
 refine(qw (Z':=[some (.lst [.int n1]),some (.int M),some (.int f),some (.lst []),none,none,none]) ?_).trans ?_
 ·push_cast [immL,jc (show 0<=1000000 by omega),ybH]
 refine(qw (Z':=[some (.lst [.int n']),some (.int M),some (.int f),some (.lst (ks.map kD)),p4,p5,p6]) ?_).trans ?_
 ·rw[qbc,uN (j:=n1%(M+1)) (Z1:=[some (.lst [.int n2]),some (.int M),some (.int f),some (.lst []),none,none,none]) ?_ (by omega) (by omega)]
  ·exact q
  ·push_cast [yX,yB (m:=M+1) (by omega) (by omega),n2]
 ·push_cast []
theorem jN:RN.contains ("NoLoad":Str)=true:=by decide +kernel
theorem qeO{p:MS}{g:M D}{n i:Nat}{Z Z':Env}{d:D}(h:p Z=.ok (.rt d Z')):wC RN n i p g Z=.ok (.rt d Z'):=by rw[qer,h]
theorem qgO {p:MS} {g:M D} {n i:Nat} {Z Z' Z2:Env} {d v:D} {x:Str} (h:p Z=.exc ⟨x,v⟩ Z') (hn:RN.contains x=true) (hg:g ((yag n none).set i (some (.exc x)))=.ok (d,Z2)):wC RN n i p g Z=.ok (.rt d Z'):=by
 rw[qer,h]
 simp only[hn,if_true,hg]
theorem uR {F:List D->R D} {l:M (List D)} {Z:Env} {ds:List D} {d:D} (hl:l Z=.ok (ds,Z)) (h:F ds=.ok d):jT RN F l Z=.ok (d,Z):=by
 rw[qax,hl]
 simp only[h]
theorem qcJ {F:List D->R D} {l:M (List D)} {Z Z':Env} {ds:List D} {n:Str} (hl:l Z=.ok (ds,Z)) (h:F ds=.exc ⟨n,.non⟩ Z') (hn:RN.contains n=true):jT RN F l Z=.exc ⟨n,.non⟩ Z:=by
 rw[qax,hl]
 simp only[h,hn,if_true]
theorem ntn{t:M Bool}{Z:Env}{b:Bool}(h:t Z=.ok (b,Z)):vB t Z=.ok (!b,Z):=by rw[qgw,h]
theorem qku{f g:M D}{Z:Env}(h:f Z=.ok (.bl false,Z)):qdT f g Z=.ok (.bl false,Z):=by rw[qel,h];rfl
theorem qkv{f g:M D}{Z:Env}(h:f Z=.ok (.bl true,Z)):qdT f g Z=g Z:=by rw[qel,h];rfl
theorem qbV{t u:M Bool}{Z:Env}{b:Bool}(h1:t Z=.ok (false,Z))(h2:u Z=.ok (b,Z)):tor t u Z=.ok (b,Z):=by rw[qfH,h1];exact h2
theorem qkO {Z:Env} {d:D} (i:Nat) (h:dv i Z=.ok (d,Z)) {b:Bool} (e:qao (tyD d) "tuple"=b):vB (tst (wS "tuple" (dv i))) Z=.ok (!b,Z):=by
 have d0:wS "tuple" (dv i) Z=.ok (.bl b,Z):=by
  rw[qek,h]
  simp only[e]
 exact ntn (zf d0)
def lsD(s:List Int):D:=.tup (s.map D.int)
theorem qf8 (xs:List D) (j:Nat):qdt xs (some (j:Int)) none=xs.drop j:=by
 unfold qdt
 rw[HT.sIx_none,HT.sIx_nat,ycD (by simp)]
 by_cases c:j<=xs.length
 ·rw[yc6 c]
 ·rw[ydS (by omega),yeh (by omega),yeh (by omega)]
def qeP:List D:=[.non,.bl true,.bl false,.int (-1),.int 2,.str "",.str "1",.tup [.int 0],.lst [.int 1],.dic [(.inr "a",1)],.tup [.int (-1)],.tup [.bl true],.tup [.tup [.int 1]],.tup [.non],.int 100000000000000000000000000000,.lst []]
theorem qdm:qeP.all (λd=>qf2 d&&dl d)=true:=by decide +kernel
theorem qlF:qhy (.int 10) (.int 29)=some (.int 100000000000000000000000000000):=by
 have h:qfD 10 29=true:=by decide +kernel
 have e:(10:Int) ^ (29:Int).toNat=100000000000000000000000000000:=by decide +kernel
 simp only[qhy,qfk,h,if_true,e]
theorem qlG (n:Int):∃d n',jj [.int n] []=.ok (d,[.int n'])/\vq 130 5 d/\dl d=true:=by
 obtain⟨d,hd,e⟩:=qcC (ds:=qeP) (k:=n%16) (by omega) (by show n%16<16;omega)
 have hn:=List.all_eq_true.mp qdm d hd
 rw[yaj]at hn
 refine⟨d,n/16,?_,qbR hn.1,hn.2⟩
 unfold jj
 refine qbe (Z:=[some (.lst [.int (n/16)]),some (.lst qeP)]) rfl ?_ rfl
 unfold y0
 refine(qw (Z':=[some (.lst [.int n]),some (.lst qeP)]) ?_).trans ?_
 ·push_cast [neg_int,qlF,jc (show 0<=1000000 by omega),jc (show 1<=1000000 by omega),jc (show 16<=1000000 by omega),qeP]
 ·push_cast [yB (m:=16) (by decide) (by decide),e]
theorem qgP{t:Int}(h:0<=t/\t<=2):vq 130 5 (.int t)/\plain (.int t)=true:=⟨(qdk h.1 (by omega)).mono (by omega) (by omega),rfl⟩
theorem qgQ {a b:List Int} {xs:List D} (ha:∀t∈a,0<=t/\t<=2) (hb:∀t∈b,0<=t/\t<=2) (h:∀x∈xs,vq 130 5 x) (hd:dlL xs=true) (hl:a.length+xs.length+b.length<=30):yg (.tup (a.map D.int++xs++b.map D.int))=true:=by
 have ps:∀l:List Int,(∀t∈l,0<=t/\t<=2)->∀d∈l.map D.int,vq 130 5 d/\plain d=true:=λl h d hd=>by
  obtain⟨t,ht,rfl⟩:=mP_.mp hd
  exact qgP (h t ht)
 have nn:vq (30*131) 6 (.tup (a.map D.int++xs++b.map D.int)):=vJ (λd hd=>by
  rcases mA_.mp hd with hd|hd
  ·rcases mA_.mp hd with hd|hd
   ·exact(ps a ha d hd).1
   ·exact h d hd
  ·exact(ps b hb d hd).1) (by rw[lA_,lA_,lM_,lM_];exact hl)
 exact va nn (by omega) (by omega) (qkn (λd hd=>(ps a ha d hd).2) (λd hd=>(ps b hb d hd).2) hd)
theorem qml {s:List Int} (h:∀t∈s,0<=t/\t<=2) (hl:s.length<=30):yg (lsD s)=true:=by
 have:=qgQ (a:=s) (b:=[]) (xs:=[]) h (λp hp=>absurd hp nN_) (λp hp=>absurd hp nN_) rfl (by simpa using hl)
 unfold lsD
 simpa using this
def qf9(d:D):List D:=[.tup [],.tup [.int 3],.tup [.int (-1)],.tup [.bl true],.tup [.non],.tup [.str "1"],.tup [d],.tup [.int 1,.int 1],.tup [.int 2]]
theorem qip {d:D} (hd:vq 130 5 d/\dl d=true) {x:D} (hx:x∈qf9 d):∃xs,x=.tup xs/\(∀y∈xs,vq 130 5 y)/\dlL xs=true/\xs.length<=2:=by
 have one:∀y:D,qf2 y=true->dlL [y]=true->∃xs,D.tup [y]=.tup xs/\(∀y∈xs,vq 130 5 y)/\dlL xs=true/\xs.length<=2:=λy h1 h2=>⟨_,rfl,λz hz=>by rw[ms_.mp hz];exact qbR h1,h2,by simp⟩
 unfold qf9 at hx
 simp only[yao,nN_,or_false]at hx
 rcases hx with rfl|rfl|rfl|rfl|rfl|rfl|rfl|rfl|rfl
 ·exact⟨_,rfl,λy hy=>absurd hy nN_,rfl,by simp⟩
 ·exact one _ (by decide +kernel) rfl
 ·exact one _ (by decide +kernel) rfl
 ·exact one _ (by decide +kernel) rfl
 ·exact one _ (by decide +kernel) rfl
 ·exact one _ (by decide +kernel) rfl
 ·refine⟨_,rfl,λz hz=>by rw[ms_.mp hz];exact hd.1,?_,by simp⟩
  have h2:=hd.2
  unfold dlL
  unfold dl at h2
  simpa [toPDs,yaW,noLs] using h2
 ·refine⟨_,rfl,λz hz=>?_,rfl,by simp⟩
  simp only[yao,nN_,or_false,or_self]at hz
  rw[hz]
  exact qbR (by decide +kernel)
 ·exact one _ (by decide +kernel) rfl
theorem qbo {s:List Int} (hs:∀t∈s,0<=t/\t<=2) (hl:s.length<=8) {d:D} (hd:vq 130 5 d/\dl d=true) (n:Int):∃t n',qz [.int n] [lsD s,d]=.ok (t,[.int n'])/\yg t=true:=by
 obtain ⟨a,ha,hal⟩:∃a:Nat,n%((s.length:Int)+1)=(a:Int)/\a<=s.length:=by
  have h1:0<=n%((s.length:Int)+1):=yc8 _ (by omega)
  have h2:n%((s.length:Int)+1)<(s.length:Int)+1:=yco _ (by omega)
  exact⟨(n%((s.length:Int)+1)).toNat,by omega,by omega⟩
 let n1:=n/((s.length:Int)+1)
 let n2:=n1/11
 let kd:=n1%11
 have k0:0<=kd:=by show 0<=n1%11;omega
 have k1:kd<11:=by show n1%11<11;omega
 let St:Option D:=some (lsD s)
 let Dd:Option D:=some d
 let At:Option D:=some (.int (a:Nat))
 let Nw:Option D:=some (.lst (qf9 d))
 let B1:Option D:=some (.lst [.int n1])
 let B2:Option D:=some (.lst [.int n2])
 let Z0:Env:=[some (.lst [.int n]),St,Dd,none,none,none]
 let Z1:Env:=[B1,St,Dd,At,none,none]
 let Z2:Env:=[B1,St,Dd,At,Nw,none]
 let Z3:Env:=[B2,St,Dd,At,Nw,some (.int kd)]
 have s0:(zb 3 (qo qg 0 (qa (d2 j4 (qj uw (qa (dv 1) (ret []))) (ret (.int 1))) (ret [])))) Z0=.ok (.nx Z1):=by
  have c:(qo qg 0 (qa (d2 j4 (qj uw (qa (dv 1) (ret []))) (ret (.int 1))) (ret []))) Z0=.ok (.int (a:Nat),[B1,St,Dd,none,none,none]):=by
   rw[io1 (i:=0) (Z:=Z0) (ds:=[.int n]) (a:=.int ((s.length:Int)+1)) rfl (qD (zm (a:=lsD s) rfl (by unfold lsD;rw[z5,lM_])) rfl (yX _ _)) (yB (by omega) (by omega)),ha]
   rfl
  rw[vt c]
  rfl
 have s1:(zb 4 (yp (qa (jw (ret [])) (qa (jw (qa (ret (.int 3)) (ret []))) (qa (jw (qa (d1 qhx (ret (.int 1))) (ret []))) (qa (jw (qa (ret (.bl true)) (ret []))) (qa (jw (qa (ret .non) (ret []))) (qa (jw (qa (ret (.str "1")) (ret []))) (qa (jw (qa (dv 2) (ret []))) (qa (jw (qa (ret (.int 1)) (qa (ret (.int 1)) (ret [])))) (qa (jw (qa (ret (.int 2)) (ret []))) (ret [])))))))))))) Z1=.ok (.nx Z2):=by
  push_cast [Z1,Dd,neg_int,jc (show 0<=1000000 by omega),jc (show 1<=1000000 by omega),jc (show 2<=1000000 by omega),jc (show 9<=1000000 by omega)]
  rfl
 have s2:(zb 5 (qo qg 0 (qa (ret (.int 11)) (ret [])))) Z2=.ok (.nx Z3):=vt (io1 (i:=0) (Z:=Z2) (ds:=[.int n1]) (a:=.int 11) rfl rfl (yB (by omega) (by omega)))
 have tk:tst (d2 ltD (dv 5) (ret (.int 9))) Z3=.ok (decide (kd<9),Z3):=zf (qD rfl rfl (qeF _ _))
 have e1:dv 1 Z3=.ok (.tup (s.map D.int),Z3):=rfl
 by_cases ck:kd<9
 ·rw [decide_eq_true ck]at tk
  obtain⟨x,hx,ex⟩:=qcC (ds:=qf9 d) (k:=kd) k0 (by show kd<9;omega)
  obtain⟨xs,rfl,hx1,hx2,hx3⟩:=qip hd hx
  refine⟨.tup ((s.take a).map D.int++xs++(s.drop (a+1)).map D.int),n2,?_,qgQ (λq hq=>hs q (List.mem_of_mem_take hq)) (λq hq=>hs q (List.mem_of_mem_drop hq)) hx1 hx2 (by rw[ybx,ycK];omega)⟩
  unfold qz jW
  refine qbe (Z:=Z3) rfl ?_ rfl
  refine(qw s0).trans ((qw s1).trans ((qw s2).trans (uc ((qgN tk).trans (jr ?_)))))
  have c1:qh2 (dv 1) (ret none) (wX (dv 3)) Z3=.ok (.tup ((s.take a).map D.int),Z3):=by
   have e:wX (dv 3) Z3=.ok (some (a:Int),Z3):=rfl
   rw[qgG]
   simp only[e,e1,qc7,slB,qf6 (s.map D.int) a (by rw[lM_];exact hal),List.map_take]
  have c2:qh2 (dv 1) (wX (d2 j4 (dv 3) (ret (.int 1)))) (ret none) Z3=.ok (.tup ((s.drop (a+1)).map D.int),Z3):=by
   have e0:d2 j4 (dv 3) (ret (.int 1)) Z3=.ok (.int ((a+1:Nat):Int),Z3):=qD rfl rfl rfl
   have e:wX (d2 j4 (dv 3) (ret (.int 1))) Z3=.ok (some ((a+1:Nat):Int),Z3):=by rw[qeo,e0]
   rw[qgG]
   simp only[e,e1,qc7,slB,qf8,List.map_drop]
  exact qD (qD c1 (qD rfl rfl ex) (qcD (by rw[lM_,ybx];omega))) c2 (qcD (by rw[lA_,lM_,lM_,ybx,ycK];omega))
 ·rw [decide_eq_false ck]at tk
  let L2:List D:=[.lst (s.map D.int),.tup [lsD s]]
  obtain⟨x,hx,ex⟩:=qcC (ds:=L2) (k:=kd-9) (by omega) (by show kd-9<2;omega)
  have hn:∀d∈s.map D.int,vq 130 5 d/\plain d=true:=λd hd=>by
   obtain⟨t,ht,rfl⟩:=mP_.mp hd
   exact qgP (hs t ht)
  have hp:=yR _ λd hd=>(hn d hd).2
  refine⟨x,n2,?_,?_⟩
  ·unfold qz jW
   refine qbe (Z:=Z3) rfl ?_ rfl
   refine(qw s0).trans ((qw s1).trans ((qw s2).trans ((qw (Z':=Z3) ((qe4 tk).trans rfl)).trans (jr ?_))))
   have c2:qj qc1 (qa (dv 1) (ret [])) Z3=.ok (.lst (s.map D.int),Z3):=zm e1 (qeJ _)
   have c3:jw (qa (dv 1) (ret [])) Z3=.ok (.tup [lsD s],Z3):=by
    rw[qcf,qaI (a:=lsD s) rfl]
    simp only[lC_,lN_,ycp,sm1,if_true]
   have c:yp (qa (qj qc1 (qa (dv 1) (ret []))) (qa (jw (qa (dv 1) (ret []))) (ret []))) Z3=.ok (.lst L2,Z3):=by
    rw[qbb,j6 c2 c3]
    simp only[lC_,lN_,ycp,yeL,jc (show 2<=1000000 by omega),if_true]
    rfl
   exact qD c (qD rfl rfl (qcB _ _)) ex
  ·simp only[L2,yao,nN_,or_false]at hx
   rcases hx with rfl|rfl
   ·have nn:vq (8*131) 6 (.lst (s.map D.int)):=qf1 (λd hd=>(hn d hd).1) (by rw[lM_];exact hl)
    refine va nn (by omega) (by omega) ?_
    unfold dl
    simp only[zt,yew,hp.1,Bool.not_false,ydY]
   ·have nn:vq (8*131) 6 (lsD s):=vJ (λd hd=>(hn d hd).1) (by rw[lM_];exact hl)
    have nm:vq (1*(8*131+1)) 7 (.tup [lsD s]):=vJ (λd hd=>by rw[ms_.mp hd];exact nn) (by simp)
    refine va nm (by omega) (by omega) ?_
    unfold dl lsD
    simp only[zt,toPDs,yew,yaW,hp.1,Bool.or_false,Bool.not_false,ydY]
def mo(k:Kd):Int:=k.2.2.getD 0
theorem qai.mo {k:Kd} (h:qai k):k.2.2=some (mo k)/\(mo k=0\/mo k=1):=by
 obtain⟨w,v,m,rfl,_,_,_,h4⟩:=h
 refine⟨rfl,?_⟩
 show(m:Int)=0\/(m:Int)=1
 omega
theorem qai.bd {k:Kd} (h:qai k):0<=k.1/\k.1<=17000000000000000/\0<=k.2.1/\k.2.1<=11:=by
 obtain⟨w,v,m,rfl,h1,h2,h3,_⟩:=h
 refine⟨?_,?_,?_,?_⟩
 ·show(0:Int)<=(w:Int);omega
 ·show(w:Int)<=17000000000000000;omega
 ·show(0:Int)<=(v:Int);omega
 ·show(v:Int)<=11;omega
theorem qeQ {k:Kd} (h:qai k):ixD (kD k) (.int 2)=some (.int (mo k)):=by
 rw[qlB,h.mo.1]
 rfl
def qeR(k:Kd)(x:D):Bool:=z6 x&&leI x (.int (2*mo k))
theorem qeS {d:D} (h:z6 d=true):∃n:Int,d=.int n:=by
 cases d<;>first|exact⟨_,rfl⟩|cases h
theorem qeT {d:D} (h:yQ d=true):∃i,d=.int i:=by
 cases d<;>first|exact⟨_,rfl⟩|cases h
theorem qga {k:Kd} (h:qai k):yA [kD k]=.ok (.int (2*mo k)):=by
 have it:yi [kD k]=.ok (.bl (decide (0<mo k))):=by
  unfold yi ve
  let Z:Env:=[some (kD k)]
  refine qbi rfl ⟨Z,jr ?_⟩
  have c1:d2 isN (d2 ixD (dv 0) (ret (.int 2))) (ret .non) Z=.ok (.bl false,Z):=qD (qD rfl rfl (qeQ h)) rfl rfl
  show dor _ _ Z=_
  rw[qjK,c1]
  exact qD (qD rfl rfl (qeQ h)) rfl (uk _ _)
 unfold yA uq
 let Z:Env:=[some (kD k)]
 refine qbi rfl ⟨Z,jr ?_⟩
 have t:tst (qt yi (qa (dv 0) (ret []))) Z=.ok (decide (0<mo k),Z):=zf (qcH rfl it)
 show dif _ _ _ Z=_
 rw[qc8,t]
 rcases h.mo.2 with e|e<;>rw[e]<;>rfl
theorem qkw {k:Kd} (h:qai k) (x:D):yj [kD k,x]=.ok (.bl (qeR k x)):=by
 unfold yj vf
 let Z:Env:=[some (kD k),some x]
 refine qbi rfl ⟨Z,jr ?_⟩
 have c1:qt zR (qa (dv 1) (ret [])) Z=.ok (.bl (z6 x),Z):=qcH (a:=x) rfl (jE x)
 show qdT _ _ Z=_
 unfold qeR
 cases e:z6 x with
 |false=>
  rw[e]at c1
  rw[qku c1]
  rfl
 |true=>
  rw[e]at c1
  obtain⟨n,rfl⟩:=qeS e
  rw[qkv c1]
  exact qD rfl (qcH rfl (qga h)) (wE _ _)
theorem qgR:∀(ks:List Kd)(ts:List D),vn (ks.map kD) ts=(ks.zip ts).map λz=>D.tup [kD z.1,z.2]
 | [],_=>by simp[vn]
 |_::_,[]=>by simp[vn]
 |k::ks,x::l=>by
  rw[mC_,ya5,mC_,<-qgR ks l]
  rfl
theorem qgS:∀(ns:List Int)(ks:List Kd),vn (ns.map D.int) (ks.map kD)=(ns.zip ks).map λz=>D.tup [.int z.1,kD z.2]
 | [],_=>by simp[vn]
 |_::_,[]=>by simp[vn]
 |n::ns,k::ks=>by
  rw[mC_,mC_,ya5,mC_,<-qgS ns ks]
  rfl
def uu (ks:List Kd):D->Bool
 |.tup ts=>decide (ts.length=ks.length)&&(ks.zip ts).all λz=>qeR z.1 z.2
 |_=>false
theorem qeU (a b:Nat):neB (.int (a:Nat)) (.int (b:Nat))=some (.bl (!decide (a=b))):=by
 rw[qbQ]
 congr 2
 rw[ybU]
 simp only[ydE,decide_eq_false_iff_not]
 omega
theorem qbW(ks:List Kd)(ts:List D):uu ks (.tup ts)=(decide (ts.length=ks.length)&&(ks.zip ts).all λz=>qeR z.1 z.2):=rfl
section
variable{ks:List Kd}(hk:∀k∈ks,qai k)(hl:ks.length<=8)
include hk hl
theorem qbX:zp [.tup (ks.map kD)]=.ok .non:=by
 let Z:Env:=[some (.tup (ks.map kD))]
 have g0:qa (dv 0) (ret []) Z=.ok ([.tup (ks.map kD)],Z):=qaI rfl
 have ns:jC [.tup (ks.map kD)]=.ok .non:=by
  unfold jC
  refine qct rfl ⟨Z,?_⟩
  unfold jB
  have c1:qE 1 [] none (yf (dv 0)) (ql 0) (ret true) (d2 inB (d2 ixD (dv 0) (ret (.int 2))) (jw (qa (ret (.int 0)) (qa (ret (.int 1)) (ret []))))) Z=.ok (.lst (ks.map λ_=>D.bl true),Z):=by
   refine qcG (r:=[]) (k:=kD) ks (λ_=>D.bl true) rfl rfl (by omega) λx hx=>?_
   refine qD (qD rfl rfl (qeQ (hk x hx))) (qlA rfl rfl) ?_
   rcases(hk x hx).mo.2 with e|e<;>rw[e]<;>rfl
  have c3:qc4 [.lst (ks.map λ_=>D.bl true)]=some (.bl true):=by
   have:=vK (as:=ks) (f:=λ_=>true)
   rw[this]
   congr 2
   exact List.all_eq_true.mpr λ_ _=>rfl
  exact qe4 (ntn (zf (zm c1 c3)))
 unfold zp
 refine qct rfl ⟨Z,?_⟩
 unfold z7
 refine(qw (Z':=Z) (wF (uR g0 (qaL _ (qdl (λk h=>(hk k h).ok) (by omega)))))).trans ((qw (Z':=Z) (wF (uR g0 ns))).trans ?_)
 have c:d2 gtD (qj uw (qa (dv 0) (ret []))) (ret (.int 8)) Z=.ok (.bl false,Z):=qD (zm (a:=.tup (ks.map kD)) (d:=.int (ks.length:Nat)) rfl (by rw[z5,lM_])) rfl (by rw[uk,decide_eq_false (by omega)])
 exact(qe4 (zf c)).trans rfl
theorem wL (t:D):zq [t,.tup (ks.map kD)]=.ok (.bl (uu ks t)):=by
 let Z:Env:=[some t,some (.tup (ks.map kD))]
 have g1:qa (dv 1) (ret []) Z=.ok ([.tup (ks.map kD)],Z):=qaI rfl
 have s0:(uD (jT RN zp (qa (dv 1) (ret [])))) Z=.ok (.nx Z):=wF (uR g1 (qbX hk hl))
 unfold zq uQ
 refine qhX rfl ⟨Z,(qw s0).trans ?_⟩
 cases t with
 | tup ts=>
  have t1:=qkO (Z:=Z) (d:=.tup ts) 0 rfl (u8 ts)
  have t2:tst (d2 neB (qj uw (qa (dv 0) (ret []))) (qj uw (qa (dv 1) (ret [])))) Z=.ok (!decide (ts.length=ks.length),Z):=zf (qD (zm (a:=.tup ts) rfl (z5 ts)) (zm (a:=.tup (ks.map kD)) rfl (by rw[z5,lM_])) (qeU _ _))
  rw[qbW]
  by_cases c:ts.length=ks.length
  ·rw [decide_eq_true c]at t2
   refine(qw (Z':=Z) ((qe4 (qbV t1 t2)).trans rfl)).trans (jr ?_)
   have c1:=vb (e:=qt yj (qa (dv 0) (qa (dv 1) (ret [])))) (t:=ret true) (xs:=qee (qa (dv 1) (qa (dv 0) (ret [])))) (fr:=[]) (Z:=Z) (r:=[]) (u:=λz:Kd×D=>kD z.1) (v:=λz=>z.2) (ks.zip ts) (λ_=>true) (λz=>D.bl (qeR z.1 z.2)) (by
    rw[qbd,j6 (a:=.tup (ks.map kD)) (b:=.tup ts) rfl rfl]
    simp only[qc6,qgR]) rfl (by rw[ybo];omega) (λ_ _=>rfl) (λz hz _=>qgM rfl rfl (qkw (hk z.1 (ybD (show(z.1,z.2)∈ks.zip ts from hz)).1) z.2))
   rw[ul]at c1
   rw[decide_eq_true c,ybu]
   exact zm c1 vK
  ·rw[decide_eq_false c]at t2
   rw[decide_eq_false c,yb1]
   exact uc ((qgN (qbV t1 t2)).trans (jr rfl))
 |_=>exact uc ((qgN (qlD (qkO (Z:=Z) 0 rfl (b:=false) (by first|decide|rfl)))).trans (jr rfl))
end
theorem qaN:∀ts:List D,ts.all yQ=true->∃ns:List Int,ts=ns.map D.int
 | [],_=>⟨[],rfl⟩
 |t::ts,h=>by
  rw[ybt,yaj]at h
  obtain⟨ns,rfl⟩:=qaN ts h.2
  obtain⟨i,rfl⟩:=qeT h.1
  exact⟨i::ns,rfl⟩
theorem qlH(k:Kd)(n:Int):qeR k (.int n)=(decide (0<=n)&&decide (n<=2*mo k)):=rfl
theorem qcK:∀(ns:List Int)(ks:List Kd),(ns.zip ks).all (λz=>decide (0<=z.1)&&decide (z.1<=2*mo z.2))=(ks.zip (ns.map D.int)).all λz=>qeR z.1 z.2
 | [],ks=>by simp
 |_::_,[]=>by simp
 |n::ns,k::ks=>by
  rw[ya5,mC_,ya5,ybt,ybt,qcK ns ks,qlH]
theorem wM:∀(ks:List Kd)(ts:List D),ts.length=ks.length->ts.all yQ=false->((ks.zip ts).all λz=>qeR z.1 z.2)=false
 | [],[],_,h=>by cases h
 | [],_::_,h,_=>by cases h
 |_::_,[],h,_=>by cases h
 | k :: ks,t::ts,hl,h=>by
  rw[ya5,ybt]
  rw[ybt,Bool.and_eq_false_iff]at h
  rcases h with h|h
  ·have:qeR k t=false:=by
    unfold qeR
    have:z6 t=false:=by
     cases t<;>first|rfl|cases h
    rw[this]
    rfl
   show(qeR k t&&_)=false
   rw[this]
   rfl
  ·rw[wM ks ts (by simpa using hl) h,Bool.and_false]
section
variable{ks:List Kd}(hk:∀k∈ks,qai k)(hl:ks.length<=8)
include hk hl
theorem qgb (t:D):zE [t,.tup (ks.map kD)]=.ok (.bl (uu ks t)):=by
 let Z:Env:=[some t,some (.tup (ks.map kD))]
 unfold zE wH
 refine qbi rfl ⟨Z,?_⟩
 cases t with
 | tup ts=>
  have t1:=qkO (Z:=Z) (d:=.tup ts) 0 rfl (u8 ts)
  have t2:tst (d2 neB (qj uw (qa (dv 0) (ret []))) (qj uw (qa (dv 1) (ret [])))) Z=.ok (!decide (ts.length=ks.length),Z):=zf (qD (zm (a:=.tup ts) rfl (z5 ts)) (zm (a:=.tup (ks.map kD)) rfl (by rw[z5,lM_])) (qeU _ _))
  rw[qbW]
  by_cases c:ts.length=ks.length
  ·rw [decide_eq_true c]at t2
   rw[decide_eq_true c,ybu]
   have cw:=qcG (e:=qt jv (qa (dv 0) (ret []))) (xs:=yf (dv 0)) (fr:=[]) (Z:=Z) (r:=[]) (k:=λd:D=>d) ts (λd=>D.bl (yQ d)) (by rw[List.map_id'];rfl) rfl (by omega) λd _=>qcH rfl (wJ d)
   have t3:=ntn (zf (zm cw vK))
   cases ew:ts.all yQ with
   |false=>
    rw[ew]at t3
    rw[wM ks ts c ew]
    exact uc ((qgN (qbV t1 (qbV t2 t3))).trans (jr rfl))
   | true=>
    rw[ew]at t3
    obtain⟨ns,rfl⟩:=qaN ts ew
    refine(qw (Z':=Z) ((qe4 (qbV t1 (qbV t2 t3))).trans rfl)).trans (jr ?_)
    have c1:=vb (e:=vp leD leD (ret (.int 0)) (dv 0) (d2 jq (ret (.int 2)) (d2 ixD (dv 1) (ret (.int 2))))) (t:=ret true) (xs:=qee (qa (dv 0) (qa (dv 1) (ret [])))) (fr:=[]) (Z:=Z) (r:=[]) (u:=λz:Int×Kd=>D.int z.1) (v:=λz=>kD z.2) (ns.zip ks) (λ_=>true) (λz=>D.bl (decide (0<=z.1)&&decide (z.1<=2*mo z.2))) (by
     rw[qbd,j6 (a:=.tup (ns.map D.int)) (b:=.tup (ks.map kD)) rfl rfl]
     simp only[qc6,qgS]) rfl (by rw[ybo];omega) (λ_ _=>rfl) (λz hz _=>by
      have gk:=hk z.2 (ybD (show(z.1,z.2)∈ns.zip ks from hz)).2
      let σ:Env:=[some (.int z.1),some (kD z.2)]
      have m2:d2 jq (ret (.int 2)) (d2 ixD (dv 1) (ret (.int 2))) σ=.ok (.int (2*mo z.2),σ):=qD rfl (qD rfl rfl (qeQ gk)) (qbk (by decide))
      by_cases q:0<=z.1
      ·rw[decide_eq_true q,ybu]
       exact qfW (Z:=σ) rfl rfl (by rw[wE,decide_eq_true q]) m2 (wE _ _)
      ·rw[decide_eq_false q,yb1]
       exact qeA (Z:=σ) rfl rfl (by rw[wE,decide_eq_false q]))
    rw[ul]at c1
    have:=zm c1 vK
    rw[qcK]at this
    exact this
  ·rw[decide_eq_false c]at t2
   rw[decide_eq_false c,yb1]
   exact uc ((qgN (qbV t1 (qlD t2))).trans (jr rfl))
 |_=>exact uc ((qgN (qlD (qkO (Z:=Z) 0 rfl (b:=false) (by first|decide|rfl)))).trans (jr rfl))
end
theorem qgT{f:M D}{Z Z':Env}{x:Exn}(h:f Z=.exc x Z'):uD f Z=.exc x Z':=by rw[qbF,h]
theorem qkx{f:M D}{Z Z':Env}{x:Exn}(h:f Z=.exc x Z'):jk f Z=.exc x Z':=by rw[qcg,h]
theorem qlI{t:M Bool}{f g:M D}{Z:Env}(h:t Z=.ok (true,Z)):dif t f g Z=f Z:=by rw[qc8,h];rfl
theorem qlJ{t:M Bool}{f g:M D}{Z:Env}(h:t Z=.ok (false,Z)):dif t f g Z=g Z:=by rw[qc8,h];rfl
def wtS(p:Int)(zs:List (Kd×Int)):Int:=((zs.filter λz=>decide (z.2=p)).map λz=>z.1.1).sum
def gnS(zs:List (Kd×Int)):Int:=((zs.filter λz=>decide (0<z.2)).map λz=>z.1.2.1).sum
def pD(z:Kd×Int):D:=.tup [kD z.1,.int z.2]
theorem qcL:∀(ks:List Kd)(ns:List Int),vn (ks.map kD) (ns.map D.int)=(ks.zip ns).map pD
 | [],_=>by simp[vn]
 |_::_,[]=>by simp[vn]
 |k::ks,x::l=>by
  rw[mC_,mC_,ya5,mC_,<-qcL ks l]
  rfl
theorem qeV {α:Type} {f:α->Int} {B:Int} (hB:0<=B):∀l:List α,(∀x∈l,0<=f x/\f x<=B)->0<=(l.map f).sum/\(l.map f).sum<=B*(l.length:Int)
 | [],_=>by simp
 |a::l,h=>by
  obtain⟨i1,i2⟩:=qeV hB l λx hx=>h x (mM _ hx)
  have:=h a mS_
  rw[mC_,List.sum_cons,lC_,Int.natCast_succ,Int.mul_add,yfq]
  omega
theorem qky {ks:List Kd} {x:D} (h:uu ks x=true):∃ns:List Int,x=lsD ns/\ns.length=ks.length:=by
 cases x with
 | tup ts=>
  rw[qbW,yaj,decide_eq_true_eq]at h
  cases ew:ts.all yQ with
  |false=>
   rw[wM ks ts h.1 ew]at h
   cases h.2
  |true=>
   obtain⟨ns,rfl⟩:=qaN ts ew
   exact⟨ns,rfl,by simpa using h.1⟩
 |_=>cases h
section
variable{ks:List Kd}(hk:∀k∈ks,qai k)(hl:ks.length<=8)
include hk hl
theorem qeW (ns:List Int) (p:Int):(0<=wtS p (ks.zip ns)/\wtS p (ks.zip ns)<=200000000000000000)/\0<=gnS (ks.zip ns)/\gnS (ks.zip ns)<=1000:=by
 have fl:∀q:Kd×Int->Bool,(((ks.zip ns).filter q).length:Int)<=8:=λq=>by
  have h1:=List.length_filter_le q (ks.zip ns)
  have h2:(ks.zip ns).length<=ks.length:=by rw[ybo];omega
  omega
 have gd:∀z∈ks.zip ns,qai z.1:=λz hz=>hk z.1 (ybD (show(z.1,z.2)∈ks.zip ns from hz)).1
 have b1:=qeV (f:=λz:Kd×Int=>z.1.1) (B:=17000000000000000) (by omega) ((ks.zip ns).filter λz=>decide (z.2=p)) λz hz=>by
  have:=(gd z (List.mem_filter.mp hz).1).bd
  exact⟨this.1,this.2.1⟩
 have b2:=qeV (f:=λz:Kd×Int=>z.1.2.1) (B:=11) (by omega) ((ks.zip ns).filter λz=>decide (0<z.2)) λz hz=>by
  have:=(gd z (List.mem_filter.mp hz).1).bd
  exact⟨this.2.2.1,this.2.2.2⟩
 have l1:=fl λz=>decide (z.2=p)
 have l2:=fl λz=>decide (0<z.2)
 unfold wtS gnS
 refine⟨⟨b1.1,Int.le_trans b1.2 ?_⟩,b2.1,Int.le_trans b2.2 ?_⟩<;>omega
theorem wN (ns:List Int) (p:Int):jX [.tup (ks.map kD),lsD ns,.int p]=.ok (.int (wtS p (ks.zip ns))):=by
 unfold jX uo
 let Z:Env:=[some (.tup (ks.map kD)),some (lsD ns),some (.int p)]
 refine qbi rfl ⟨Z,jr ?_⟩
 have c1:=vb (e:=d2 ixD (dv 0) (ret (.int 0))) (t:=tst (d2 eqB (dv 1) (dv 2))) (xs:=qee (qa (dv 0) (qa (dv 1) (ret [])))) (fr:=[2]) (Z:=Z) (r:=[some (.int p)]) (u:=λz:Kd×Int=>kD z.1) (v:=λz=>D.int z.2) (ks.zip ns) (λz=>decide (z.2=p)) (λz=>D.int z.1.1) (by
  rw[qbd,j6 (a:=.tup (ks.map kD)) (b:=.tup (ns.map D.int)) rfl rfl]
  simp only[qc6,qcL]
  rfl) rfl (by rw[ybo];omega) (λz _=>zf (qD rfl rfl (yy _ _))) (λz _ _=>qD rfl rfl (qkp z.1))
 exact zm c1 vL
theorem wO {t:D} (h:uu ks t=true):zM [.tup (ks.map kD),t]=.ok .non:=by
 let Z:Env:=[some (.tup (ks.map kD)),some t]
 unfold zM
 refine qct rfl ⟨Z,?_⟩
 unfold jY
 have e:=wL hk hl t
 rw[h]at e
 exact qe4 (ntn (zf (uR (Z:=Z) (j6 rfl rfl) e)))
theorem wP {t:D} (h:uu ks t=false):zM [.tup (ks.map kD),t]=.exc ⟨"NoLoad",.non⟩ [some (.tup (ks.map kD)),some t]:=by
 let Z:Env:=[some (.tup (ks.map kD)),some t]
 unfold zM
 refine qes rfl ?_
 unfold jY
 have e:=wL hk hl t
 rw[h]at e
 show sif _ _ _ Z=_
 rw[qgN (ntn (zf (uR (Z:=Z) (j6 rfl rfl) e)))]
 push_cast [sm1]
 rfl
theorem qeX {ns:List Int} (h:uu ks (lsD ns)=true):zg [.tup (ks.map kD),lsD ns]=.ok (.tup [.int (wtS 1 (ks.zip ns)),.int (wtS 2 (ks.zip ns))]):=by
 unfold zg zD
 let Z:Env:=[some (.tup (ks.map kD)),some (lsD ns)]
 exact qhX rfl ⟨Z,(qw (Z':=Z) (wF (uR (j6 rfl rfl) (wO hk hl h)))).trans (jr (qlA (qbm rfl rfl rfl (wN hk hl ns 1)) (qbm rfl rfl rfl (wN hk hl ns 2))))⟩
theorem qiq {ns:List Int} (h:uu ks (lsD ns)=true):zS [.tup (ks.map kD),lsD ns]=.ok (.int (gnS (ks.zip ns))):=by
 unfold zS ju
 let Z:Env:=[some (.tup (ks.map kD)),some (lsD ns)]
 refine qhX rfl ⟨Z,(qw (Z':=Z) (wF (uR (j6 rfl rfl) (wO hk hl h)))).trans (jr ?_)⟩
 have c1:=vb (e:=d2 ixD (dv 0) (ret (.int 1))) (t:=tst (d2 gtD (dv 1) (ret (.int 0)))) (xs:=qee (qa (dv 0) (qa (dv 1) (ret [])))) (fr:=[]) (Z:=Z) (r:=[]) (u:=λz:Kd×Int=>kD z.1) (v:=λz=>D.int z.2) (ks.zip ns) (λz=>decide (0<z.2)) (λz=>D.int z.1.2.1) (by
  rw[qbd,j6 (a:=.tup (ks.map kD)) (b:=.tup (ns.map D.int)) rfl rfl]
  simp only[qc6,qcL]
  rfl) rfl (by rw[ybo];omega) (λz _=>zf (qD rfl rfl (uk _ _))) (λz _ _=>qD rfl rfl (qkq z.1))
 exact zm c1 vL
end
def qeY:D:=.lst [.str "refused",.int 2]
theorem qmm:(d2 j4 (yp (qa (ret (.str "refused")) (ret []))) (qE 1 [3] none (z8 (qa (ret (.int 9)) (ret []))) (ql 0) (tst (qt ut (qa (dv 1) (qa (dv 0) (ret []))))) (dv 0))) [none,none,none,some (.exc "NoLoad")]=.ok (qeY,[none,none,none,some (.exc "NoLoad")]):=by kernel_rfl
section
variable{ks:List Kd}(hk:∀k∈ks,qai k)(hl:ks.length<=8)
include hk hl
theorem qkz {ns:List Int} (h:uu ks (lsD ns)=true):qh [.int 0,.tup (ks.map kD),lsD ns]=.ok (.tup [.int (wtS 1 (ks.zip ns)),.int (wtS 2 (ks.zip ns))]):=by
 unfold qh ji
 let Z:Env:=[some (.int 0),some (.tup (ks.map kD)),some (lsD ns),none]
 refine qbi rfl ⟨Z,qeO (jr ?_)⟩
 show dif _ _ _ Z=_
 rw[qc8,zf (qD (Z:=Z) rfl rfl (yy 0 0))]
 exact uR (j6 rfl rfl) (qeX hk hl h)
theorem qkA {ns:List Int} (h:uu ks (lsD ns)=true):qh [.int 1,.tup (ks.map kD),lsD ns]=.ok (.int (gnS (ks.zip ns))):=by
 unfold qh ji
 let Z:Env:=[some (.int 1),some (.tup (ks.map kD)),some (lsD ns),none]
 refine qbi rfl ⟨Z,qeO (jr ?_)⟩
 show dif _ _ _ Z=_
 rw[qc8,zf (qD (Z:=Z) rfl rfl (yy 1 0))]
 exact uR (j6 rfl rfl) (qiq hk hl h)
theorem qkB {t:D} (h:uu ks t=false):∀j:Nat,j<2->qh [.int (j:Nat),.tup (ks.map kD),t]=.ok qeY:=by
 have w:∀F:List D->R D,(F=zg\/F=zS)->∃Zx,F [.tup (ks.map kD),t]=.exc ⟨"NoLoad",.non⟩ Zx:=λF hF=>by
  let Z:Env:=[some (.tup (ks.map kD)),some t]
  rcases hF with rfl|rfl
  ·refine⟨Z,?_⟩
   unfold zg
   refine qes rfl ?_
   unfold zD
   exact qgD (qgT (qcJ (Z:=Z) (j6 rfl rfl) (wP hk hl h) jN))
  ·refine⟨Z,?_⟩
   unfold zS
   refine qes rfl ?_
   unfold ju
   exact qgD (qgT (qcJ (Z:=Z) (j6 rfl rfl) (wP hk hl h) jN))
 obtain⟨Z1,e1⟩:=w _ (.inl rfl)
 obtain⟨Z2,e2⟩:=w _ (.inr rfl)
 intro j hj
 have:j=0\/j=1:=by omega
 rcases this with rfl|rfl
 ·show qh [.int 0,.tup (ks.map kD),t]=_
  unfold qh ji
  let Z:Env:=[some (.int 0),some (.tup (ks.map kD)),some t,none]
  refine qbi rfl ⟨Z,qgO (x:="NoLoad") (v:=.non) (Z':=Z) ?_ jN qmm⟩
  exact qkx ((qlI (zf (qD (Z:=Z) rfl rfl (yy 0 0)))).trans (qcJ (Z:=Z) (j6 rfl rfl) e1 jN))
 ·show qh [.int 1,.tup (ks.map kD),t]=_
  unfold qh ji
  let Z:Env:=[some (.int 1),some (.tup (ks.map kD)),some t,none]
  refine qbi rfl ⟨Z,qgO (x:="NoLoad") (v:=.non) (Z':=Z) ?_ jN qmm⟩
  exact qkx ((qlJ (zf (qD (Z:=Z) rfl rfl (yy 1 0)))).trans (qcJ (Z:=Z) (j6 rfl rfl) e2 jN))
end
theorem qbp:∀(ks:List Kd)(n:Int)(acc:List Int)(o:Option D),(∀k∈ks,qai k)->acc.length+ks.length<=100->∃n' l o',qG (ql 0) (ret true) (d2 jq (qo qg 1 (qa (ret (.int 3)) (ret []))) (d2 ixD (dv 0) (ret (.int 2)))) (ks.map kD) (acc.map D.int) [o,some (.lst [.int n])]=.ok ((acc++l).map D.int,[o',some (.lst [.int n'])])/\l.length=ks.length/\∀t∈l,0<=t/\t<=2
 | [],n,acc,o,_,_=>⟨n,[],o,by rw[ya4];rfl,rfl,λt ht=>absurd ht nN_⟩
 | k :: ks,n,acc,o,h,hl=>by
  rw[lC_]at hl
  have gk:=h k mS_
  obtain⟨n',l,o',q,hq,h01⟩:=qbp ks (n/3) (acc++[n%3*mo k]) (some (kD k)) (λx hx=>h x (mM _ hx)) (by rw[lA_,ybe];omega)
  refine⟨n',n%3*mo k::l,o',?_,by rw[lC_,lC_,hq],λt ht'=>?_⟩
  ·have tk:qo qg 1 (qa (ret (.int 3)) (ret [])) [some (kD k),some (.lst [.int n])]=.ok (.int (n%3),[some (kD k),some (.lst [.int (n/3)])]):=io1 (i:=1) (a:=.int 3) rfl rfl (yB (by omega) (by omega))
   have ml:jq (.int (n%3)) (.int (mo k))=some (.int (n%3*mo k)):=qbk (qil (by omega) (by omega))
   have e:d2 jq (qo qg 1 (qa (ret (.int 3)) (ret []))) (d2 ixD (dv 0) (ret (.int 2))) [some (kD k),some (.lst [.int n])]=.ok (.int (n%3*mo k),[some (kD k),some (.lst [.int (n/3)])]):=by
    rw[qkK,tk]
    have e2:d2 ixD (dv 0) (ret (.int 2)) [some (kD k),some (.lst [.int (n/3)])]=.ok (.int (mo k),[some (kD k),some (.lst [.int (n/3)])]):=qD rfl rfl (qeQ gk)
    simp only[e2,ml]
   rw[mC_]
   unfold qG
   simp only[ql,ybg,qc7,e,lM_,jc (show acc.length+1<=1000000 by omega),if_true]
   rw[yea,yea]at q
   simp only[mC_,yc0]at q
   rw[q]
   simp
  ·rcases List.mem_cons.mp ht' with rfl|ht'
   ·rcases gk.mo.2 with e|e<;>rw[e]<;>omega
   ·exact h01 t ht'
theorem qkC (n:Nat):(yag n [D.int 0]).flatten=(yag n (0:Int)).map D.int:=by
 induction n with
 |zero=>rfl
 |succ n ih=>rw[rS_,ybr,ih,rS_,mC_];rfl
theorem qmS (n:Nat) (h:n<=8):qe3 (.tup [.int 0]) (.int (n:Nat))=some (lsD (yag n 0)):=by
 match n with
 |0=>rfl
 |1=>rfl
 |n+2=>
  have h1:¬(((n+2:Nat):Int)=0):=by omega
  have h2:¬(((n+2:Nat):Int)=1):=by omega
  have e1:([D.int 0]:List D).isEmpty=false:=rfl
  have e2:decide (2<=((n+2:Nat):Int))=true:=decide_eq_true (by omega)
  have e3:qC (([D.int 0]:List D).length*((n+2:Nat):Int).toNat)=true:=jc (by show 1*((n+2:Nat):Int).toNat<=1000000;omega)
  show(if([D.int 0]:List D).isEmpty then none else if((n+2:Nat):Int)=0 then some (.tup [])else if((n+2:Nat):Int)=1 then some (.tup [.int 0])else jq (.tup [.int 0]) (.int ((n+2:Nat):Int)))=_
  rw[if_neg (by rw[e1];simp),if_neg h1,if_neg h2]
  show(if(!([D.int 0]:List D).isEmpty&&decide (2<=((n+2:Nat):Int)))&&qC (([D.int 0]:List D).length*((n+2:Nat):Int).toNat)then some (D.tup (yag ((n+2:Nat):Int).toNat [.int 0]).flatten)else none)=_
  rw[e1,e2,e3,ybq,qkC]
  rfl
theorem qir{d:D}(h:yg d=true):qL [d]=some (.str (zt d).shown):=by simp only[qL,h,if_true]
theorem qlK(b:Bool):neB (.bl b) (.bl b)=some (.bl false):=by cases b<;>rfl
theorem qlL:neB (.lst (yag 2 qeY)) (.lst [qeY,qeY])=some (.bl false):=by kernel_rfl
theorem qis (Z:Env):d2 jq (yp (qa (yp (qa (ret (.str "refused")) (qa (ret (.int 2)) (ret [])))) (ret []))) (ret (.int 2)) Z=.ok (.lst [qeY,qeY],Z):=by
 have l1:yp (qa (ret (.str "refused")) (qa (ret (.int 2)) (ret []))) Z=.ok (qeY,Z):=by
  rw[qbb,j6 rfl rfl]
  simp only[lC_,lN_,ycp,yeL,jc (show 2<=1000000 by omega),if_true]
  rfl
 refine qD (a:=.lst [qeY]) (by rw[qbb,qaI l1];simp only[lC_,lN_,ycp,sm1,if_true]) rfl ?_
 have h1:decide (-(2 ^ 62:Int)<=(2:Int))=true:=decide_eq_true (by omega)
 have h2:decide ((2:Int)<2 ^ 62)=true:=decide_eq_true (by omega)
 have h3:qC (([qeY]:List D).length*(2:Int).toNat)=true:=jc (by show 1*2<=1000000;omega)
 simp only[jq,h1,h2,h3,ybH,if_true]
 rfl
section
variable{ks:List Kd}(hk:∀k∈ks,qai k)(hl:ks.length<=8)
include hk hl
theorem qdn (S I B St Od:Option D) {x:D} (hx:yg x=true) (o7 o8 o9 o10 o11 o12:Option D):∃p7 p8 p9 p10 p11 p12,(qI (zb 7 (qj qL (qa (dv 6) (ret [])))) (qI (zb 8 (qt zE (qa (dv 6) (qa (dv 3) (ret []))))) (qI (zb 9 (yP zq (qa (dv 6) (qa (dv 3) (ret []))))) (qI (sif (tor (vB (tst (wS "bool" (dv 9)))) (tor (tst (d2 neB (dv 9) (dv 8))) (tst (d2 neB (qj qL (qa (dv 6) (ret []))) (dv 7))))) (jk (ret (.bl false))) yE) (sif (tst (dv 8)) (qI (zb 10 (qaE (qa (dv 3) (qa (dv 6) (ret []))))) (qI (zb 11 (qj ye (qa (qE 1 [10] none (yf (jw (qa (ret (.int 1)) (qa (ret (.int 2)) (ret []))))) (ql 0) (ret true) (qj qaq (qa (qE 2 [0] none (yf (dv 1)) (v4 2 (qO (ql 0) (qO (ql 1) v3))) (tst (d2 eqB (dv 1) (dv 2))) (d2 ixD (dv 0) (ret (.int 0)))) (ret [])))) (ret [])))) (qI (zb 12 (qj qaq (qa (qE 2 [] none (yf (dv 10)) (v4 2 (qO (ql 0) (qO (ql 1) v3))) (tst (d2 gtD (dv 1) (ret (.int 0)))) (d2 ixD (dv 0) (ret (.int 1)))) (ret [])))) (sif (tor (tst (d2 neB (qj qL (qa (qt qh (qa (ret (.int 0)) (qa (dv 3) (qa (dv 6) (ret []))))) (ret []))) (qj qL (qa (dv 11) (ret []))))) (tst (d2 neB (qj qL (qa (qt qh (qa (ret (.int 1)) (qa (dv 3) (qa (dv 6) (ret []))))) (ret []))) (qj qL (qa (dv 12) (ret [])))))) (jk (ret (.bl false))) yE)))) (sif (tst (d2 neB (qE 1 [3,6] none (z8 (qa (ret (.int 2)) (ret []))) (ql 0) (ret true) (qt qh (qa (dv 0) (qa (dv 1) (qa (dv 2) (ret [])))))) (d2 jq (yp (qa (yp (qa (ret (.str "refused")) (qa (ret (.int 2)) (ret [])))) (ret []))) (ret (.int 2))))) (jk (ret (.bl false))) yE)))))) [S,I,B,some (.tup (ks.map kD)),St,Od,some x,o7,o8,o9,o10,o11,o12]=.ok (.nx [S,I,B,some (.tup (ks.map kD)),St,Od,some x,p7,p8,p9,p10,p11,p12]):=by
 have rx:=qir hx
 let b:=uu ks x
 let K:Option D:=some (.tup (ks.map kD))
 let He:Option D:=some (.str (zt x).shown)
 let Bb:Option D:=some (.bl b)
 let Z0:Env:=[S,I,B,K,St,Od,some x,o7,o8,o9,o10,o11,o12]
 let Z1:Env:=[S,I,B,K,St,Od,some x,He,o8,o9,o10,o11,o12]
 let Z2:Env:=[S,I,B,K,St,Od,some x,He,Bb,o9,o10,o11,o12]
 let Z3:Env:=[S,I,B,K,St,Od,some x,He,Bb,Bb,o10,o11,o12]
 have s0:(zb 7 (qj qL (qa (dv 6) (ret [])))) Z0=.ok (.nx Z1):=vt (Z1:=Z0) (zm (a:=x) rfl rx)
 have s1:(zb 8 (qt zE (qa (dv 6) (qa (dv 3) (ret []))))) Z1=.ok (.nx Z2):=vt (Z1:=Z1) (qgM rfl rfl (qgb hk hl x))
 have s2:(zb 9 (yP zq (qa (dv 6) (qa (dv 3) (ret []))))) Z2=.ok (.nx Z3):=by
  refine vt (Z1:=Z2) ?_
  rw[qcs,j6 (a:=x) (b:=.tup (ks.map kD)) rfl rfl]
  simp only[wL hk hl x]
  rfl
 have tb:vB (tst (wS "bool" (dv 9))) Z3=.ok (false,Z3):=by
  have d0:wS "bool" (dv 9) Z3=.ok (.bl true,Z3):=by
   rw[qek]
   have:dv 9 Z3=.ok (.bl b,Z3):=rfl
   rw[this]
   have:qao (tyD (.bl b)) "bool"=true:=by cases b<;>rfl
   simp only[this]
  rw[ntn (zf d0)]
  rfl
 have s3:(sif (tor (vB (tst (wS "bool" (dv 9)))) (tor (tst (d2 neB (dv 9) (dv 8))) (tst (d2 neB (qj qL (qa (dv 6) (ret []))) (dv 7))))) (jk (ret (.bl false))) yE) Z3=.ok (.nx Z3):=(qe4 (qlC tb (qlC (zf (qD rfl rfl (qlK b))) (zf (qD (zm (a:=x) rfl rx) rfl (qbS _)))))).trans rfl
 have t8:tst (dv 8) Z3=.ok (b,Z3):=zf rfl
 cases eb:b with
 | true=>
  obtain⟨ns,en,hn⟩:=qky (show uu ks x=true from eb)
  rw[eb]at t8
  have hst:uu ks (lsD ns)=true:=by rw[<-en];exact eb
  obtain⟨⟨w1,w2⟩,g1,g2⟩:=qeW hk hl ns 1
  obtain⟨⟨w3,w4⟩,_,_⟩:=qeW hk hl ns 2
  let Pa:Option D:=some (.lst ((ks.zip ns).map pD))
  let Bo:Option D:=some (.tup [.int (wtS 1 (ks.zip ns)),.int (wtS 2 (ks.zip ns))])
  let De:Option D:=some (.int (gnS (ks.zip ns)))
  let Z4:Env:=[S,I,B,K,St,Od,some x,He,Bb,Bb,Pa,o11,o12]
  let Z5:Env:=[S,I,B,K,St,Od,some x,He,Bb,Bb,Pa,Bo,o12]
  let Z6:Env:=[S,I,B,K,St,Od,some x,He,Bb,Bb,Pa,Bo,De]
  refine⟨He,Bb,Bb,Pa,Bo,De,?_⟩
  refine(qw s0).trans ((qw s1).trans ((qw s2).trans ((qw s3).trans ((qgN t8).trans ?_))))
  have v6:dv 6 Z3=.ok (.tup (ns.map D.int),Z3):=by
   show R.ok (x,Z3)=_
   rw[en]
   rfl
  refine(qw (Z':=Z4) (vt (Z1:=Z3) (qid (j6 (a:=.tup (ks.map kD)) rfl v6) (show qc6 [.tup (ks.map kD),.tup (ns.map D.int)]=some ((ks.zip ns).map pD) by show some (vn _ _)=_;rw[qcL]) (by rw[lM_,ybo];omega)))).trans ?_
  refine(qw (Z':=Z5) ?_).trans ?_
  ·have co:=qcG (e:=qj qaq (qa (qE 2 [0] none (yf (dv 1)) (v4 2 (qO (ql 0) (qO (ql 1) v3))) (tst (d2 eqB (dv 1) (dv 2))) (d2 ixD (dv 0) (ret (.int 0)))) (ret []))) (xs:=yf (jw (qa (ret (.int 1)) (qa (ret (.int 2)) (ret []))))) (fr:=[10]) (Z:=Z4) (r:=[Pa]) (k:=D.int) [1,2] (λp=>D.int (wtS p (ks.zip ns))) (by
    rw[qem,qlA rfl rfl]
    rfl) rfl (by simp) λp _=>by
     let σ:Env:=[some (.int p),Pa]
     have c1:=vb (e:=d2 ixD (dv 0) (ret (.int 0))) (t:=tst (d2 eqB (dv 1) (dv 2))) (xs:=yf (dv 1)) (fr:=[0]) (Z:=σ) (r:=[some (.int p)]) (u:=λz:Kd×Int=>kD z.1) (v:=λz=>D.int z.2) (ks.zip ns) (λz=>decide (z.2=p)) (λz=>D.int z.1.1) rfl rfl (by rw[ybo];omega) (λz _=>zf (qD rfl rfl (yy _ _))) (λz _ _=>qD rfl rfl (qkp z.1))
     exact zm c1 vL
   exact vt (Z1:=Z4) (zm co (qah _))
  refine(qw (Z':=Z6) ?_).trans ?_
  ·have c1:=vb (e:=d2 ixD (dv 0) (ret (.int 1))) (t:=tst (d2 gtD (dv 1) (ret (.int 0)))) (xs:=yf (dv 10)) (fr:=[]) (Z:=Z5) (r:=[]) (u:=λz:Kd×Int=>kD z.1) (v:=λz=>D.int z.2) (ks.zip ns) (λz=>decide (0<z.2)) (λz=>D.int z.1.2.1) rfl rfl (by rw[ybo];omega) (λz _=>zf (qD rfl rfl (uk _ _))) (λz _ _=>qD rfl rfl (qkq z.1))
   exact vt (Z1:=Z5) (zm c1 vL)
  ·have v6':dv 6 Z6=.ok (lsD ns,Z6):=by
    show R.ok (x,Z6)=_
    rw[en]
   have r1:qL [.tup [.int (wtS 1 (ks.zip ns)),.int (wtS 2 (ks.zip ns))]]=some (.str (zt (.tup [.int (wtS 1 (ks.zip ns)),.int (wtS 2 (ks.zip ns))])).shown):=qeK (λd hd=>by
    simp only[yao,nN_,or_false]at hd
    rcases hd with rfl|rfl
    ·exact .inr ⟨_,rfl,by omega⟩
    ·exact .inr ⟨_,rfl,by omega⟩) (by simp)
   have r2:qL [.int (gnS (ks.zip ns))]=some (.str (yfd (.int (gnS (ks.zip ns))))):=qf4 (by omega)
   exact(qe4 (qlC (zf (qD (zm (qbm rfl rfl v6' (qkz hk hl hst)) r1) (zm rfl r1) (qbS _))) (zf (qD (zm (qbm rfl rfl v6' (qkA hk hl hst)) r2) (zm rfl r2) (qbS _))))).trans rfl
 |false=>
  rw[eb]at t8
  refine⟨He,Bb,Bb,o10,o11,o12,?_⟩
  refine(qw s0).trans ((qw s1).trans ((qw s2).trans ((qw s3).trans ((qe4 t8).trans ?_))))
  refine(qks (r:=[K,some x]) (Z:=Z3) 2 qeY _ (by omega) rfl (λj hj=>?_) (qis _) qlL).trans rfl
  exact qbm rfl rfl rfl (qkB hk hl (show uu ks x=false from eb) j hj)
end
theorem qgc (ns:List Int) (i:Int) (h0:0<=i) (h3:i<4) (r:Env) (hr:r.length=11):∃r',r'.length=11/\(qI (qas 2 (qa8 zT (qa (dv 0) (qa (dv 1) (ret []))))) (qI (zb 3 (qo zd 2 (qa (ret (.int 8)) (ret [])))) (qI (zb 4 (qj ye (qa (qE 1 [2] (some (1,2)) (yf (dv 3)) (ql 0) (ret true) (d2 jq (qo qg 1 (qa (ret (.int 3)) (ret []))) (d2 ixD (dv 0) (ret (.int 2))))) (ret [])))) (qI (zb 5 (qo jj 2 (ret []))) (qe1 (yf (d2 j4 (yp (qa (dv 4) (qa (dv 5) (qa (d2 qe3 (jw (qa (ret (.int 0)) (ret []))) (qj uw (qa (dv 3) (ret [])))) (ret []))))) (qE 1 [2,4,5] (some (1,2)) (z8 (qa (ret (.int 5)) (ret []))) (ql 0) (ret true) (qo qz 1 (qa (dv 2) (qa (dv 3) (ret []))))))) (ql 6) (qI (zb 7 (qj qL (qa (dv 6) (ret [])))) (qI (zb 8 (qt zE (qa (dv 6) (qa (dv 3) (ret []))))) (qI (zb 9 (yP zq (qa (dv 6) (qa (dv 3) (ret []))))) (qI (sif (tor (vB (tst (wS "bool" (dv 9)))) (tor (tst (d2 neB (dv 9) (dv 8))) (tst (d2 neB (qj qL (qa (dv 6) (ret []))) (dv 7))))) (jk (ret (.bl false))) yE) (sif (tst (dv 8)) (qI (zb 10 (qaE (qa (dv 3) (qa (dv 6) (ret []))))) (qI (zb 11 (qj ye (qa (qE 1 [10] none (yf (jw (qa (ret (.int 1)) (qa (ret (.int 2)) (ret []))))) (ql 0) (ret true) (qj qaq (qa (qE 2 [0] none (yf (dv 1)) (v4 2 (qO (ql 0) (qO (ql 1) v3))) (tst (d2 eqB (dv 1) (dv 2))) (d2 ixD (dv 0) (ret (.int 0)))) (ret [])))) (ret [])))) (qI (zb 12 (qj qaq (qa (qE 2 [] none (yf (dv 10)) (v4 2 (qO (ql 0) (qO (ql 1) v3))) (tst (d2 gtD (dv 1) (ret (.int 0)))) (d2 ixD (dv 0) (ret (.int 1)))) (ret [])))) (sif (tor (tst (d2 neB (qj qL (qa (qt qh (qa (ret (.int 0)) (qa (dv 3) (qa (dv 6) (ret []))))) (ret []))) (qj qL (qa (dv 11) (ret []))))) (tst (d2 neB (qj qL (qa (qt qh (qa (ret (.int 1)) (qa (dv 3) (qa (dv 6) (ret []))))) (ret []))) (qj qL (qa (dv 12) (ret [])))))) (jk (ret (.bl false))) yE)))) (sif (tst (d2 neB (qE 1 [3,6] none (z8 (qa (ret (.int 2)) (ret []))) (ql 0) (ret true) (qt qh (qa (dv 0) (qa (dv 1) (qa (dv 2) (ret [])))))) (d2 jq (yp (qa (yp (qa (ret (.str "refused")) (qa (ret (.int 2)) (ret [])))) (ret []))) (ret (.int 2))))) (jk (ret (.bl false))) yE))))))))))) ([some (.fz ns),some (.int i)]++r)=.ok (.nx ([some (.fz ns),some (.int i)]++r')):=by
 match r,hr with
 | [o2,o3,o4,o5,o6,o7,o8,o9,o10,o11,o12],_=>
  obtain⟨n,eb⟩:=qkt ns i h0
  obtain⟨ks,n1,es,hk,hl⟩:=qeN 8 (by omega) n
  obtain⟨n2,st,q0,elc,hst,h02⟩:=qbp ks n1 [] none hk (by simp;omega)
  obtain⟨d,n3,eo,hd1,hd2⟩:=qlG n2
  have hs8:st.length<=8:=by omega
  obtain⟨t1,m1,b1,g1⟩:=qbo h02 hs8 ⟨hd1,hd2⟩ n3
  obtain⟨t2,m2,b2,g2⟩:=qbo h02 hs8 ⟨hd1,hd2⟩ m1
  obtain⟨t3,m3,b3,g3⟩:=qbo h02 hs8 ⟨hd1,hd2⟩ m2
  obtain⟨t4,m4,b4,g4⟩:=qbo h02 hs8 ⟨hd1,hd2⟩ m3
  obtain⟨t5,m5,b5,g5⟩:=qbo h02 hs8 ⟨hd1,hd2⟩ m4
  let S:Option D:=some (.fz ns)
  let I:Option D:=some (.int i)
  let K:Option D:=some (.tup (ks.map kD))
  let St:Option D:=some (lsD st)
  let Od:Option D:=some d
  let B5:Option D:=some (.lst [.int m5])
  let Th8:List D:=[lsD st,d,lsD (yag ks.length 0)]++[t1,t2,t3,t4,t5]
  have hT:∀x∈Th8,yg x=true:=λx hx=>by
   simp only[Th8,mA_,yao,nN_,or_false]at hx
   rcases hx with(rfl|rfl|rfl)|rfl|rfl|rfl|rfl|rfl
   ·exact qml h02 (by omega)
   ·exact va hd1 (by omega) (by omega) hd2
   ·exact qml (λt ht=>by rw[List.eq_of_mem_replicate ht];decide) (by rw[yaK];omega)
   ·exact g1
   ·exact g2
   ·exact g3
   ·exact g4
   ·exact g5
  obtain ⟨Zr,qr,p6,p7,p8,p9,p10,p11,p12,rfl⟩:=qbl (G:=ql 6) (b:=(qI (zb 7 (qj qL (qa (dv 6) (ret [])))) (qI (zb 8 (qt zE (qa (dv 6) (qa (dv 3) (ret []))))) (qI (zb 9 (yP zq (qa (dv 6) (qa (dv 3) (ret []))))) (qI (sif (tor (vB (tst (wS "bool" (dv 9)))) (tor (tst (d2 neB (dv 9) (dv 8))) (tst (d2 neB (qj qL (qa (dv 6) (ret []))) (dv 7))))) (jk (ret (.bl false))) yE) (sif (tst (dv 8)) (qI (zb 10 (qaE (qa (dv 3) (qa (dv 6) (ret []))))) (qI (zb 11 (qj ye (qa (qE 1 [10] none (yf (jw (qa (ret (.int 1)) (qa (ret (.int 2)) (ret []))))) (ql 0) (ret true) (qj qaq (qa (qE 2 [0] none (yf (dv 1)) (v4 2 (qO (ql 0) (qO (ql 1) v3))) (tst (d2 eqB (dv 1) (dv 2))) (d2 ixD (dv 0) (ret (.int 0)))) (ret [])))) (ret [])))) (qI (zb 12 (qj qaq (qa (qE 2 [] none (yf (dv 10)) (v4 2 (qO (ql 0) (qO (ql 1) v3))) (tst (d2 gtD (dv 1) (ret (.int 0)))) (d2 ixD (dv 0) (ret (.int 1)))) (ret [])))) (sif (tor (tst (d2 neB (qj qL (qa (qt qh (qa (ret (.int 0)) (qa (dv 3) (qa (dv 6) (ret []))))) (ret []))) (qj qL (qa (dv 11) (ret []))))) (tst (d2 neB (qj qL (qa (qt qh (qa (ret (.int 1)) (qa (dv 3) (qa (dv 6) (ret []))))) (ret []))) (qj qL (qa (dv 12) (ret [])))))) (jk (ret (.bl false))) yE)))) (sif (tst (d2 neB (qE 1 [3,6] none (z8 (qa (ret (.int 2)) (ret []))) (ql 0) (ret true) (qt qh (qa (dv 0) (qa (dv 1) (qa (dv 2) (ret [])))))) (d2 jq (yp (qa (yp (qa (ret (.str "refused")) (qa (ret (.int 2)) (ret [])))) (ret []))) (ret (.int 2))))) (jk (ret (.bl false))) yE))))))) (k:=λx:D=>x) (step:=λ(s:Unit) (_:D)=>s) (Inv:=λ_ _ Z=>∃o6 o7 o8 o9 o10 o11 o12,Z=[S,I,B5,K,St,Od,o6,o7,o8,o9,o10,o11,o12]) Th8 0 () [S,I,B5,K,St,Od,o6,o7,o8,o9,o10,o11,o12] ⟨o6,o7,o8,o9,o10,o11,o12,rfl⟩ (λx hx m _ Z _ _=>by
   rintro⟨o6,o7,o8,o9,o10,o11,o12,rfl⟩
   obtain⟨q7,q8,q9,q10,q11,q12,e⟩:=qdn hk hl S I B5 St Od (hT x hx) o7 o8 o9 o10 o11 o12
   exact⟨[S,I,B5,K,St,Od,some x,o7,o8,o9,o10,o11,o12],_,rfl,e,some x,q7,q8,q9,q10,q11,q12,rfl⟩)
  rw[List.map_id']at qr
  refine⟨[B5,K,St,Od,p6,p7,p8,p9,p10,p11,p12],rfl,?_⟩
  show(qI (qas 2 (qa8 zT (qa (dv 0) (qa (dv 1) (ret []))))) (qI (zb 3 (qo zd 2 (qa (ret (.int 8)) (ret [])))) (qI (zb 4 (qj ye (qa (qE 1 [2] (some (1,2)) (yf (dv 3)) (ql 0) (ret true) (d2 jq (qo qg 1 (qa (ret (.int 3)) (ret []))) (d2 ixD (dv 0) (ret (.int 2))))) (ret [])))) (qI (zb 5 (qo jj 2 (ret []))) (qe1 (yf (d2 j4 (yp (qa (dv 4) (qa (dv 5) (qa (d2 qe3 (jw (qa (ret (.int 0)) (ret []))) (qj uw (qa (dv 3) (ret [])))) (ret []))))) (qE 1 [2,4,5] (some (1,2)) (z8 (qa (ret (.int 5)) (ret []))) (ql 0) (ret true) (qo qz 1 (qa (dv 2) (qa (dv 3) (ret []))))))) (ql 6) (qI (zb 7 (qj qL (qa (dv 6) (ret [])))) (qI (zb 8 (qt zE (qa (dv 6) (qa (dv 3) (ret []))))) (qI (zb 9 (yP zq (qa (dv 6) (qa (dv 3) (ret []))))) (qI (sif (tor (vB (tst (wS "bool" (dv 9)))) (tor (tst (d2 neB (dv 9) (dv 8))) (tst (d2 neB (qj qL (qa (dv 6) (ret []))) (dv 7))))) (jk (ret (.bl false))) yE) (sif (tst (dv 8)) (qI (zb 10 (qaE (qa (dv 3) (qa (dv 6) (ret []))))) (qI (zb 11 (qj ye (qa (qE 1 [10] none (yf (jw (qa (ret (.int 1)) (qa (ret (.int 2)) (ret []))))) (ql 0) (ret true) (qj qaq (qa (qE 2 [0] none (yf (dv 1)) (v4 2 (qO (ql 0) (qO (ql 1) v3))) (tst (d2 eqB (dv 1) (dv 2))) (d2 ixD (dv 0) (ret (.int 0)))) (ret [])))) (ret [])))) (qI (zb 12 (qj qaq (qa (qE 2 [] none (yf (dv 10)) (v4 2 (qO (ql 0) (qO (ql 1) v3))) (tst (d2 gtD (dv 1) (ret (.int 0)))) (d2 ixD (dv 0) (ret (.int 1)))) (ret [])))) (sif (tor (tst (d2 neB (qj qL (qa (qt qh (qa (ret (.int 0)) (qa (dv 3) (qa (dv 6) (ret []))))) (ret []))) (qj qL (qa (dv 11) (ret []))))) (tst (d2 neB (qj qL (qa (qt qh (qa (ret (.int 1)) (qa (dv 3) (qa (dv 6) (ret []))))) (ret []))) (qj qL (qa (dv 12) (ret [])))))) (jk (ret (.bl false))) yE)))) (sif (tst (d2 neB (qE 1 [3,6] none (z8 (qa (ret (.int 2)) (ret []))) (ql 0) (ret true) (qt qh (qa (dv 0) (qa (dv 1) (qa (dv 2) (ret [])))))) (d2 jq (yp (qa (yp (qa (ret (.str "refused")) (qa (ret (.int 2)) (ret [])))) (ret []))) (ret (.int 2))))) (jk (ret (.bl false))) yE))))))))))) [S,I,o2,o3,o4,o5,o6,o7,o8,o9,o10,o11,o12]=_
  refine(qw (Z':=[S,I,some (.lst [.int n]),o3,o4,o5,o6,o7,o8,o9,o10,o11,o12]) ?_).trans ?_
  ·push_cast [S,I,eb,immFs,immF,immL,imm,ybH]
  refine(qw (Z':=[S,I,some (.lst [.int n1]),K,o4,o5,o6,o7,o8,o9,o10,o11,o12]) ?_).trans ?_
  ·push_cast [es]
   rfl
  refine(qw (Z':=[S,I,some (.lst [.int n2]),K,St,o5,o6,o7,o8,o9,o10,o11,o12]) ?_).trans ?_
  ·have c:(qE 1 [2] (some (1,2)) (yf (dv 3)) (ql 0) (ret true) (d2 jq (qo qg 1 (qa (ret (.int 3)) (ret []))) (d2 ixD (dv 0) (ret (.int 2))))) [S,I,some (.lst [.int n1]),K,o4,o5,o6,o7,o8,o9,o10,o11,o12]=.ok (.lst (st.map D.int),[S,I,some (.lst [.int n2]),K,o4,o5,o6,o7,o8,o9,o10,o11,o12]):=by
    rw[u4]
    show(match qG (ql 0) (ret true) (d2 jq (qo qg 1 (qa (ret (.int 3)) (ret []))) (d2 ixD (dv 0) (ret (.int 2)))) (ks.map kD) [] [none,some (.lst [.int n1])] with|.ok (ys,Ze)=>R.ok (D.lst ys,qfw (some (1,2)) Ze _)|_ => .bad)=_
    have elc':qG (ql 0) (ret true) (d2 jq (qo qg 1 (qa (ret (.int 3)) (ret []))) (d2 ixD (dv 0) (ret (.int 2)))) (ks.map kD) [] [none,some (.lst [.int n1])]=.ok (st.map D.int,[q0,some (.lst [.int n2])]):=elc
    rw[elc']
    rfl
   push_cast [c,qah]
   rfl
  let Z4:Env:=[S,I,some (.lst [.int n3]),K,St,Od,o6,o7,o8,o9,o10,o11,o12]
  refine(qw (Z':=Z4) ?_).trans ?_
  ·push_cast [eo]
   rfl
  let Z5:Env:=[S,I,B5,K,St,Od,o6,o7,o8,o9,o10,o11,o12]
  have io:∀(j a b:Int)(t:D),qz [.int a] [lsD st,d]=.ok (t,[.int b])->qo qz 1 (qa (dv 2) (qa (dv 3) (ret []))) [some (.int j),some (.lst [.int a]),St,Od]=.ok (t,[some (.int j),some (.lst [.int b]),St,Od]):=λj a b t e=>by
   rw[ww]
   have g:zi 1 [some (.int j),some (.lst [.int a]),St,Od]=some [.int a]:=rfl
   simp only[g,j6 (Z:=[some (.int j),some (.lst [.int a]),St,Od]) (f:=dv 2) (g:=dv 3) (a:=lsD st) (b:=d) rfl rfl,e]
   rfl
  have cl:∀(j a b:Int)(t:D)(ds acc:List D)(o:Option D),qz [.int a] [lsD st,d]=.ok (t,[.int b])->acc.length<=100->qG (ql 0) (ret true) (qo qz 1 (qa (dv 2) (qa (dv 3) (ret [])))) (.int j::ds) acc [o,some (.lst [.int a]),St,Od]=qG (ql 0) (ret true) (qo qz 1 (qa (dv 2) (qa (dv 3) (ret [])))) ds (acc++[t]) [some (.int j),some (.lst [.int b]),St,Od]:=λj a b t ds acc o e ha=>by
   rw[qG]
   simp only[ql,ybg,qc7,io j a b t e,jc (show acc.length+1<=1000000 by omega),if_true]
  have cc:(qE 1 [2,4,5] (some (1,2)) (z8 (qa (ret (.int 5)) (ret []))) (ql 0) (ret true) (qo qz 1 (qa (dv 2) (qa (dv 3) (ret []))))) Z4=.ok (.lst [t1,t2,t3,t4,t5],Z5):=by
   rw[u4]
   have rg:z8 (qa (ret (.int 5)) (ret [])) Z4=.ok ([.int 0,.int 1,.int 2,.int 3,.int 4],Z4):=by
    rw[uN (qaI rfl) (by omega) (by omega)]
    rfl
   rw[rg]
   have el:qG (ql 0) (ret true) (qo qz 1 (qa (dv 2) (qa (dv 3) (ret [])))) [.int 0,.int 1,.int 2,.int 3,.int 4] [] [none,some (.lst [.int n3]),St,Od]=.ok ([t1,t2,t3,t4,t5],[some (.int 4),some (.lst [.int m5]),St,Od]):=by
    rw[cl 0 n3 m1 t1 _ _ _ b1 (by simp),cl 1 m1 m2 t2 _ _ _ b2 (by simp),cl 2 m2 m3 t3 _ _ _ b3 (by simp),cl 3 m3 m4 t4 _ _ _ b4 (by simp),cl 4 m4 m5 t5 _ _ _ b5 (by simp)]
    rfl
   show(match qG (ql 0) (ret true) (qo qz 1 (qa (dv 2) (qa (dv 3) (ret [])))) [.int 0,.int 1,.int 2,.int 3,.int 4] [] [none,some (.lst [.int n3]),St,Od] with|.ok (ys,Ze)=>R.ok (D.lst ys,qfw (some (1,2)) Ze _)|_ => .bad)=_
   rw[el]
   rfl
  have l3:(yp (qa (dv 4) (qa (dv 5) (qa (d2 qe3 (jw (qa (ret (.int 0)) (ret []))) (qj uw (qa (dv 3) (ret [])))) (ret []))))) Z4=.ok (.lst [lsD st,d,lsD (yag ks.length 0)],Z4):=by
   have z0:jw (qa (ret (.int 0)) (ret [])) Z4=.ok (.tup [.int 0],Z4):=by
    rw[qcf,qaI rfl]
    simp only[lC_,lN_,ycp,sm1,if_true]
   have z:d2 qe3 (jw (qa (ret (.int 0)) (ret []))) (qj uw (qa (dv 3) (ret []))) Z4=.ok (lsD (yag ks.length 0),Z4):=qD z0 (zm (a:=.tup (ks.map kD)) rfl (by rw[z5,lM_])) (qmS ks.length hl)
   rw[qbb,qlz (Z:=Z4) (a:=lsD st) (b:=d) rfl rfl z]
   simp only[lC_,lN_,ycp,yeL,jc (show 3<=1000000 by omega),if_true]
  have it:(yf (d2 j4 (yp (qa (dv 4) (qa (dv 5) (qa (d2 qe3 (jw (qa (ret (.int 0)) (ret []))) (qj uw (qa (dv 3) (ret [])))) (ret []))))) (qE 1 [2,4,5] (some (1,2)) (z8 (qa (ret (.int 5)) (ret []))) (ql 0) (ret true) (qo qz 1 (qa (dv 2) (qa (dv 3) (ret []))))))) Z4=.ok (Th8,Z5):=by
   rw[qem,qkK,l3]
   simp only[cc,qf3 (show([lsD st,d,lsD (yag ks.length 0)]:List D).length+[t1,t2,t3,t4,t5].length<=1000000 by simp)]
   rfl
  rw[qbc,it]
  exact qr
theorem qcM (ns:List Int):∀(ds:List D)(o1:Option D)(r:Env),r.length=11->(∀d∈ds,∃i:Int,d=.int i/\0<=i/\i<4)->∃Z,uh (ql 1) (qI (qas 2 (qa8 zT (qa (dv 0) (qa (dv 1) (ret []))))) (qI (zb 3 (qo zd 2 (qa (ret (.int 8)) (ret [])))) (qI (zb 4 (qj ye (qa (qE 1 [2] (some (1,2)) (yf (dv 3)) (ql 0) (ret true) (d2 jq (qo qg 1 (qa (ret (.int 3)) (ret []))) (d2 ixD (dv 0) (ret (.int 2))))) (ret [])))) (qI (zb 5 (qo jj 2 (ret []))) (qe1 (yf (d2 j4 (yp (qa (dv 4) (qa (dv 5) (qa (d2 qe3 (jw (qa (ret (.int 0)) (ret []))) (qj uw (qa (dv 3) (ret [])))) (ret []))))) (qE 1 [2,4,5] (some (1,2)) (z8 (qa (ret (.int 5)) (ret []))) (ql 0) (ret true) (qo qz 1 (qa (dv 2) (qa (dv 3) (ret []))))))) (ql 6) (qI (zb 7 (qj qL (qa (dv 6) (ret [])))) (qI (zb 8 (qt zE (qa (dv 6) (qa (dv 3) (ret []))))) (qI (zb 9 (yP zq (qa (dv 6) (qa (dv 3) (ret []))))) (qI (sif (tor (vB (tst (wS "bool" (dv 9)))) (tor (tst (d2 neB (dv 9) (dv 8))) (tst (d2 neB (qj qL (qa (dv 6) (ret []))) (dv 7))))) (jk (ret (.bl false))) yE) (sif (tst (dv 8)) (qI (zb 10 (qaE (qa (dv 3) (qa (dv 6) (ret []))))) (qI (zb 11 (qj ye (qa (qE 1 [10] none (yf (jw (qa (ret (.int 1)) (qa (ret (.int 2)) (ret []))))) (ql 0) (ret true) (qj qaq (qa (qE 2 [0] none (yf (dv 1)) (v4 2 (qO (ql 0) (qO (ql 1) v3))) (tst (d2 eqB (dv 1) (dv 2))) (d2 ixD (dv 0) (ret (.int 0)))) (ret [])))) (ret [])))) (qI (zb 12 (qj qaq (qa (qE 2 [] none (yf (dv 10)) (v4 2 (qO (ql 0) (qO (ql 1) v3))) (tst (d2 gtD (dv 1) (ret (.int 0)))) (d2 ixD (dv 0) (ret (.int 1)))) (ret [])))) (sif (tor (tst (d2 neB (qj qL (qa (qt qh (qa (ret (.int 0)) (qa (dv 3) (qa (dv 6) (ret []))))) (ret []))) (qj qL (qa (dv 11) (ret []))))) (tst (d2 neB (qj qL (qa (qt qh (qa (ret (.int 1)) (qa (dv 3) (qa (dv 6) (ret []))))) (ret []))) (qj qL (qa (dv 12) (ret [])))))) (jk (ret (.bl false))) yE)))) (sif (tst (d2 neB (qE 1 [3,6] none (z8 (qa (ret (.int 2)) (ret []))) (ql 0) (ret true) (qt qh (qa (dv 0) (qa (dv 1) (qa (dv 2) (ret [])))))) (d2 jq (yp (qa (yp (qa (ret (.str "refused")) (qa (ret (.int 2)) (ret [])))) (ret []))) (ret (.int 2))))) (jk (ret (.bl false))) yE))))))))))) ds ([some (.fz ns),o1]++r)=.ok (.nx Z)
 | [],o1,r,_,_=>⟨_,rfl⟩
 |d::ds,o1,r,hr,h=>by
  obtain⟨i,rfl,h0,h1⟩:=h d mS_
  obtain⟨r',hr',e⟩:=qgc ns i h0 h1 r hr
  obtain⟨Z,q⟩:=qcM ns ds (some (.int i)) r' hr' λy hy=>h y (mM _ hy)
  refine⟨Z,?_⟩
  unfold uh
  simp only[ql,List.cons_append,ybF,ybg,ydp]at e |-
  simp only[e]
  exact q
theorem law_true (ns:List Int) (hn:ns.length<=63):qbT [.fz ns]=.ok (.bl true):=by
 let j:Int:=if(if(4:Int)<(ns.length:Int) then(4:Int) else(ns.length:Int))>1 then(if(4:Int)<(ns.length:Int) then(4:Int) else(ns.length:Int))else 1
 have hj0:0<=j:=by simp only[j];split<;>split<;>omega
 have hj2:j<=4:=by simp only[j];split<;>split<;>omega
 have hj1:j<=6:=by simp only[j];split<;>split<;>omega
 obtain ⟨Z,q⟩:=qcM ns (qab 0 j.toNat) none [none,none,none,none,none,none,none,none,none,none,none] rfl λd hd=>by
  unfold qab at hd
  obtain⟨k,hk,rfl⟩:=mP_.mp hd
  have hk2:=mR_.mp hk
  exact⟨_,rfl,by omega,by omega⟩
 unfold qbT
 refine qbi rfl ⟨Z,?_⟩
 unfold qin
 refine(qw (Z':=Z) ?_).trans rfl
 rw[qbc,uN (j:=j) (Z1:=[some (.fz ns),none,none,none,none,none,none,none,none,none,none,none,none]) ?_ hj0 (by omega)]
 ·exact q
 ·rfl
section
variable{P:yap}{w:World}{K:yai}{mg:Str->Option Value}{base:Heap}
variable{f:Addr}{fd:yaN}
set_option maxHeartbeats 4000000
theorem yU:qy ["box","many","left","digit"] ["box","many"] (qd je):=⟨rfl,rfl,rfl,by decide +kernel,rfl,by decide +kernel,by decide +kernel⟩
section
variable(P:yap)(w:World)(K:Fr0)(mg:Str->Option Value)(base:Heap)
abbrev Q0:Prop:=zX P w K mg base 1 "_law_take" ["box","many"] (qdu K qg)
abbrev Q1:Prop:=zX P w K mg base 2 "_law_bent" ["box","stow","odd"] (qdu K qz)
abbrev Q2:Prop:=zX P w K mg base 1 "weight_in" ["store","stow","sack"] (spD K jX)
abbrev Q3:Prop:=zX P w K mg base 1 "is_whole" ["thing"] (spD K yY)
abbrev Q4:Prop:=zX P w K mg base 2 "is_count" ["thing"] (spD K zR)
abbrev Q5:Prop:=zX P w K mg base 1 "is_there" ["kind"] (spD K yi)
abbrev Q6:Prop:=zX P w K mg base 2 "sacks_for" ["kind"] (spD K yA)
abbrev Q7:Prop:=zX P w K mg base 3 "can_stow" ["kind","sack"] (spD K yj)
abbrev Q8:Prop:=yx P w K mg base 1 "need_single" ["store"] (spX K (clR K RN) jC)
abbrev Q9:Prop:=zX P w K mg base 3 "is_kind" ["thing"] (spD K yS)
abbrev Q10:Prop:=zX P w K mg base 4 "is_store" ["thing"] (spD K yZ)
abbrev Q11:Prop:=yx P w K mg base 5 "need_store" ["thing"] (spX K (clR K RN) j9)
abbrev Q12:Prop:=yx P w K mg base 6 "need_stowable" ["store"] (spX K (clR K RN) zp)
abbrev Q13:Prop:=yx P w K mg base 7 "is_stow" ["thing","store"] (spX K (clR K RN) zq)
abbrev Q14:Prop:=yx P w K mg base 8 "need_stow" ["store","thing"] (spX K (clR K RN) zM)
abbrev Q15:Prop:=yx P w K mg base 9 "stow_weights" ["store","stow"] (spX K (clR K RN) zg)
abbrev Q16:Prop:=yx P w K mg base 9 "stow_worth" ["store","stow"] (spX K (clR K RN) zS)
abbrev Q17:Prop:=qbJ P w K mg base 1 "_law_classes" ["e"] (spD K ud)
abbrev Q18:Prop:=qbJ P w K mg base 2 "_law_only" ["e","place"] (spD K ut)
abbrev Q19:Prop:=zX P w K mg base 10 "_law_told" ["kind","store","thing"] (spD K qh)
abbrev Q20:Prop:=zX P w K mg base 1 "_law_whole" ["thing"] (spD K jv)
abbrev Q21:Prop:=zX P w K mg base 2 "_law_is" ["thing","store"] (spD K zE)
abbrev Q22:Prop:=zX P w K mg base 2 "_law_odd" ["box"] (qdu K jj)
abbrev Q23:Prop:=zX P w K mg base 2 "_law_single" ["box","most"] (qdu K zd)
abbrev Q24:Prop:=zX P w K mg base 1 "_law_box" ["script","k"] (spD K zT)
end
theorem q0 (F:Fun K "_law_take" "_law_take" je f fd) (m:mg "_law_take"=some (.ref f)) (T:Txt K mg) (XTt:XT K mg RN TN) (hB:K.In base):Q0 P w K mg base:=by
 refine⟨f,fd,?_,m,F.kp,F.binds λ_ _ _ _ _ _ us hl=>match us,hl with | [_,_],_=>rfl⟩
 show uv P w K mg base CX0 1 f fd ["box","many"] (qdu K (uX (["box","many","left","digit"]:List Str).length (["box","many"]:List Str).length yz))
 refine qfz (N:=["box","many","left","digit"]) (ps:=["box","many"]) (k:=0) (O:=[0]) (body:=yz) F yU ?a ?a0 ?b
 case a=>decide
 case a0=>decide
 intro cdv A outer s H E B Io S hr
 exact (qk (qji (qv qby qa5 rfl T.b_divmod qeh (qb (qjv (i:=0) qf) (qb (qc 1) qe))) (v5 (n:=2) rfl (zh (qH (i:=2) yU.nd) (zh (qH (i:=3) yU.nd) ue))))
   (qk (qhn (i:=0) (qc 2) qf)
   (qq (qJ (qc 3)))))
theorem ya:qy ["box","stow","odd","at","news","kind"] ["box","stow","odd"] (qd jf):=⟨rfl,rfl,rfl,by decide +kernel,rfl,by decide +kernel,by decide +kernel⟩
theorem q1 (F:Fun K "_law_bent" "_law_bent" jf f fd) (m:mg "_law_bent"=some (.ref f)) (T:Txt K mg) (XTt:XT K mg RN TN) (hB:K.In base) (C__law_take:Q0 P w K mg base):Q1 P w K mg base:=by
 refine⟨f,fd,?_,m,F.kp,F.binds λ_ _ _ _ _ _ us hl=>match us,hl with | [_,_,_],_=>rfl⟩
 show uv P w K mg base CX0 2 f fd ["box","stow","odd"] (qdu K (uX (["box","stow","odd","at","news","kind"]:List Str).length (["box","stow","odd"]:List Str).length jW))
 refine qfz (N:=["box","stow","odd","at","news","kind"]) (ps:=["box","stow","odd"]) (k:=1) (O:=[0]) (body:=jW) F ya ?a ?a0 ?b
 case a=>decide
 case a0=>decide
 intro cdv A outer s H E B Io S hr
 exact (qk (zw (i:=3) ya.nd (iC (i:=0) C__law_take hr (qb (qF zx zy (qv zk zl rfl T.b_len yN (qb (qc 1) qe)) qf) qe)))
   (qk (zw (i:=4) ya.nd (jQ (qb (zB qe) (qb (zB (qb qf qe)) (qb (zB (qb (qeg qf) qe)) (qb (zB (qb uz qe)) (qb (zB (qb qa2 qe)) (qb (zB (qb uA qe)) (qb (zB (qb (qc 2) qe)) (qb (zB (qb qf (qb qf qe))) (qb (zB (qb qf qe)) qe)))))))))))
   (qk (zw (i:=5) ya.nd (iC (i:=0) C__law_take hr (qb qf qe)))
   (qk (yH (zV qiX qgn (qc 5) qf (qW _)) (qq (qJ (qF zx zy (qF zx zy (qbf (qc 1) qd3 (qd4 (qc 3))) (yq zY zW (qc 4) (qc 5))) (qbf (qc 1) (qd4 (qF zx zy (qc 3) qf)) qd3)))) qV)
   (qq (qJ (yq zY zW (jQ (qb (uC qa0 qc2 rfl T.b_list qhC (qb (qc 1) qe)) (qb (zB (qb (qc 1) qe)) qe))) (qF qgf qdW (qc 5) qf))))))))
theorem qbq:qy ["store","stow","sack"] ["store","stow","sack"] (qd zJ):=⟨rfl,rfl,rfl,by decide +kernel,rfl,by decide +kernel,by decide +kernel⟩
theorem q2 (F:Fun K "weight_in" "weight_in" zJ f fd) (m:mg "weight_in"=some (.ref f)) (T:Txt K mg) (XTt:XT K mg RN TN) (hB:K.In base):Q2 P w K mg base:=by
 refine⟨f,fd,?_,m,F.kp,F.binds λ_ _ _ _ _ _ us hl=>match us,hl with | [_,_,_],_=>rfl⟩
 exact jb (N:=["store","stow","sack"]) (O:=[]) (body:=uo) F qbq (by decide) λcdv A outer s H E B hr=>(qq (qJ (qv (vC rfl) uH rfl T.b_sum qce (qb (jy (fo:=none) rfl (qcd rfl T.b_zip (qb (qc 0) (qb (qc 1) qe))) (cs ["store","stow","sack"] ["kind","where","sack"] 2 [2] (qd zJ)) (f0 [2] []) (λ_ _ _ _ _ _ _ _ _ _ _=>⟨(v5 (n:=2) rfl (zh (qH (i:=0) (nd ["kind","where","sack"])) (zh (qH (i:=1) (nd ["kind","where","sack"])) ue))),(qa6 (zV (qba hr) uj (qc 1) (qc 2) (qW _))),(yq zY zW (qc 0) (gI T.c_WEIGHT))⟩)) qe))))
theorem qbY:qy ["thing"] ["thing"] (qd jH):=⟨rfl,rfl,rfl,by decide +kernel,rfl,by decide +kernel,by decide +kernel⟩
theorem q3 (F:Fun K "is_whole" "is_whole" jH f fd) (m:mg "is_whole"=some (.ref f)) (T:Txt K mg) (XTt:XT K mg RN TN) (hB:K.In base):Q3 P w K mg base:=by
 refine⟨f,fd,?_,m,F.kp,F.binds λ_ _ _ _ _ _ us hl=>match us,hl with | [_],_=>rfl⟩
 exact jb (N:=["thing"]) (O:=[]) (body:=vc) F qbY (by decide) λcdv A outer s H E B hr=>(qq (qJ (qa3 (uF qd2 rfl T.b_isinstance rfl T.b_int qei (qc 0) qp) (vZ (qgm (uF qap rfl T.b_isinstance rfl T.b_bool qbD (qc 0) qp))))))
theorem qbZ:qy ["thing"] ["thing"] (qd jI):=⟨rfl,rfl,rfl,by decide +kernel,rfl,by decide +kernel,by decide +kernel⟩
theorem q4 (F:Fun K "is_count" "is_count" jI f fd) (m:mg "is_count"=some (.ref f)) (T:Txt K mg) (XTt:XT K mg RN TN) (hB:K.In base) (C_is_whole:Q3 P w K mg base):Q4 P w K mg base:=by
 refine⟨f,fd,?_,m,F.kp,F.binds λ_ _ _ _ _ _ us hl=>match us,hl with | [_],_=>rfl⟩
 exact jb (N:=["thing"]) (O:=[]) (body:=vd) F qbZ (by decide) λcdv A outer s H E B hr=>(qq (qJ (qa3 (dC C_is_whole hr (qb (qc 0) qe)) (vZ (uB qk5 qjj (qc 0) qf (qW _))))))
theorem qb0:qy ["kind"] ["kind"] (qd jJ):=⟨rfl,rfl,rfl,by decide +kernel,rfl,by decide +kernel,by decide +kernel⟩
theorem q5 (F:Fun K "is_there" "is_there" jJ f fd) (m:mg "is_there"=some (.ref f)) (T:Txt K mg) (XTt:XT K mg RN TN) (hB:K.In base):Q5 P w K mg base:=by
 refine⟨f,fd,?_,m,F.kp,F.binds λ_ _ _ _ _ _ us hl=>match us,hl with | [_],_=>rfl⟩
 exact jb (N:=["kind"]) (O:=[]) (body:=ve) F qb0 (by decide) λcdv A outer s H E B hr=>(qq (qJ (qjf (uB qgi qdZ (yq zY zW (qc 0) (gI T.c_MOST)) qa2 (qW _)) (vZ (uB qcQ w6 (yq zY zW (qc 0) (gI T.c_MOST)) qf (qW _))))))
theorem qbr:qy ["kind"] ["kind"] (qd jg):=⟨rfl,rfl,rfl,by decide +kernel,rfl,by decide +kernel,by decide +kernel⟩
theorem q6 (F:Fun K "sacks_for" "sacks_for" jg f fd) (m:mg "sacks_for"=some (.ref f)) (T:Txt K mg) (XTt:XT K mg RN TN) (hB:K.In base) (C_is_there:Q5 P w K mg base):Q6 P w K mg base:=by
 refine⟨f,fd,?_,m,F.kp,F.binds λ_ _ _ _ _ _ us hl=>match us,hl with | [_],_=>rfl⟩
 exact jb (N:=["kind"]) (O:=[]) (body:=uq) F qbr (by decide) λcdv A outer s H E B hr=>(qq (qJ (qjg (jR (dC C_is_there hr (qb (qc 0) qe))) qf qf)))
theorem qb1:qy ["kind","sack"] ["kind","sack"] (qd jK):=⟨rfl,rfl,rfl,by decide +kernel,rfl,by decide +kernel,by decide +kernel⟩
theorem q7 (F:Fun K "can_stow" "can_stow" jK f fd) (m:mg "can_stow"=some (.ref f)) (T:Txt K mg) (XTt:XT K mg RN TN) (hB:K.In base) (C_is_count:Q4 P w K mg base) (C_sacks_for:Q6 P w K mg base):Q7 P w K mg base:=by
 refine⟨f,fd,?_,m,F.kp,F.binds λ_ _ _ _ _ _ us hl=>match us,hl with | [_,_],_=>rfl⟩
 exact jb (N:=["kind","sack"]) (O:=[]) (body:=vf) F qb1 (by decide) λcdv A outer s H E B hr=>(qq (qJ (qa3 (dC C_is_count hr (qb (qc 1) qe)) (vZ (uB qg1 qdY (qc 1) (dC C_sacks_for hr (qb (qc 0) qe)) (qW _))))))
theorem wY:qy ["store"] ["store"] (qd qP):=⟨rfl,rfl,rfl,by decide +kernel,rfl,by decide +kernel,by decide +kernel⟩
theorem q8 (F:Fun K "need_single" "need_single" qP f fd) (m:mg "need_single"=some (.ref f)) (T:Txt K mg) (XTt:XT K mg RN TN) (hB:K.In base):Q8 P w K mg base:=by
 obtain⟨S,mS,xS⟩:=XTt.xcls hB
 obtain⟨C_NotSingle,hc_NotSingle⟩:=XTt.has (n:="NotSingle") (by decide)
 have mc_NotSingle:=XTt.mgc _ _ (XTt.cls hc_NotSingle).1
 obtain⟨bm_NotSingle,xc_NotSingle,_⟩:=xS.own _ _ hc_NotSingle
 refine⟨f,fd,?_,m,F.kp,F.binds λ_ _ _ _ _ _ us hl=>match us,hl with | [_],_=>rfl⟩
 show uv P w K mg base (CX1 P w) 1 f fd ["store"] (spX K (clR K RN) (wy (["store"]:List Str).length (["store"]:List Str).length jB))
 refine wB (N:=["store"]) (ps:=["store"]) (k:=0) (O:=[]) (body:=jB) (cl:=clR K RN) F wY ?a ?b
 case a=>decide
 intro cdv A outer s H E B hr
 have L:=wA (P:=P) (w:=w) (K:=K) (mg:=mg) (base:=base) (N:=["store"]) (qual:="need_single") (scope:=qd qP) (f:=f) (cdv:=cdv) (A:=A) (outer:=outer) (s:=s) (H:=H) (E:=E) (c:=cfn [] [] B H (λ_=>False) (λx H'=>∀C,clR K RN x.cls=some C->E (.ref C) none H') λ_=>none) (cl:=clR K RN) rfl (λx C H' h1 h2=>h2 C h1)
 exact(qq (yH (yC (jR (qv (uG rfl) yK rfl T.b_all qa9 (qb (jy (fo:=none) rfl (vk (qc 0)) (cs ["store"] ["kind"] 1 [] (qd qP)) (f0 [] []) (λ_ _ _ _ _ _ _ _ _ _ _=>⟨(qH (i:=0) (nd ["kind"])),y8,(uB (qj2 hr) qhZ (yq zY zW (qc 0) (gI T.c_MOST)) (zB (qb qf (qb qf qe))) rfl)⟩)) qe)))) (qq (vI rfl L hc_NotSingle rfl mc_NotSingle xc_NotSingle (qb uA qe))) qV))
theorem qdo:qy ["thing"] ["thing"] (qd yh):=⟨rfl,rfl,rfl,by decide +kernel,rfl,by decide +kernel,by decide +kernel⟩
theorem q9 (F:Fun K "is_kind" "is_kind" yh f fd) (m:mg "is_kind"=some (.ref f)) (T:Txt K mg) (XTt:XT K mg RN TN) (hB:K.In base) (C_is_count:Q4 P w K mg base):Q9 P w K mg base:=by
 refine⟨f,fd,?_,m,F.kp,F.binds λ_ _ _ _ _ _ us hl=>match us,hl with | [_],_=>rfl⟩
 exact jb (N:=["thing"]) (O:=[]) (body:=wG) F qdo (by decide) λcdv A outer s H E B hr=>(qk (yH (DW.dt (wW (yC (jR (uF uE rfl T.b_isinstance rfl T.b_tuple yu (qc 0) qp))) (vj (zV (vo hr) yO (qv zk zl rfl T.b_len yN (qb (qc 0) qe)) qf (qW _))))) (qq (qJ uz)) qV)
   (qk (yH (DW.dt (wW (yC (jR (dC C_is_count hr (qb (yq zY zW (qc 0) (gI T.c_WEIGHT)) qe)))) (vj (zV (qba hr) uj (yq zY zW (qc 0) (gI T.c_WEIGHT)) qf (qW _))))) (qq (qJ uz)) qV)
   (qq (qJ (qa3 (dC C_is_count hr (qb (yq zY zW (qc 0) (gI T.c_WORTH)) qe)) (vZ (qjf (uB qgi qdZ (yq zY zW (qc 0) (gI T.c_MOST)) qa2 (qW _)) (vZ (dC C_is_count hr (qb (yq zY zW (qc 0) (gI T.c_MOST)) qe))))))))))
theorem qb2:qy ["thing"] ["thing"] (qd jh):=⟨rfl,rfl,rfl,by decide +kernel,rfl,by decide +kernel,by decide +kernel⟩
theorem q10 (F:Fun K "is_store" "is_store" jh f fd) (m:mg "is_store"=some (.ref f)) (T:Txt K mg) (XTt:XT K mg RN TN) (hB:K.In base) (C_is_kind:Q9 P w K mg base):Q10 P w K mg base:=by
 refine⟨f,fd,?_,m,F.kp,F.binds λ_ _ _ _ _ _ us hl=>match us,hl with | [_],_=>rfl⟩
 exact jb (N:=["thing"]) (O:=[]) (body:=vg) F qb2 (by decide) λcdv A outer s H E B hr=>(qk (yH (DW.dt (wW (yC (jR (uF uE rfl T.b_isinstance rfl T.b_tuple yu (qc 0) qp))) (vj (zV qcQ w6 (qv zk zl rfl T.b_len yN (qb (qc 0) qe)) (gI T.c_KINDS_AT_MOST) (qW _))))) (qq (qJ uz)) qV)
   (qq (qJ (qv (uG rfl) yK rfl T.b_all qa9 (qb (jy (fo:=none) rfl (vk (qc 0)) (cs ["thing"] ["part"] 1 [] (qd jh)) (f0 [] []) (λ_ _ _ _ _ _ _ _ _ _ _=>⟨(qH (i:=0) (nd ["part"])),y8,(dC C_is_kind hr (qb (qc 0) qe))⟩)) qe)))))
theorem qaO:qy ["thing"] ["thing"] (qd zn):=⟨rfl,rfl,rfl,by decide +kernel,rfl,by decide +kernel,by decide +kernel⟩
theorem q11 (F:Fun K "need_store" "need_store" zn f fd) (m:mg "need_store"=some (.ref f)) (T:Txt K mg) (XTt:XT K mg RN TN) (hB:K.In base) (C_is_store:Q10 P w K mg base):Q11 P w K mg base:=by
 obtain⟨S,mS,xS⟩:=XTt.xcls hB
 obtain⟨C_NoStore,hc_NoStore⟩:=XTt.has (n:="NoStore") (by decide)
 have mc_NoStore:=XTt.mgc _ _ (XTt.cls hc_NoStore).1
 obtain⟨bm_NoStore,xc_NoStore,_⟩:=xS.own _ _ hc_NoStore
 refine⟨f,fd,?_,m,F.kp,F.binds λ_ _ _ _ _ _ us hl=>match us,hl with | [_],_=>rfl⟩
 show uv P w K mg base (CX1 P w) 5 f fd ["thing"] (spX K (clR K RN) (wy (["thing"]:List Str).length (["thing"]:List Str).length j8))
 refine wB (N:=["thing"]) (ps:=["thing"]) (k:=4) (O:=[]) (body:=j8) (cl:=clR K RN) F qaO ?a ?b
 case a=>decide
 intro cdv A outer s H E B hr
 have L:=wA (P:=P) (w:=w) (K:=K) (mg:=mg) (base:=base) (N:=["thing"]) (qual:="need_store") (scope:=qd zn) (f:=f) (cdv:=cdv) (A:=A) (outer:=outer) (s:=s) (H:=H) (E:=E) (c:=cfn [] [] B H (λ_=>False) (λx H'=>∀C,clR K RN x.cls=some C->E (.ref C) none H') λ_=>none) (cl:=clR K RN) rfl (λx C H' h1 h2=>h2 C h1)
 exact(qq (yH (yC (jR (dC C_is_store hr (qb (qc 0) qe)))) (qq (vI rfl L hc_NoStore rfl mc_NoStore xc_NoStore (qb uA qe))) qV))
theorem vx:qy ["store"] ["store"] (qd qN):=⟨rfl,rfl,rfl,by decide +kernel,rfl,by decide +kernel,by decide +kernel⟩
theorem q12 (F:Fun K "need_stowable" "need_stowable" qN f fd) (m:mg "need_stowable"=some (.ref f)) (T:Txt K mg) (XTt:XT K mg RN TN) (hB:K.In base) (C_need_single:Q8 P w K mg base) (C_need_store:Q11 P w K mg base):Q12 P w K mg base:=by
 have hcl:∀n,RN.contains n=true->(clR K RN n).isSome=true:=λn hn=>Option.isSome_iff_exists.mpr (XTt.has hn)
 obtain⟨S,mS,xS⟩:=XTt.xcls hB
 obtain⟨C_TooMany,hc_TooMany⟩:=XTt.has (n:="TooMany") (by decide)
 have mc_TooMany:=XTt.mgc _ _ (XTt.cls hc_TooMany).1
 obtain⟨bm_TooMany,xc_TooMany,_⟩:=xS.own _ _ hc_TooMany
 refine⟨f,fd,?_,m,F.kp,F.binds λ_ _ _ _ _ _ us hl=>match us,hl with | [_],_=>rfl⟩
 show uv P w K mg base (CX1 P w) 6 f fd ["store"] (spX K (clR K RN) (wy (["store"]:List Str).length (["store"]:List Str).length z7))
 refine wB (N:=["store"]) (ps:=["store"]) (k:=5) (O:=[]) (body:=z7) (cl:=clR K RN) F vx ?a ?b
 case a=>decide
 intro cdv A outer s H E B hr
 have L:=wA (P:=P) (w:=w) (K:=K) (mg:=mg) (base:=base) (N:=["store"]) (qual:="need_stowable") (scope:=qd qN) (f:=f) (cdv:=cdv) (A:=A) (outer:=outer) (s:=s) (H:=H) (E:=E) (c:=cfn [] [] B H (λ_=>False) (λx H'=>∀C,clR K RN x.cls=some C->E (.ref C) none H') λ_=>none) (cl:=clR K RN) rfl (λx C H' h1 h2=>h2 C h1)
 exact (qk (uU (xC L.two hcl C_need_store hr (qb (qc 0) qe)))
   (qk (uU (xC L.two hcl C_need_single hr (qb (qc 0) qe)))
   (qq (yH (zV qcQ w6 (qv zk zl rfl T.b_len yN (qb (qc 0) qe)) (gI T.c_KINDS_STOWED_AT_MOST) (qW _)) (qq (vI rfl L hc_TooMany rfl mc_TooMany xc_TooMany (qb uA qe))) qV))))
theorem qdp:qy ["thing","store"] ["thing","store"] (qd js):=⟨rfl,rfl,rfl,by decide +kernel,rfl,by decide +kernel,by decide +kernel⟩
theorem q13 (F:Fun K "is_stow" "is_stow" js f fd) (m:mg "is_stow"=some (.ref f)) (T:Txt K mg) (XTt:XT K mg RN TN) (hB:K.In base) (C_can_stow:Q7 P w K mg base) (C_need_stowable:Q12 P w K mg base):Q13 P w K mg base:=by
 have hcl:∀n,RN.contains n=true->(clR K RN n).isSome=true:=λn hn=>Option.isSome_iff_exists.mpr (XTt.has hn)
 refine⟨f,fd,?_,m,F.kp,F.binds λ_ _ _ _ _ _ us hl=>match us,hl with | [_,_],_=>rfl⟩
 show uv P w K mg base (CX1 P w) 7 f fd ["thing","store"] (spX K (clR K RN) (wy (["thing","store"]:List Str).length (["thing","store"]:List Str).length uQ))
 refine wB (N:=["thing","store"]) (ps:=["thing","store"]) (k:=6) (O:=[]) (body:=uQ) (cl:=clR K RN) F qdp ?a ?b
 case a=>decide
 intro cdv A outer s H E B hr
 have L:=wA (P:=P) (w:=w) (K:=K) (mg:=mg) (base:=base) (N:=["thing","store"]) (qual:="is_stow") (scope:=qd js) (f:=f) (cdv:=cdv) (A:=A) (outer:=outer) (s:=s) (H:=H) (E:=E) (c:=cfn [] [] B H (λ_=>False) (λx H'=>∀C,clR K RN x.cls=some C->E (.ref C) none H') λ_=>none) (cl:=clR K RN) rfl (λx C H' h1 h2=>h2 C h1)
 exact (qk (uU (xC L.two hcl C_need_stowable hr (qb (qc 1) qe)))
   (qk (yH (DW.dt (wW (yC (jR (uF uE rfl T.b_isinstance rfl T.b_tuple yu (qc 0) qp))) (vj (zV (vo hr) yO (qv zk zl rfl T.b_len yN (qb (qc 0) qe)) (qv zk zl rfl T.b_len yN (qb (qc 1) qe)) (qW _))))) (qq (qJ uz)) qV)
   (qq (qJ (qv (uG rfl) yK rfl T.b_all qa9 (qb (jy (fo:=none) rfl (qcd rfl T.b_zip (qb (qc 1) (qb (qc 0) qe))) (cs ["thing","store"] ["kind","sack"] 2 [] (qd js)) (f0 [] []) (λ_ _ _ _ _ _ _ _ _ _ _=>⟨(v5 (n:=2) rfl (zh (qH (i:=0) (nd ["kind","sack"])) (zh (qH (i:=1) (nd ["kind","sack"])) ue))),y8,(dC C_can_stow hr (qb (qc 0) (qb (qc 1) qe)))⟩)) qe))))))
theorem qbs:qy ["store","thing"] ["store","thing"] (qd zK):=⟨rfl,rfl,rfl,by decide +kernel,rfl,by decide +kernel,by decide +kernel⟩
theorem q14 (F:Fun K "need_stow" "need_stow" zK f fd) (m:mg "need_stow"=some (.ref f)) (T:Txt K mg) (XTt:XT K mg RN TN) (hB:K.In base) (C_is_stow:Q13 P w K mg base):Q14 P w K mg base:=by
 have hcl:∀n,RN.contains n=true->(clR K RN n).isSome=true:=λn hn=>Option.isSome_iff_exists.mpr (XTt.has hn)
 obtain⟨S,mS,xS⟩:=XTt.xcls hB
 obtain⟨C_NoLoad,hc_NoLoad⟩:=XTt.has (n:="NoLoad") (by decide)
 have mc_NoLoad:=XTt.mgc _ _ (XTt.cls hc_NoLoad).1
 obtain⟨bm_NoLoad,xc_NoLoad,_⟩:=xS.own _ _ hc_NoLoad
 refine⟨f,fd,?_,m,F.kp,F.binds λ_ _ _ _ _ _ us hl=>match us,hl with | [_,_],_=>rfl⟩
 show uv P w K mg base (CX1 P w) 8 f fd ["store","thing"] (spX K (clR K RN) (wy (["store","thing"]:List Str).length (["store","thing"]:List Str).length jY))
 refine wB (N:=["store","thing"]) (ps:=["store","thing"]) (k:=7) (O:=[]) (body:=jY) (cl:=clR K RN) F qbs ?a ?b
 case a=>decide
 intro cdv A outer s H E B hr
 have L:=wA (P:=P) (w:=w) (K:=K) (mg:=mg) (base:=base) (N:=["store","thing"]) (qual:="need_stow") (scope:=qd zK) (f:=f) (cdv:=cdv) (A:=A) (outer:=outer) (s:=s) (H:=H) (E:=E) (c:=cfn [] [] B H (λ_=>False) (λx H'=>∀C,clR K RN x.cls=some C->E (.ref C) none H') λ_=>none) (cl:=clR K RN) rfl (λx C H' h1 h2=>h2 C h1)
 exact(qq (yH (yC (jR (xC L.two hcl C_is_stow hr (qb (qc 1) (qb (qc 0) qe))))) (qq (vI rfl L hc_NoLoad rfl mc_NoLoad xc_NoLoad (qb uA qe))) qV))
theorem wQ:qy ["store","stow"] ["store","stow"] (qd qR):=⟨rfl,rfl,rfl,by decide +kernel,rfl,by decide +kernel,by decide +kernel⟩
theorem q15 (F:Fun K "stow_weights" "stow_weights" qR f fd) (m:mg "stow_weights"=some (.ref f)) (T:Txt K mg) (XTt:XT K mg RN TN) (hB:K.In base) (C_weight_in:Q2 P w K mg base) (C_need_stow:Q14 P w K mg base):Q15 P w K mg base:=by
 have hcl:∀n,RN.contains n=true->(clR K RN n).isSome=true:=λn hn=>Option.isSome_iff_exists.mpr (XTt.has hn)
 refine⟨f,fd,?_,m,F.kp,F.binds λ_ _ _ _ _ _ us hl=>match us,hl with | [_,_],_=>rfl⟩
 show uv P w K mg base (CX1 P w) 9 f fd ["store","stow"] (spX K (clR K RN) (wy (["store","stow"]:List Str).length (["store","stow"]:List Str).length zD))
 refine wB (N:=["store","stow"]) (ps:=["store","stow"]) (k:=8) (O:=[]) (body:=zD) (cl:=clR K RN) F wQ ?a ?b
 case a=>decide
 intro cdv A outer s H E B hr
 have L:=wA (P:=P) (w:=w) (K:=K) (mg:=mg) (base:=base) (N:=["store","stow"]) (qual:="stow_weights") (scope:=qd qR) (f:=f) (cdv:=cdv) (A:=A) (outer:=outer) (s:=s) (H:=H) (E:=E) (c:=cfn [] [] B H (λ_=>False) (λx H'=>∀C,clR K RN x.cls=some C->E (.ref C) none H') λ_=>none) (cl:=clR K RN) rfl (λx C H' h1 h2=>h2 C h1)
 exact (qk (uU (xC L.two hcl C_need_stow hr (qb (qc 0) (qb (qc 1) qe))))
   (qq (qJ (zB (qb (dC C_weight_in hr (qb (qc 0) (qb (qc 1) (qb qf qe)))) (qb (dC C_weight_in hr (qb (qc 0) (qb (qc 1) (qb qf qe)))) qe))))))
theorem qaP:qy ["store","stow"] ["store","stow"] (qd za):=⟨rfl,rfl,rfl,by decide +kernel,rfl,by decide +kernel,by decide +kernel⟩
theorem q16 (F:Fun K "stow_worth" "stow_worth" za f fd) (m:mg "stow_worth"=some (.ref f)) (T:Txt K mg) (XTt:XT K mg RN TN) (hB:K.In base) (C_need_stow:Q14 P w K mg base):Q16 P w K mg base:=by
 have hcl:∀n,RN.contains n=true->(clR K RN n).isSome=true:=λn hn=>Option.isSome_iff_exists.mpr (XTt.has hn)
 refine⟨f,fd,?_,m,F.kp,F.binds λ_ _ _ _ _ _ us hl=>match us,hl with | [_,_],_=>rfl⟩
 show uv P w K mg base (CX1 P w) 9 f fd ["store","stow"] (spX K (clR K RN) (wy (["store","stow"]:List Str).length (["store","stow"]:List Str).length ju))
 refine wB (N:=["store","stow"]) (ps:=["store","stow"]) (k:=8) (O:=[]) (body:=ju) (cl:=clR K RN) F qaP ?a ?b
 case a=>decide
 intro cdv A outer s H E B hr
 have L:=wA (P:=P) (w:=w) (K:=K) (mg:=mg) (base:=base) (N:=["store","stow"]) (qual:="stow_worth") (scope:=qd za) (f:=f) (cdv:=cdv) (A:=A) (outer:=outer) (s:=s) (H:=H) (E:=E) (c:=cfn [] [] B H (λ_=>False) (λx H'=>∀C,clR K RN x.cls=some C->E (.ref C) none H') λ_=>none) (cl:=clR K RN) rfl (λx C H' h1 h2=>h2 C h1)
 exact (qk (uU (xC L.two hcl C_need_stow hr (qb (qc 0) (qb (qc 1) qe))))
   (qq (qJ (qv (vC rfl) uH rfl T.b_sum qce (qb (jy (fo:=none) rfl (qcd rfl T.b_zip (qb (qc 0) (qb (qc 1) qe))) (cs ["store","stow"] ["kind","where"] 2 [] (qd za)) (f0 [] []) (λ_ _ _ _ _ _ _ _ _ _ _=>⟨(v5 (n:=2) rfl (zh (qH (i:=0) (nd ["kind","where"])) (zh (qH (i:=1) (nd ["kind","where"])) ue))),(qa6 (zV qcQ w6 (qc 1) qf (qW _))),(yq zY zW (qc 0) (gI T.c_WORTH))⟩)) qe)))))
theorem jZ:qy ["e","found"] ["e"] (qd qT):=⟨rfl,rfl,rfl,by decide +kernel,rfl,by decide +kernel,by decide +kernel⟩
theorem q17 (F:Fun K "_law_classes" "_law_classes" qT f fd) (m:mg "_law_classes"=some (.ref f)) (T:Txt K mg) (XTt:XT K mg RN TN) (hB:K.In base):Q17 P w K mg base:=by
 have rn0:RN.contains "NotSingle"=true:=by decide
 refine⟨f,fd,?_,m,F.kp,F.binds λ_ _ _ _ _ _ us hl=>match us,hl with | [_],_=>rfl⟩
 show qau P w K mg base CX0 1 f fd ["e"] (spD K (dfn (["e","found"]:List Str).length (["e"]:List Str).length yc))
 refine qcr (N:=["e","found"]) (ps:=["e"]) (k:=0) (O:=[]) (body:=yc) F jZ ?a ?b
 case a=>decide
 intro cdv A outer s H E B hr al
 have hal:∀Z σ H',Rep K (cfn [] [] B H (λ_=>False) (λ_ _=>False) λ_=>none) Z σ H'->AloneA (A.deeper (ya0 "_law_classes" (qd qT) s.heap.objs.size f cdv)) H':=Sk.AloneA.rep al (λ_ z=>z)
 exact (qk (zw (i:=1) jZ.nd (jQ (qb (ua (RN:=RN) (m:="NoStore") (mgl:=mg) XTt (by decide) (by decide) rfl T.b_isinstance rfl (qc 0) (XTt.ask rn0 (by decide)) qp) (qb (ua (RN:=RN) (m:="NoNumber") (mgl:=mg) XTt (by decide) (by decide) rfl T.b_isinstance rfl (qc 0) (XTt.ask rn0 (by decide)) qp) (qb (ua (RN:=RN) (m:="NoLoad") (mgl:=mg) XTt (by decide) (by decide) rfl T.b_isinstance rfl (qc 0) (XTt.ask rn0 (by decide)) qp) (qb (ua (RN:=RN) (m:="TooMany") (mgl:=mg) XTt (by decide) (by decide) rfl T.b_isinstance rfl (qc 0) (XTt.ask rn0 (by decide)) qp) qe))))))
   (qk (zw (i:=1) jZ.nd (qF zx zy (qc 1) (jQ (qb (ua (RN:=RN) (m:="NotSingle") (mgl:=mg) XTt (by decide) (by decide) rfl T.b_isinstance rfl (qc 0) (XTt.ask rn0 (by decide)) qp) (qb (ua (RN:=RN) (m:="NotEndless") (mgl:=mg) XTt (by decide) (by decide) rfl T.b_isinstance rfl (qc 0) (XTt.ask rn0 (by decide)) qp) (qb (ua (RN:=RN) (m:="NoKind") (mgl:=mg) XTt (by decide) (by decide) rfl T.b_isinstance rfl (qc 0) (XTt.ask rn0 (by decide)) qp) qe))))))
   (qq (qJ (qF zx zy (qc 1) (jQ (qb (ua (RN:=RN) (m:="NoLine") (mgl:=mg) XTt (by decide) (by decide) rfl T.b_isinstance rfl (qc 0) (XTt.ask rn0 (by decide)) qp) (qb (ua (RN:=RN) (m:="NoText") (mgl:=mg) XTt (by decide) (by decide) rfl T.b_isinstance rfl (qc 0) (XTt.ask rn0 (by decide)) qp) qe))))))))
theorem qbt:qy ["e","place"] ["e","place"] (qd zo):=⟨rfl,rfl,rfl,by decide +kernel,rfl,by decide +kernel,by decide +kernel⟩
theorem q18 (F:Fun K "_law_only" "_law_only" zo f fd) (m:mg "_law_only"=some (.ref f)) (T:Txt K mg) (XTt:XT K mg RN TN) (hB:K.In base) (C__law_classes:Q17 P w K mg base):Q18 P w K mg base:=by
 have rn0:RN.contains "NotSingle"=true:=by decide
 refine⟨f,fd,?_,m,F.kp,F.binds λ_ _ _ _ _ _ us hl=>match us,hl with | [_,_],_=>rfl⟩
 show qau P w K mg base CX0 2 f fd ["e","place"] (spD K (dfn (["e","place"]:List Str).length (["e","place"]:List Str).length ur))
 refine qcr (N:=["e","place"]) (ps:=["e","place"]) (k:=1) (O:=[]) (body:=ur) F qbt ?a ?b
 case a=>decide
 intro cdv A outer s H E B hr al
 have hal:∀Z σ H',Rep K (cfn [] [] B H (λ_=>False) (λ_ _=>False) λ_=>none) Z σ H'->AloneA (A.deeper (ya0 "_law_only" (qd zo) s.heap.objs.size f cdv)) H':=Sk.AloneA.rep al (λ_ z=>z)
 exact (qk (yH (DW.dt (wW (yC (jR (ua (RN:=RN) (m:="SackError") (mgl:=mg) XTt (by decide) (by decide) rfl T.b_isinstance rfl (qc 0) (XTt.ask rn0 (by decide)) qp))) (vj (yC (jR (qhV XTt rfl T.b_isinstance rfl T.b_ValueError (qc 0) qp)))))) (qq (qJ uz)) qV)
   (qq (qJ (uB (qeu hr) uj (lC hal C__law_classes hr (qb (qc 0) qe)) (qcu (fo:=none) hal (qad rfl T.b_range (qb qf qe)) (cs ["e","place"] ["k","place"] 1 [1] (qd zo)) (f0 [1] []) rfl (λ_ _ _ _ _ _ _ _ _ _ _ hal=>⟨(qH (i:=0) (nd ["k","place"])),y8,(uB (qeu hr) uj (qc 0) (qc 1) (qW _))⟩)) (qW _)))))
theorem vv:qy ["kind","store","thing","e"] ["kind","store","thing"] (qd zL):=⟨rfl,rfl,rfl,by decide +kernel,rfl,by decide +kernel,by decide +kernel⟩
theorem q19 (F:Fun K "_law_told" "_law_told" zL f fd) (m:mg "_law_told"=some (.ref f)) (T:Txt K mg) (XTt:XT K mg RN TN) (hB:K.In base) (C_stow_weights:Q15 P w K mg base) (C_stow_worth:Q16 P w K mg base) (C__law_only:Q18 P w K mg base):Q19 P w K mg base:=by
 have hcl:∀n,RN.contains n=true->(clR K RN n).isSome=true:=λn hn=>Option.isSome_iff_exists.mpr (XTt.has hn)
 obtain⟨S,mS,xS⟩:=XTt.xcls hB
 refine⟨f,fd,?_,m,F.kp,F.binds λ_ _ _ _ _ _ us hl=>match us,hl with | [_,_,_],_=>rfl⟩
 exact jb (N:=["kind","store","thing","e"]) (O:=[]) (body:=ji) F vv (by decide) λcdv A outer s H E B hr=>(qq (qhT (i:=3) vv.nd rfl rfl xS rfl mS (λee H6 al=>have hal:=qlo (K:=K) al;have hr:=qh1 (e:=ee) hr;(qF zx zy (jQ (qb uA qe)) (qcu (fo:=none) hal (qad rfl T.b_range (qb qf qe)) (cs ["kind","store","thing","e"] ["place","e"] 1 [3] (qd zL)) (f0 [3] []) rfl (λ_ _ _ _ _ _ _ _ _ _ _ hal=>⟨(qH (i:=0) (nd ["place","e"])),(qa6 (jR (lC hal C__law_only hr (qb (qc 1) (qb (qc 0) qe))))),(qc 0)⟩)))) (λxe pn E2 cE L=>(qq (qJ (qjg (zV (qba hr) uj (qc 0) qf (qW _)) (xC L hcl C_stow_weights hr (qb (qc 1) (qb (qc 2) qe))) (xC L hcl C_stow_worth hr (qb (qc 1) (qb (qc 2) qe)))))))))
theorem qaQ:qy ["thing"] ["thing"] (qd zQ):=⟨rfl,rfl,rfl,by decide +kernel,rfl,by decide +kernel,by decide +kernel⟩
theorem q20 (F:Fun K "_law_whole" "_law_whole" zQ f fd) (m:mg "_law_whole"=some (.ref f)) (T:Txt K mg) (XTt:XT K mg RN TN) (hB:K.In base):Q20 P w K mg base:=by
 refine⟨f,fd,?_,m,F.kp,F.binds λ_ _ _ _ _ _ us hl=>match us,hl with | [_],_=>rfl⟩
 exact jb (N:=["thing"]) (O:=[]) (body:=yT) F qaQ (by decide) λcdv A outer s H E B hr=>(qq (qJ (qa3 (uF qd2 rfl T.b_isinstance rfl T.b_int qei (qc 0) qp) (vZ (qgm (uF qap rfl T.b_isinstance rfl T.b_bool qbD (qc 0) qp))))))
theorem qdq:qy ["thing","store"] ["thing","store"] (qd jt):=⟨rfl,rfl,rfl,by decide +kernel,rfl,by decide +kernel,by decide +kernel⟩
theorem q21 (F:Fun K "_law_is" "_law_is" jt f fd) (m:mg "_law_is"=some (.ref f)) (T:Txt K mg) (XTt:XT K mg RN TN) (hB:K.In base) (C__law_whole:Q20 P w K mg base):Q21 P w K mg base:=by
 refine⟨f,fd,?_,m,F.kp,F.binds λ_ _ _ _ _ _ us hl=>match us,hl with | [_,_],_=>rfl⟩
 exact jb (N:=["thing","store"]) (O:=[]) (body:=wH) F qdq (by decide) λcdv A outer s H E B hr=>(qk (yH (DW.dt (wW (yC (jR (uF uE rfl T.b_isinstance rfl T.b_tuple yu (qc 0) qp))) (wW (zV (vo hr) yO (qv zk zl rfl T.b_len yN (qb (qc 0) qe)) (qv zk zl rfl T.b_len yN (qb (qc 1) qe)) (qW _)) (vj (yC (jR (qv (uG rfl) yK rfl T.b_all qa9 (qb (jy (fo:=none) rfl (vk (qc 0)) (cs ["thing","store"] ["one"] 1 [] (qd jt)) (f0 [] []) (λ_ _ _ _ _ _ _ _ _ _ _=>⟨(qH (i:=0) (nd ["one"])),y8,(dC C__law_whole hr (qb (qc 0) qe))⟩)) qe)))))))) (qq (qJ uz)) qV)
   (qq (qJ (qv (uG rfl) yK rfl T.b_all qa9 (qb (jy (fo:=none) rfl (qcd rfl T.b_zip (qb (qc 0) (qb (qc 1) qe))) (cs ["thing","store"] ["one","kind"] 2 [] (qd jt)) (f0 [] []) (λ_ _ _ _ _ _ _ _ _ _ _=>⟨(v5 (n:=2) rfl (zh (qH (i:=0) (nd ["one","kind"])) (zh (qH (i:=1) (nd ["one","kind"])) ue))),y8,(qfV qg1 qdY qg1 qdY qf (qc 0) (qF jz zu qf (yq zY zW (qc 1) qf)))⟩)) qe)))))
theorem wR:qy ["box","some"] ["box"] (qd jL):=⟨rfl,rfl,rfl,by decide +kernel,rfl,by decide +kernel,by decide +kernel⟩
theorem q22 (F:Fun K "_law_odd" "_law_odd" jL f fd) (m:mg "_law_odd"=some (.ref f)) (T:Txt K mg) (XTt:XT K mg RN TN) (hB:K.In base) (C__law_take:Q0 P w K mg base):Q22 P w K mg base:=by
 refine⟨f,fd,?_,m,F.kp,F.binds λ_ _ _ _ _ _ us hl=>match us,hl with | [_],_=>rfl⟩
 show uv P w K mg base CX0 2 f fd ["box"] (qdu K (uX (["box","some"]:List Str).length (["box"]:List Str).length y0))
 refine qfz (N:=["box","some"]) (ps:=["box"]) (k:=1) (O:=[0]) (body:=y0) F wR ?a ?a0 ?b
 case a=>decide
 case a0=>decide
 intro cdv A outer s H E B Io S hr
 exact (qk (zw (i:=1) wR.nd (jQ (qb qa2 (qb uz (qb uz (qb (qeg qf) (qb qf (qb uA (qb uA (qb (zB (qb qf qe)) (qb (jQ (qb qf qe)) (qb qfG (qb (zB (qb (qeg qf) qe)) (qb (zB (qb uz qe)) (qb (zB (qb (zB (qb qf qe)) qe)) (qb (zB (qb qa2 qe)) (qb (qF qgg qef qf qf) (qb (jQ qe) qe))))))))))))))))))
   (qq (qJ (yq zY zW (qc 1) (iC (i:=0) C__law_take hr (qb qf qe))))))
theorem zF:qy ["box","most","far","found","k","heft","gain"] ["box","most"] (qd zv):=⟨rfl,rfl,rfl,by decide +kernel,rfl,by decide +kernel,by decide +kernel⟩
theorem q23 (F:Fun K "_law_single" "_law_single" zv f fd) (m:mg "_law_single"=some (.ref f)) (T:Txt K mg) (XTt:XT K mg RN TN) (hB:K.In base) (C__law_take:Q0 P w K mg base):Q23 P w K mg base:=by
 refine⟨f,fd,?_,m,F.kp,F.binds λ_ _ _ _ _ _ us hl=>match us,hl with | [_,_],_=>rfl⟩
 show uv P w K mg base CX0 2 f fd ["box","most"] (qdu K (uX (["box","most","far","found","k","heft","gain"]:List Str).length (["box","most"]:List Str).length jD))
 refine qfz (N:=["box","most","far","found","k","heft","gain"]) (ps:=["box","most"]) (k:=1) (O:=[0,3]) (body:=jD) F zF ?a ?a0 ?b
 case a=>decide
 case a0=>decide
 intro cdv A outer s H E B Io S hr
 exact (qk (zw (i:=2) zF.nd (yq zY zW (jQ (qb qf (qb qf (qb (qF qgg qef qf qf) qe)))) (iC (i:=0) C__law_take hr (qb qf qe))))
   (qk (qd9 (i:=3) zF.nd (qjs qe))
   (qk (qb9 yc9 rfl (yL rfl T.b_range (qb (iC (i:=0) C__law_take hr (qb (qF zx zy (qc 1) qf) qe)) qe)) (qH (i:=4) zF.nd) (qk (qjE (i:=5) (j:=6) zF.nd (qb (qF zx zy (qF jz zu (qc 2) (qF zx zy qf (iC (i:=0) C__law_take hr (qb qf qe)))) (qF jz zu (qc 4) (qF qgf qdW (qc 2) qf))) (qb (iC (i:=0) C__law_take hr (qb qf qe)) qe)) rfl)
   (qq (uU (qd8 (i:=3) (zB (qb (qc 5) (qb (qc 6) (qb (uC qdI qc0 rfl T.b_int qei (qb (uB qcQ w6 (iC (i:=0) C__law_take hr (qb qf qe)) qf (qW _)) qe)) qe)))))))))
   (qq (qJ (qho (i:=3) rfl T.b_tuple yu))))))
theorem zr:qy ["script","k","here","number","j","part"] ["script","k"] (qd jM):=⟨rfl,rfl,rfl,by decide +kernel,rfl,by decide +kernel,by decide +kernel⟩
theorem q24 (F:Fun K "_law_box" "_law_box" jM f fd) (m:mg "_law_box"=some (.ref f)) (T:Txt K mg) (XTt:XT K mg RN TN) (hB:K.In base):Q24 P w K mg base:=by
 refine⟨f,fd,?_,m,F.kp,F.binds λ_ _ _ _ _ _ us hl=>match us,hl with | [_,_],_=>rfl⟩
 exact jb (N:=["script","k","here","number","j","part"]) (O:=[]) (body:=y7) F zr (by decide) λcdv A outer s H E B hr=>(qk (zw (i:=2) zr.nd (qF zx zy (qF jz zu qf (qc 1)) qf))
   (qk (yH (zV qiX qgn (qc 1) (qv zk zl rfl T.b_len yN (qb (qc 0) qe)) (qW _)) (qq (zw (i:=2) zr.nd (yq zY zW (qc 0) (qc 1)))) qV)
   (qk (yH (zV (qba hr) uj (qF qaS v8 (qc 2) qf) qf (qW _)) (qq (qJ (jQ (qb (qF qg0 qfn (qc 2) qf) qe)))) qV)
   (qk (zw (i:=3) zr.nd qf)
   (qk (qb9 yc9 rfl (yL rfl T.b_range (qb qf qe)) (qH (i:=4) zr.nd) (qk (zw (i:=5) zr.nd (qF qaS v8 (qF zx zy (qF zx zy (qF jz zu (qF qaS v8 (qc 2) qf) qf) (qF jz zu qf (qc 4))) qf) qf))
   (qk (zw (i:=5) zr.nd (qF qaS v8 (qF jz zu (qc 5) (qc 5)) qf))
   (qq (zw (i:=3) zr.nd (qF zx zy (qF jz zu (qc 3) qf) (qF qaS v8 (qF jz zu (qc 5) (qF zx zy (qc 5) qf)) qf)))))))
   (qq (qJ (jQ (qb (qc 3) qe)))))))))
theorem yk:qy ["script","k","box","store","stow","odd","thing","held","good","found","pairs","both","dear"] ["script"] (qd uP):=⟨rfl,rfl,rfl,by decide +kernel,rfl,by decide +kernel,by decide +kernel⟩
theorem qkD (F:Fun K "law" "law" uP f fd) (T:Txt K mg) (XTt:XT K mg RN TN) (hB:K.In base) (C__law_bent:Q1 P w K mg base) (C__law_told:Q19 P w K mg base) (C_is_stow:Q13 P w K mg base) (C__law_is:Q21 P w K mg base) (C__law_odd:Q22 P w K mg base) (C__law_take:Q0 P w K mg base) (C__law_single:Q23 P w K mg base) (C__law_box:Q24 P w K mg base):uv P w K mg base CX0 11 f fd ["script"] (spD K qbT):=by
 exact jb (N:=["script","k","box","store","stow","odd","thing","held","good","found","pairs","both","dear"]) (O:=[2]) (body:=qin) F yk (by decide) λcdv A outer s H E B hr=>(qk (qb9 yc9 rfl (yL rfl T.b_range (qb (qv (qdG rfl) qd0 rfl T.b_max qjF (qb qf (qb (qv (qdH rfl) qd1 rfl T.b_min qjG (qb (qv zk zl rfl T.b_len yN (qb (qc 0) qe)) (qb qf qe))) qe))) qe)) (qH (i:=1) yk.nd) (qk (qd9 (i:=2) yk.nd (nC C__law_box hr (qb (qc 0) (qb (qc 1) qe))))
   (qk (zw (i:=3) yk.nd (iC (i:=2) C__law_single hr (qb qf qe)))
   (qk (zw (i:=4) yk.nd (uC yo wd rfl T.b_tuple yu (qb (jy (fo:=(some (1,2))) rfl (vk (qc 3)) (cs ["script","k","box","store","stow","odd","thing","held","good","found","pairs","both","dear"] ["kind","box"] 1 [2] (qd uP)) (f1 1 [2] [2] 1 2) (λ_ _ _ _ _ _ _ _ _ _ _=>⟨(qH (i:=0) (nd ["kind","box"])),y8,(qF jz zu (iC (i:=1) C__law_take hr (qb qf qe)) (yq zY zW (qc 0) qf))⟩)) qe)))
   (qk (zw (i:=5) yk.nd (iC (i:=2) C__law_odd hr qe))
   (qq (qb9 yc9 rfl (vk (qF zx zy (jQ (qb (qc 4) (qb (qc 5) (qb (qF qih qfZ (zB (qb qf qe)) (qv zk zl rfl T.b_len yN (qb (qc 3) qe))) qe)))) (jy (fo:=(some (1,2))) rfl (yL rfl T.b_range (qb qf qe)) (cs ["script","k","box","store","stow","odd","thing","held","good","found","pairs","both","dear"] ["lap","box","stow","odd"] 1 [2,4,5] (qd uP)) (f1 1 [2,4,5] [2] 1 2) (λ_ _ _ _ _ _ _ _ _ _ _=>⟨(qH (i:=0) (nd ["lap","box","stow","odd"])),y8,(iC (i:=1) C__law_bent hr (qb (qc 2) (qb (qc 3) qe)))⟩)))) (qH (i:=6) yk.nd) (qk (zw (i:=7) yk.nd (qv (jF hr) jG rfl T.b_repr u0 (qb (qc 6) qe)))
   (qk (zw (i:=8) yk.nd (dC C__law_is hr (qb (qc 6) (qb (qc 3) qe))))
   (qk (zw (i:=9) yk.nd (pC C_is_stow hr (qb (qc 6) (qb (qc 3) qe))))
   (qk (yH (DW.dt (wW (yC (jR (uF qap rfl T.b_isinstance rfl T.b_bool qbD (qc 9) qp))) (wW (zV (vo hr) yO (qc 9) (qc 8) (qW _)) (vj (zV (vo hr) yO (qv (jF hr) jG rfl T.b_repr u0 (qb (qc 6) qe)) (qc 7) (qW _)))))) (qq (qJ uz)) qV)
   (qq (yH (jR (qc 8)) (qk (zw (i:=10) yk.nd (qie rfl rfl T.b_list rfl T.b_zip (qb (qc 3) (qb (qc 6) qe))))
   (qk (zw (i:=11) yk.nd (uC yo wd rfl T.b_tuple yu (qb (deCz (z:="sack") (fo:=none) rfl (vk (zB (qb qf (qb qf qe)))) (cs1 "sack" ["script","k","box","store","stow","odd","thing","held","good","found","pairs","both","dear"] ["sack","pairs"] 1 [10] (qd uP)) (f0 [10] [2]) (λ_ _ _ _ _ _ _ _ _ _ _=>⟨(qH (i:=0) (nd ["sack","pairs"])),y8,(qv (vC rfl) uH rfl T.b_sum qce (qb (jy (fo:=none) rfl (vk (qc 1)) (cs2 ["kind","one","sack"] 2 0) (f0 [0] []) (λ_ _ _ _ _ _ _ _ _ _ _=>⟨(v5 (n:=2) rfl (zh (qH (i:=0) (nd ["kind","one","sack"])) (zh (qH (i:=1) (nd ["kind","one","sack"])) ue))),(qa6 (zV (qba hr) uj (qc 1) (qc 2) (qW _))),(yq zY zW (qc 0) qf)⟩)) qe))⟩)) qe)))
   (qk (zw (i:=12) yk.nd (qv (vC rfl) uH rfl T.b_sum qce (qb (jy (fo:=none) rfl (vk (qc 10)) (cs ["script","k","box","store","stow","odd","thing","held","good","found","pairs","both","dear"] ["kind","one"] 2 [] (qd uP)) (f0 [] [2]) (λ_ _ _ _ _ _ _ _ _ _ _=>⟨(v5 (n:=2) rfl (zh (qH (i:=0) (nd ["kind","one"])) (zh (qH (i:=1) (nd ["kind","one"])) ue))),(qa6 (zV qcQ w6 (qc 1) qf (qW _))),(yq zY zW (qc 0) qf)⟩)) qe)))
   (qq (yH (DW.dt (wW (zV (vo hr) yO (qv (jF hr) jG rfl T.b_repr u0 (qb (dC C__law_told hr (qb qf (qb (qc 3) (qb (qc 6) qe)))) qe)) (qv (jF hr) jG rfl T.b_repr u0 (qb (qc 11) qe)) (qW _)) (vj (zV (vo hr) yO (qv (jF hr) jG rfl T.b_repr u0 (qb (dC C__law_told hr (qb qf (qb (qc 3) (qb (qc 6) qe)))) qe)) (qv (jF hr) jG rfl T.b_repr u0 (qb (qc 12) qe)) (qW _))))) (qq (qJ uz)) qV))))) (qq (yH (zV (vo hr) yO (jy (fo:=none) rfl (yL rfl T.b_range (qb qf qe)) (cs ["script","k","box","store","stow","odd","thing","held","good","found","pairs","both","dear"] ["kind","store","thing"] 1 [3,6] (qd uP)) (f0 [3,6] [2]) (λ_ _ _ _ _ _ _ _ _ _ _=>⟨(qH (i:=0) (nd ["kind","store","thing"])),y8,(dC C__law_told hr (qb (qc 0) (qb (qc 1) (qb (qc 2) qe))))⟩)) (qF jz zu (jQ (qb (jQ (qb uA (qb qf qe))) qe)) qf) (qW _)) (qq (qJ uz)) qV)))))))))))))))
   (qq (qJ uz)))
end
theorem all_mk {l:yd5} {w:World} {K:yai} {h:Heap} {mg:Str->Option Value} {fa f0 f1 f2 f3 f4 f5 f6 f7 f8 f9 f10 f11 f12 f13 f14 f15 f16 f17 f18 f19 f20 f21 f22 f23 f24 f25:Addr} (X:K.In h) (G:h.Ns yah mg) (hfa:mg "law"=some (.ref fa))
  {od0 an0 od1 an1 od2 an2 od3 an3 od4 an4 od5 an5 od6 an6 od7 an7 od8 an8 od9 an9 od10 an10 od11 an11 od12 an12 od13 an13 od14 an14 od15 an15 od16 an16 od17 an17 od18 an18 od19 an19 od20 an20 od21 an21 od22 an22 od23 an23 od24 an24 od25 an25:Option Addr} {sl0 sl1 sl2 sl3 sl4 sl5 sl6 sl7 sl8 sl9 sl10 sl11 sl12 sl13 sl14 sl15 sl16 sl17 sl18 sl19 sl20 sl21 sl22 sl23 sl24 sl25:Array (Option Value)} {oc0 kV0 dc0 pm0 cd0 ct0 oc1 kV1 dc1 pm1 cd1 ct1 oc2 kV2 dc2 pm2 cd2 ct2 oc3 kV3 dc3 pm3 cd3 ct3 oc4 kV4 dc4 pm4 cd4 ct4 oc5 kV5 dc5 pm5 cd5 ct5 oc6 kV6 dc6 pm6 cd6 ct6 oc7 kV7 dc7 pm7 cd7 ct7 oc8 kV8 dc8 pm8 cd8 ct8 oc9 kV9 dc9 pm9 cd9 ct9 oc10 kV10 dc10 pm10 cd10 ct10 oc11 kV11 dc11 pm11 cd11 ct11 oc12 kV12 dc12 pm12 cd12 ct12 oc13 kV13 dc13 pm13 cd13 ct13 oc14 kV14 dc14 pm14 cd14 ct14 oc15 kV15 dc15 pm15 cd15 ct15 oc16 kV16 dc16 pm16 cd16 ct16 oc17 kV17 dc17 pm17 cd17 ct17 oc18 kV18 dc18 pm18 cd18 ct18 oc19 kV19 dc19 pm19 cd19 ct19 oc20 kV20 dc20 pm20 cd20 ct20 oc21 kV21 dc21 pm21 cd21 ct21 oc22 kV22 dc22 pm22 cd22 ct22 oc23 kV23 dc23 pm23 cd23 ct23 oc24 kV24 dc24 pm24 cd24 ct24 oc25 kV25 dc25 pm25 cd25 ct25:Value} {tk_KINDS_AT_MOST:Tok} {tk_KINDS_STOWED_AT_MOST:Tok} {tk_MOST:Tok} {tk_WEIGHT:Tok} {tk_WORTH:Tok}
  (a0:yan K yah "_law_take"=some (some (.ref f0))) (l0:K.lookup f0=some ⟨oc0,od0,.func (yav "_law_take" "_law_take" (qB je) (qx je) (qd je) .none kV0 dc0 pm0 an0 cd0 ct0),sl0⟩) (c0:yaw K cd0 "_law_take"=true) (k0:yam K (.ref f0)=true)
  (a1:yan K yah "_law_bent"=some (some (.ref f1))) (l1:K.lookup f1=some ⟨oc1,od1,.func (yav "_law_bent" "_law_bent" (qB jf) (qx jf) (qd jf) .none kV1 dc1 pm1 an1 cd1 ct1),sl1⟩) (c1:yaw K cd1 "_law_bent"=true) (k1:yam K (.ref f1)=true)
  (a2:yan K yah "weight_in"=some (some (.ref f2))) (l2:K.lookup f2=some ⟨oc2,od2,.func (yav "weight_in" "weight_in" (qB zJ) (qx zJ) (qd zJ) .none kV2 dc2 pm2 an2 cd2 ct2),sl2⟩) (c2:yaw K cd2 "weight_in"=true) (k2:yam K (.ref f2)=true)
  (a3:yan K yah "is_whole"=some (some (.ref f3))) (l3:K.lookup f3=some ⟨oc3,od3,.func (yav "is_whole" "is_whole" (qB jH) (qx jH) (qd jH) .none kV3 dc3 pm3 an3 cd3 ct3),sl3⟩) (c3:yaw K cd3 "is_whole"=true) (k3:yam K (.ref f3)=true)
  (a4:yan K yah "is_count"=some (some (.ref f4))) (l4:K.lookup f4=some ⟨oc4,od4,.func (yav "is_count" "is_count" (qB jI) (qx jI) (qd jI) .none kV4 dc4 pm4 an4 cd4 ct4),sl4⟩) (c4:yaw K cd4 "is_count"=true) (k4:yam K (.ref f4)=true)
  (a5:yan K yah "is_there"=some (some (.ref f5))) (l5:K.lookup f5=some ⟨oc5,od5,.func (yav "is_there" "is_there" (qB jJ) (qx jJ) (qd jJ) .none kV5 dc5 pm5 an5 cd5 ct5),sl5⟩) (c5:yaw K cd5 "is_there"=true) (k5:yam K (.ref f5)=true)
  (a6:yan K yah "sacks_for"=some (some (.ref f6))) (l6:K.lookup f6=some ⟨oc6,od6,.func (yav "sacks_for" "sacks_for" (qB jg) (qx jg) (qd jg) .none kV6 dc6 pm6 an6 cd6 ct6),sl6⟩) (c6:yaw K cd6 "sacks_for"=true) (k6:yam K (.ref f6)=true)
  (a7:yan K yah "can_stow"=some (some (.ref f7))) (l7:K.lookup f7=some ⟨oc7,od7,.func (yav "can_stow" "can_stow" (qB jK) (qx jK) (qd jK) .none kV7 dc7 pm7 an7 cd7 ct7),sl7⟩) (c7:yaw K cd7 "can_stow"=true) (k7:yam K (.ref f7)=true)
  (a8:yan K yah "need_single"=some (some (.ref f8))) (l8:K.lookup f8=some ⟨oc8,od8,.func (yav "need_single" "need_single" (qB qP) (qx qP) (qd qP) .none kV8 dc8 pm8 an8 cd8 ct8),sl8⟩) (c8:yaw K cd8 "need_single"=true) (k8:yam K (.ref f8)=true)
  (a9:yan K yah "is_kind"=some (some (.ref f9))) (l9:K.lookup f9=some ⟨oc9,od9,.func (yav "is_kind" "is_kind" (qB yh) (qx yh) (qd yh) .none kV9 dc9 pm9 an9 cd9 ct9),sl9⟩) (c9:yaw K cd9 "is_kind"=true) (k9:yam K (.ref f9)=true)
  (a10:yan K yah "is_store"=some (some (.ref f10))) (l10:K.lookup f10=some ⟨oc10,od10,.func (yav "is_store" "is_store" (qB jh) (qx jh) (qd jh) .none kV10 dc10 pm10 an10 cd10 ct10),sl10⟩) (c10:yaw K cd10 "is_store"=true) (k10:yam K (.ref f10)=true)
  (a11:yan K yah "need_store"=some (some (.ref f11))) (l11:K.lookup f11=some ⟨oc11,od11,.func (yav "need_store" "need_store" (qB zn) (qx zn) (qd zn) .none kV11 dc11 pm11 an11 cd11 ct11),sl11⟩) (c11:yaw K cd11 "need_store"=true) (k11:yam K (.ref f11)=true)
  (a12:yan K yah "need_stowable"=some (some (.ref f12))) (l12:K.lookup f12=some ⟨oc12,od12,.func (yav "need_stowable" "need_stowable" (qB qN) (qx qN) (qd qN) .none kV12 dc12 pm12 an12 cd12 ct12),sl12⟩) (c12:yaw K cd12 "need_stowable"=true) (k12:yam K (.ref f12)=true)
  (a13:yan K yah "is_stow"=some (some (.ref f13))) (l13:K.lookup f13=some ⟨oc13,od13,.func (yav "is_stow" "is_stow" (qB js) (qx js) (qd js) .none kV13 dc13 pm13 an13 cd13 ct13),sl13⟩) (c13:yaw K cd13 "is_stow"=true) (k13:yam K (.ref f13)=true)
  (a14:yan K yah "need_stow"=some (some (.ref f14))) (l14:K.lookup f14=some ⟨oc14,od14,.func (yav "need_stow" "need_stow" (qB zK) (qx zK) (qd zK) .none kV14 dc14 pm14 an14 cd14 ct14),sl14⟩) (c14:yaw K cd14 "need_stow"=true) (k14:yam K (.ref f14)=true)
  (a15:yan K yah "stow_weights"=some (some (.ref f15))) (l15:K.lookup f15=some ⟨oc15,od15,.func (yav "stow_weights" "stow_weights" (qB qR) (qx qR) (qd qR) .none kV15 dc15 pm15 an15 cd15 ct15),sl15⟩) (c15:yaw K cd15 "stow_weights"=true) (k15:yam K (.ref f15)=true)
  (a16:yan K yah "stow_worth"=some (some (.ref f16))) (l16:K.lookup f16=some ⟨oc16,od16,.func (yav "stow_worth" "stow_worth" (qB za) (qx za) (qd za) .none kV16 dc16 pm16 an16 cd16 ct16),sl16⟩) (c16:yaw K cd16 "stow_worth"=true) (k16:yam K (.ref f16)=true)
  (a17:yan K yah "_law_classes"=some (some (.ref f17))) (l17:K.lookup f17=some ⟨oc17,od17,.func (yav "_law_classes" "_law_classes" (qB qT) (qx qT) (qd qT) .none kV17 dc17 pm17 an17 cd17 ct17),sl17⟩) (c17:yaw K cd17 "_law_classes"=true) (k17:yam K (.ref f17)=true)
  (a18:yan K yah "_law_only"=some (some (.ref f18))) (l18:K.lookup f18=some ⟨oc18,od18,.func (yav "_law_only" "_law_only" (qB zo) (qx zo) (qd zo) .none kV18 dc18 pm18 an18 cd18 ct18),sl18⟩) (c18:yaw K cd18 "_law_only"=true) (k18:yam K (.ref f18)=true)
  (a19:yan K yah "_law_told"=some (some (.ref f19))) (l19:K.lookup f19=some ⟨oc19,od19,.func (yav "_law_told" "_law_told" (qB zL) (qx zL) (qd zL) .none kV19 dc19 pm19 an19 cd19 ct19),sl19⟩) (c19:yaw K cd19 "_law_told"=true) (k19:yam K (.ref f19)=true)
  (a20:yan K yah "_law_whole"=some (some (.ref f20))) (l20:K.lookup f20=some ⟨oc20,od20,.func (yav "_law_whole" "_law_whole" (qB zQ) (qx zQ) (qd zQ) .none kV20 dc20 pm20 an20 cd20 ct20),sl20⟩) (c20:yaw K cd20 "_law_whole"=true) (k20:yam K (.ref f20)=true)
  (a21:yan K yah "_law_is"=some (some (.ref f21))) (l21:K.lookup f21=some ⟨oc21,od21,.func (yav "_law_is" "_law_is" (qB jt) (qx jt) (qd jt) .none kV21 dc21 pm21 an21 cd21 ct21),sl21⟩) (c21:yaw K cd21 "_law_is"=true) (k21:yam K (.ref f21)=true)
  (a22:yan K yah "_law_odd"=some (some (.ref f22))) (l22:K.lookup f22=some ⟨oc22,od22,.func (yav "_law_odd" "_law_odd" (qB jL) (qx jL) (qd jL) .none kV22 dc22 pm22 an22 cd22 ct22),sl22⟩) (c22:yaw K cd22 "_law_odd"=true) (k22:yam K (.ref f22)=true)
  (a23:yan K yah "_law_single"=some (some (.ref f23))) (l23:K.lookup f23=some ⟨oc23,od23,.func (yav "_law_single" "_law_single" (qB zv) (qx zv) (qd zv) .none kV23 dc23 pm23 an23 cd23 ct23),sl23⟩) (c23:yaw K cd23 "_law_single"=true) (k23:yam K (.ref f23)=true)
  (a24:yan K yah "_law_box"=some (some (.ref f24))) (l24:K.lookup f24=some ⟨oc24,od24,.func (yav "_law_box" "_law_box" (qB jM) (qx jM) (qd jM) .none kV24 dc24 pm24 an24 cd24 ct24),sl24⟩) (c24:yaw K cd24 "_law_box"=true) (k24:yam K (.ref f24)=true)
  (a25:yan K yah "law"=some (some (.ref f25))) (l25:K.lookup f25=some ⟨oc25,od25,.func (yav "law" "law" (qB uP) (qx uP) (qd uP) .none kV25 dc25 pm25 an25 cd25 ct25),sl25⟩) (c25:yaw K cd25 "law"=true) (k25:yam K (.ref f25)=true)
  (zb_ValueError:yan K yah "ValueError"=some none)
  (zb_all:yan K yah "all"=some none)
  (zb_bool:yan K yah "bool"=some none)
  (zb_divmod:yan K yah "divmod"=some none)
  (zb_int:yan K yah "int"=some none)
  (zb_isinstance:yan K yah "isinstance"=some none)
  (zb_len:yan K yah "len"=some none)
  (zb_list:yan K yah "list"=some none)
  (zb_max:yan K yah "max"=some none)
  (zb_min:yan K yah "min"=some none)
  (zb_range:yan K yah "range"=some none)
  (zb_repr:yan K yah "repr"=some none)
  (zb_sum:yan K yah "sum"=some none)
  (zb_tuple:yan K yah "tuple"=some none)
  (zb_zip:yan K yah "zip"=some none)
  (xz:qll K RN TN=true)
  (zg_KINDS_AT_MOST:yan K yah "KINDS_AT_MOST"=some (some (.int 12 tk_KINDS_AT_MOST)))
  (zg_KINDS_STOWED_AT_MOST:yan K yah "KINDS_STOWED_AT_MOST"=some (some (.int 8 tk_KINDS_STOWED_AT_MOST)))
  (zg_MOST:yan K yah "MOST"=some (some (.int 2 tk_MOST)))
  (zg_WEIGHT:yan K yah "WEIGHT"=some (some (.int 0 tk_WEIGHT)))
  (zg_WORTH:yan K yah "WORTH"=some (some (.int 1 tk_WORTH))) :
  ∃fd:yaN,(∀(s:yab)(v:Value),ydJ s fd ⟨[v],[]⟩ [("script",v)])/\∀base:Heap,K.In base->base.Ns yah mg->uv l.prog w K mg base CX0 11 fa fd ["script"] (spD K qbT):=by
 have e:=hfa.symm.trans (yax X G a25)
 cases e
 have T:Txt K mg:=⟨yaE X G zb_ValueError,yaE X G zb_all,yaE X G zb_bool,yaE X G zb_divmod,yaE X G zb_int,yaE X G zb_isinstance,yaE X G zb_len,yaE X G zb_list,yaE X G zb_max,yaE X G zb_min,yaE X G zb_range,yaE X G zb_repr,yaE X G zb_sum,yaE X G zb_tuple,yaE X G zb_zip,⟨_,yax X G zg_KINDS_AT_MOST⟩,⟨_,yax X G zg_KINDS_STOWED_AT_MOST⟩,⟨_,yax X G zg_MOST⟩,⟨_,yax X G zg_WEIGHT⟩,⟨_,yax X G zg_WORTH⟩⟩
 refine⟨yav "law" "law" (qB uP) (qx uP) (qd uP) .none kV25 dc25 pm25 an25 cd25 ct25,λs v => .of_eq rfl,λbase hB _=>?_⟩
 have XTt:XT K mg RN TN:=⟨xz,qfN X G⟩
 have C__law_take:=q0 (P:=l.prog) (w:=w) (base:=base) (qZ (st:=je) l0 c0 k0) (yax X G a0) T XTt hB
 have C__law_bent:=q1 (P:=l.prog) (w:=w) (base:=base) (qZ (st:=jf) l1 c1 k1) (yax X G a1) T XTt hB C__law_take
 have C_weight_in:=q2 (P:=l.prog) (w:=w) (base:=base) (qZ (st:=zJ) l2 c2 k2) (yax X G a2) T XTt hB
 have C_is_whole:=q3 (P:=l.prog) (w:=w) (base:=base) (qZ (st:=jH) l3 c3 k3) (yax X G a3) T XTt hB
 have C_is_count:=q4 (P:=l.prog) (w:=w) (base:=base) (qZ (st:=jI) l4 c4 k4) (yax X G a4) T XTt hB C_is_whole
 have C_is_there:=q5 (P:=l.prog) (w:=w) (base:=base) (qZ (st:=jJ) l5 c5 k5) (yax X G a5) T XTt hB
 have C_sacks_for:=q6 (P:=l.prog) (w:=w) (base:=base) (qZ (st:=jg) l6 c6 k6) (yax X G a6) T XTt hB C_is_there
 have C_can_stow:=q7 (P:=l.prog) (w:=w) (base:=base) (qZ (st:=jK) l7 c7 k7) (yax X G a7) T XTt hB C_is_count C_sacks_for
 have C_need_single:=q8 (P:=l.prog) (w:=w) (base:=base) (qZ (st:=qP) l8 c8 k8) (yax X G a8) T XTt hB
 have C_is_kind:=q9 (P:=l.prog) (w:=w) (base:=base) (qZ (st:=yh) l9 c9 k9) (yax X G a9) T XTt hB C_is_count
 have C_is_store:=q10 (P:=l.prog) (w:=w) (base:=base) (qZ (st:=jh) l10 c10 k10) (yax X G a10) T XTt hB C_is_kind
 have C_need_store:=q11 (P:=l.prog) (w:=w) (base:=base) (qZ (st:=zn) l11 c11 k11) (yax X G a11) T XTt hB C_is_store
 have C_need_stowable:=q12 (P:=l.prog) (w:=w) (base:=base) (qZ (st:=qN) l12 c12 k12) (yax X G a12) T XTt hB C_need_single C_need_store
 have C_is_stow:=q13 (P:=l.prog) (w:=w) (base:=base) (qZ (st:=js) l13 c13 k13) (yax X G a13) T XTt hB C_can_stow C_need_stowable
 have C_need_stow:=q14 (P:=l.prog) (w:=w) (base:=base) (qZ (st:=zK) l14 c14 k14) (yax X G a14) T XTt hB C_is_stow
 have C_stow_weights:=q15 (P:=l.prog) (w:=w) (base:=base) (qZ (st:=qR) l15 c15 k15) (yax X G a15) T XTt hB C_weight_in C_need_stow
 have C_stow_worth:=q16 (P:=l.prog) (w:=w) (base:=base) (qZ (st:=za) l16 c16 k16) (yax X G a16) T XTt hB C_need_stow
 have C__law_classes:=q17 (P:=l.prog) (w:=w) (base:=base) (qZ (st:=qT) l17 c17 k17) (yax X G a17) T XTt hB
 have C__law_only:=q18 (P:=l.prog) (w:=w) (base:=base) (qZ (st:=zo) l18 c18 k18) (yax X G a18) T XTt hB C__law_classes
 have C__law_told:=q19 (P:=l.prog) (w:=w) (base:=base) (qZ (st:=zL) l19 c19 k19) (yax X G a19) T XTt hB C_stow_weights C_stow_worth C__law_only
 have C__law_whole:=q20 (P:=l.prog) (w:=w) (base:=base) (qZ (st:=zQ) l20 c20 k20) (yax X G a20) T XTt hB
 have C__law_is:=q21 (P:=l.prog) (w:=w) (base:=base) (qZ (st:=jt) l21 c21 k21) (yax X G a21) T XTt hB C__law_whole
 have C__law_odd:=q22 (P:=l.prog) (w:=w) (base:=base) (qZ (st:=jL) l22 c22 k22) (yax X G a22) T XTt hB C__law_take
 have C__law_single:=q23 (P:=l.prog) (w:=w) (base:=base) (qZ (st:=zv) l23 c23 k23) (yax X G a23) T XTt hB C__law_take
 have C__law_box:=q24 (P:=l.prog) (w:=w) (base:=base) (qZ (st:=jM) l24 c24 k24) (yax X G a24) T XTt hB
 exact qkD (P:=l.prog) (w:=w) (base:=base) (qZ (st:=uP) l25 c25 k25) T XTt hB C__law_bent C__law_told C_is_stow C__law_is C__law_odd C__law_take C__law_single C__law_box
theorem qlM {K:Fr0} {H:Hp} {a:Addr} {ns:List Int} (hO:qkF H) (hS:SqL K H a (ns.map V.int)):qjd K H a (ns.map V.int):=by
 rcases hS with(h|h)|h
 ·rcases hO a with z|z
  ·rw[h]at z;cases z
  ·rcases z with⟨_,_,z⟩|⟨_,_,z⟩<;>(rw[h]at z;cases z)
 ·exact .inl h
 ·exact .inr h
theorem walk {l:yd5} {q:yap} {loose:List Str} {XP:(Str->Option Value)->Heap->Prop} {YP:World->Heap->Prop} {d:DefRec} {K:Params->yai} (hn:l.most=some 63) (hdf:d.params.defaults=[])
  (hY:∀(w:World)(h:Heap),YP w h->(K w.params).In h) (hlm:∀(w:World)(mean:ExcName->Option Value)(mg mb:Str->Option Value)(h:Heap)(c Pt:Addr)(pos:Pos),Top q (PySem.W.looseW q loose) mean mg mb h->(K w.params).In h->lamOf (K w.params)=some (c,Pt,pos)->yen h c Pt/\h.get? Pt=some (yeo #[])/\(K w.params).lookup Pt=none) (hlaw:∀ns:List Int,ns.length<=63->qbT [.fz ns]=.ok (.bl true))
  (F:∀(w:World)(mg:Str->Option Value)(fa:Addr)(h:Heap),(K w.params).In h->h.Ns yah mg->mg d.name=some (.ref fa) ->
   ∃fd:yaN,(∀(s:yab)(u:Value),ydJ s fd ⟨[u],[]⟩ [("script",u)])/\∀base:Heap,(K w.params).In base->base.Ns yah mg->uv l.prog w (K w.params) mg base CX0 11 fa fd ["script"] (spD (K w.params) qbT)) :
  PySem.W.WalkO q loose XP YP l.row.toRowW d [] (λf vs=>yfz f vs) :=
 L2.walk_lam (n:=63) (k:=11) (x:="script") (CX:=λ_=>CX0) (sp:=λw=>spD (K w.params) qbT) (lm:=λw=>(lamOf (K w.params)).map λz=>(z.1,z.2.1,z.2.2,qle)) hn (by decide) hdf ⟨rfl,by decide,by decide,rfl⟩ hY (λw mean mg mb h c Pt pos z T X e=>by
  cases el:lamOf (K w.params) with
  |none=>rw[el]at e;cases e
  |some p=>obtain⟨c',P',pos'⟩:=p;rw[el]at e;cases e;exact hlm w mean mg mb h _ _ _ T X el) F (λw H a ns hl hO hT hS=>by
  refine⟨[.fz ns],λ_=>False,⟨.ref a,[],rfl,⟨a,rfl,qlM hO hS⟩,rfl⟩,λc P pos e=>⟨hT c P pos qle (by rw[e];rfl),λz=>z⟩,?_⟩
  rw[hlaw ns hl]
  exact λv H' _ h=>h) λ_ _ _ _ _ z=>z
end Law
end L2.Sk
open PySem PySem.W PyProof.Rows
set_option maxRecDepth 100000 in
set_option maxHeartbeats 0 in
theorem PySem.Challenge.cw_sackloads_k61_stows_holds : PySem.Challenge.rw_sackloads_k61_stows.Holds := by
 w_on;o_law;k_head;(case hw=>w_witness2)
 k_fill
 refine L2.Sk.Law.walk (l:=PySem.Challenge.rw_sackloads_k61_stows) rfl rfl (λw h Y=>by first|exact PySem.W.kIn_of Y|exact PySem.W.km_in_of Y) ?hlm0 L2.Sk.Law.law_true ?F
 case hlm0=>
  intro w mean mg mb h c Pt pos T X e
  exact absurd ((show L2.Sk.lamOf _=none by kernel_rfl).symm.trans e) (by simp)
 case F=>
  intro w mg fa h KX G hmg
  refine' L2.Sk.Law.all_mk KX G hmg ?a0 ?l0 ?c0 ?k0 ?a1 ?l1 ?c1 ?k1 ?a2 ?l2 ?c2 ?k2 ?a3 ?l3 ?c3 ?k3 ?a4 ?l4 ?c4 ?k4 ?a5 ?l5 ?c5 ?k5 ?a6 ?l6 ?c6 ?k6 ?a7 ?l7 ?c7 ?k7 ?a8 ?l8 ?c8 ?k8 ?a9 ?l9 ?c9 ?k9 ?a10 ?l10 ?c10 ?k10 ?a11 ?l11 ?c11 ?k11 ?a12 ?l12 ?c12 ?k12 ?a13 ?l13 ?c13 ?k13 ?a14 ?l14 ?c14 ?k14 ?a15 ?l15 ?c15 ?k15 ?a16 ?l16 ?c16 ?k16 ?a17 ?l17 ?c17 ?k17 ?a18 ?l18 ?c18 ?k18 ?a19 ?l19 ?c19 ?k19 ?a20 ?l20 ?c20 ?k20 ?a21 ?l21 ?c21 ?k21 ?a22 ?l22 ?c22 ?k22 ?a23 ?l23 ?c23 ?k23 ?a24 ?l24 ?c24 ?k24 ?a25 ?l25 ?c25 ?k25 ?zb_ValueError ?zb_all ?zb_bool ?zb_divmod ?zb_int ?zb_isinstance ?zb_len ?zb_list ?zb_max ?zb_min ?zb_range ?zb_repr ?zb_sum ?zb_tuple ?zb_zip ?xz ?zg_KINDS_AT_MOST ?zg_KINDS_STOWED_AT_MOST ?zg_MOST ?zg_WEIGHT ?zg_WORTH
  (case a0=>k_is)
  (case l0=>k_is)
  (case c0=>k_is)
  (case k0=>k_is)
  (case a1=>k_is)
  (case l1=>k_is)
  (case c1=>k_is)
  (case k1=>k_is)
  (case a2=>k_is)
  (case l2=>k_is)
  (case c2=>k_is)
  (case k2=>k_is)
  (case a3=>k_is)
  (case l3=>k_is)
  (case c3=>k_is)
  (case k3=>k_is)
  (case a4=>k_is)
  (case l4=>k_is)
  (case c4=>k_is)
  (case k4=>k_is)
  (case a5=>k_is)
  (case l5=>k_is)
  (case c5=>k_is)
  (case k5=>k_is)
  (case a6=>k_is)
  (case l6=>k_is)
  (case c6=>k_is)
  (case k6=>k_is)
  (case a7=>k_is)
  (case l7=>k_is)
  (case c7=>k_is)
  (case k7=>k_is)
  (case a8=>k_is)
  (case l8=>k_is)
  (case c8=>k_is)
  (case k8=>k_is)
  (case a9=>k_is)
  (case l9=>k_is)
  (case c9=>k_is)
  (case k9=>k_is)
  (case a10=>k_is)
  (case l10=>k_is)
  (case c10=>k_is)
  (case k10=>k_is)
  (case a11=>k_is)
  (case l11=>k_is)
  (case c11=>k_is)
  (case k11=>k_is)
  (case a12=>k_is)
  (case l12=>k_is)
  (case c12=>k_is)
  (case k12=>k_is)
  (case a13=>k_is)
  (case l13=>k_is)
  (case c13=>k_is)
  (case k13=>k_is)
  (case a14=>k_is)
  (case l14=>k_is)
  (case c14=>k_is)
  (case k14=>k_is)
  (case a15=>k_is)
  (case l15=>k_is)
  (case c15=>k_is)
  (case k15=>k_is)
  (case a16=>k_is)
  (case l16=>k_is)
  (case c16=>k_is)
  (case k16=>k_is)
  (case a17=>k_is)
  (case l17=>k_is)
  (case c17=>k_is)
  (case k17=>k_is)
  (case a18=>k_is)
  (case l18=>k_is)
  (case c18=>k_is)
  (case k18=>k_is)
  (case a19=>k_is)
  (case l19=>k_is)
  (case c19=>k_is)
  (case k19=>k_is)
  (case a20=>k_is)
  (case l20=>k_is)
  (case c20=>k_is)
  (case k20=>k_is)
  (case a21=>k_is)
  (case l21=>k_is)
  (case c21=>k_is)
  (case k21=>k_is)
  (case a22=>k_is)
  (case l22=>k_is)
  (case c22=>k_is)
  (case k22=>k_is)
  (case a23=>k_is)
  (case l23=>k_is)
  (case c23=>k_is)
  (case k23=>k_is)
  (case a24=>k_is)
  (case l24=>k_is)
  (case c24=>k_is)
  (case k24=>k_is)
  (case a25=>k_is)
  (case l25=>k_is)
  (case c25=>k_is)
  (case k25=>k_is)
  (case zb_ValueError=>k_is)
  (case zb_all=>k_is)
  (case zb_bool=>k_is)
  (case zb_divmod=>k_is)
  (case zb_int=>k_is)
  (case zb_isinstance=>k_is)
  (case zb_len=>k_is)
  (case zb_list=>k_is)
  (case zb_max=>k_is)
  (case zb_min=>k_is)
  (case zb_range=>k_is)
  (case zb_repr=>k_is)
  (case zb_sum=>k_is)
  (case zb_tuple=>k_is)
  (case zb_zip=>k_is)
  (case xz=>kernel_rfl)
  (case zg_KINDS_AT_MOST=>k_is)
  (case zg_KINDS_STOWED_AT_MOST=>k_is)
  (case zg_MOST=>k_is)
  (case zg_WEIGHT=>k_is)
  (case zg_WORTH=>k_is)
