import PyProof.Rows.All
import Wide.All
import OpenK.AllK
import Wide.FinOn
import Lean
import PyProof.EqAt
import PyProof.EqKinds
import PyProof.TupleCall
import KE.KUnpack
import PyProof.Rows.SetFrom
import KE.KRevIter
import KE.KIntText
import KE.KxWritten
import KE.KxIndex
import PyProof.Rows.StrPartPair
import PyProof.StrLawsTight
import PyProof.StrLawsChain
import KE.IntTextLaws
import PySem.Challenge.RW_sackloads_k04_stores_written_and_read
namespace PySem.W.Fast
def tw4813306951420311806:Nat:=0
def tw8455513767531467065:Nat:=0
def tw7050831084697299789:Nat:=0
def tw2901431841589462346:Nat:=0
def tw17079141973063375779:Nat:=0
def tw2499526596252742644:Nat:=0
def tw17682741791022114162:Nat:=0
def tw12444758426940199146:Nat:=0
end PySem.W.Fast
open PySem renaming Shared→yaa,wpAny_bind→yab,starEach→yac,mainGlobals→yaf,Program→yai,Around→yaj,sizeLine→yap,wpAny_pure→yaq,Env→yax,bootBuiltins→yay,backTo→yaz,FuncData→yaD,wpAny_mono→yaF,mem_of_lookup→yaK,wpAny_field→yaL,compareOp→yaM,wpAny_loadPart_at→yaS,wpAny_newObj_type→yaX,strValues→ya5,wpAny_standAt→ya6,rawInt→ya7,binaryOp→ya9,assignEach→ybd,sizeLine_eq→ybh,call_meets→ybi,codeAny_call_builtin→ybj,wpAny_truthy_bool→ybn,wpAny_holding→ybp,attributeBase→ybq,holding→ybr,excClassObj→ybu,noteFrame→yby,wpAny_passesOwn→ybB,setFlight→ybJ,leaving→ybK,intText?→ybL,behindInMarks→ybP,Keyword→ybQ,builtinsNs→ybU,wpAny_execs_nil→ybV,typeIs_str→ybX,JoinOk→yb1,keywordEach→yb2,wpAny_pyIter_list→yb3,codeAny→yb6,wpAny_setField→yb8,sysModules→ycd,swapsWithSole→yci,swappedStores→ycj,sliceBounds→ycl,wpAny_isSubtype_exc→ycm,letOwnedTupleGo→yco,GenState→ycr,assign→ycs,wpAny_Call_Name_kw→yct,wpAny_typeOf→ycw,wpAny_pyIter_tuple→ycx,foldedSetIterable→ycB,wpAny_pyIter_enum→ycC,NameKind→ycI,wpAny_call_entry→ycJ,backToKw→ycK,swapsWith→ycO,PassesOwn→ycP,Result→ycU,wpAny_call→ycV,codeAny_mono→ycW,IsPart→ycY,wpAny_loadPart'→yc3,standAt→yc7,recursionLimit→yc8,getItem→yc9,Builtin→yda,wpAny_Constant_int→ydc,wpAny_newFunctionEnv_cells→ydp,wpAny_letOwnedTupleGo_enum→ydu,wpAny_Call_ofName→ydB,typeIs_int→ydD,wpAny_binaryOp_repeat_ref→ydE,codeAny_handlers_suite_as→ydF,BindsTo→ydJ,callerA→ydK,noFill_tuple_add→ydM,ExcBaseFacts→ydP,wpAny_pyNext_enum_itemD→ydU,cellsFrom→ydX,Arguments→ydY,codeAny_builtin→yd0,wpAny_Call_method_late→yd8,wpAny_pyNext_enum_endD→yed,wpAny_isTrue_Compare1→yeg,wpAny_bindName→yeh,codeAny_call_function→yel,builtinLookup_eq_fast→yes,codeAny_handlers_test→yet,bindName→yew,typeLookup→yey,unbindBehindTheSuite→yeB,wpAny_pyIter_revIter→yeD,intText_digits→yeE,assignInOrder→yeG,seq_tuple_add→yeH,wpAny_handleBy_cons→yeN,Within→yeR,concat_meets→yeY,seqIndex_neg→ye0,typeOf→ye1,isSubtype→ye2,ExcAttrFacts→ye3,onTheHeap→ye4,setItem→yfd,OsState→yff,OwnTail→yfg,wpAny_sequenceKey→yfl,sizeLine_eq→yfn,seqIndex_of→yft,wpAny_point→yfv,unsupported→yfw,ReadsAll→yfy,callWith→yfz,wpAny_Name→yfA,wpAny_rule→yfB,call→yfC,isInstance→yfD
open Bool renaming and_eq_true→yad,false_ne_true→yao,not_eq_true'→yaT,and_self→yaY,true_and→ybS,eq_iff_iff→ycp,or_eq_true→yc2,or_true→yc4,false_and→yei,and_false→yem,true_or→ye8
open PySem.W renaming Frag→yae,nsIn→yak,keepIn→yal,codeIn→yas,fnOf→yau,mg_of→yav,mg_none_of→yaB,kia_one→yaO,findIn→yb5,cellsFrom_some→ycD,instObj→ycS,methodObj→ydx,kitx_list→ydy,OpenLaw→yd3,lookIn→yej,kitOne→yek,CodeHd→yen,tabObj→yeo,kitx_tuple→yeT,callWith_K→yeW,codeRec_of→yeX,kitx_dict→yfi
open PySem.Heap renaming lt_size→yag,size_push→ybt,SameBut→yb4,MadeExcOf→yca
open Nat renaming le_refl→yah,lt_of_lt_of_le→yat,ne_of_lt→yaw,le_trans→yaH,zero_le→yaN,ne_of_gt→ybx,lt_irrefl→ybC,le_of_not_lt→ycL,le_of_lt→ycT,succ_mul→yc0,mul_comm→ydN,exists_eq_add_of_le→ydV,mul_le_mul_right→yeF,zero_add→ye6,lt_succ_of_lt→yfo
open PySem.Value renaming ref→yam,none→yaG,bool→ybc,builtin→ybe,int→ybT,type→ycz,str→yeO
open List renaming replicate→yan,mem_cons→yar,length_singleton→yaC,lookup_cons→yaP,length_replicate→yaZ,range→ya2,append_nil→ya4,filterMap_cons→ybb,set_cons_zero→ybA,flatten_cons→ybE,mem_of_getElem?→ybF,nil_append→ybY,mem_append_left→yce,length_take→ycg,length_drop→ych,getElem_mem→ycN,of_mem_zip→ycX,contains_cons→ydi,set_cons_succ→ydl,all_cons→yds,mem_or_eq_of_mem_set→ydG,map_nil→ydO,map_reverse→ydS,foldl_cons→ydZ,map_append→yd4,length→yd6,drop_of_length_le→yd9,take_of_length_le→yee,mem_iff_getElem?→yep,foldl→yez,take_sublist→yfk,lookup→yfu
open Option.some renaming inj→yaA
open PySem.Builtin.Str renaming occurrences→yaE,strSub→ybz,tooLong→yc6,strKind→yeM
open Array renaming length_toList→yaI,toList_append→ycn,foldl_toList→yfb
open Or renaming inr→yaJ,inl→ya0
open PySem.AutoSeq1 renaming wpAny_loadPart'→yaQ
open False renaming elim→yaR
open Ne renaming symm→yaU
open PySem.NameKind renaming free→yaV,cell→ycG
open PyProof.Rows renaming envOfC→yaW,callWith_type1→yba,slot_tuple_getitem→ybg,AllBare→ybO,kindOf→yb7,assignInOrder_cons→ydd,boot_enumerate→ydh,subscriptTail_builtinR→yd7,entry_tuple_getitem→yeJ,args_tuple_getitem→yeZ,IntsAre→yfe,assignInOrder_nil→yfh
open PySem.Obj renaming data_mapFields→ya1,mapFields→ybR,isFreed_of_fields→yb9,cls_mapFields→ydz,mapSeq→ydC
open PySem.PyData renaming canLayAll0→ya3,depthAll→ybl,canLay0→ybs,showableAll→ybZ,eqv→yb0,showable→yd1,dict→yea,leavesShortAll→yev,depth→ye7,hasDictAll→yfq
open PySem.NumText renaming digitsVal→ya8
open PySem.Str renaming join→ybf,empty→ybW,ofString→ycv
open ForInStep renaming yield→ybk
open PySem.PassesOwn renaming never→ybm
open Int renaming toNat_natCast→ybo,fdiv_eq_ediv_of_nonneg→ydn,fmod_eq_emod_of_nonneg→ydo,eq_ofNat_of_zero_le→ydW,toNat_of_nonneg→yeL,emod_lt_of_pos→yfa,natCast_nonneg→yfc
open PySem.F renaming slot_str_split→ybv,type_str_split→ybw,slot_tuple_iterator_next→ybD,slot_str_join→ycb,type_str_join→ycc,excBase_ValueError→yck,args_tuple_add_2→ycu,entry_tuple_add→ycA,slot_tuple_add→ycE,typeOf_object_class→ycR,slot_int_rmul→yc1,args_tuple_iterator_next_1→ydb,entry_tuple_iterator_next→ydg,args_str_split_2→ydj,slot_str_partition→ydv,type_str_partition→ydw,entry_str_split→ydA,slot_str_split→ydQ,plainAttrs_list→ydT,typeCall_enumerate_1→yec,newCall_enumerate_1→yeq,entry_enumerate_new→yer,args_object_init_2→yeA,called_enumerate→ye5,args_int_rmul_2→yfm,plain_list_iadd→yfp
open PySem.Builtin.Slice renaming slicePlaces→ybG,sliceAdjust→ycq,sliceApplied→ydq
open PySem.Calls renaming evalArgs_plain→ybH,callWith_builtin→ycF,Name_function_global→ydm,Constant_str→yeS,spliced_cons→yeV,spliced_nil→yfj
open PySem.Builtin.SmallTypes renaming nextOf→ybI
open PySem.Builtin.Tuple renaming tupleExact→ybM,tupleItemsOf→ydr,tupleIsExact→ydt
open PySem.Builtin.List renaming listTooLong→ybN,listExtendWith→ydk,listSameRef→ydR
open True renaming intro→ycf
open PySem.StrLaws renaming join_split→ycy,join_length_le→yef,strSub_toList→yeu,split_free→ye9,subAt_one→yfr
open List.cons renaming inj→ycH
open Option renaming bind_some→ycM,map_some→yd2
open LawfulBEq renaming eq_of_beq→ycQ
open PySem.SeqAt.EqAt renaming bool_bool→ycZ,int_str→yeP,str_int→yeQ
open PySem.EntryCells renaming newEntry→yc5
open PyProof.Rows.IsTup renaming new→yde
open PySem.Code renaming quiet_builtin→ydf,isFrame→yeU
open Sum renaming inl→ydH,inr→ydI
open PySem.Around renaming under→ydL,frames_deeper→yex,under_plainId→yeC
open PySem.Data renaming fields→yd5
open PySem.SeqAt renaming compareEq_shaped→yeb
open PySem.Value.ref renaming inj→yeI
open PySem.Heap.SameBut renaming update→yeK
open ToString renaming toString→yfx
set_option linter.all false
set_option Elab.async false
set_option maxRecDepth 100000
open List renaming mem_cons_of_mem → mM, mem_cons_self → mS_, getElem?_eq_getElem → gG, length_cons → lC_, length_map → lM_, length_append → lA_, getElem?_map → gM_, map_cons → mC_, mem_append → mA_, length_nil → lN_, size_toArray → sT_, mem_map → mP_, replicate_succ → rS_, length_set → lS_, not_mem_nil → nN_, append_assoc → aA_, getElem?_eq_some_iff → gI_, mem_singleton → ms_, mem_append_right → mr_
namespace L2
open PySem PySem.Spec PyProof.Rows
abbrev Key:=Sum Int Str
def qbp:Key->Value->Bool
 |.inl k,v=>Value.isInt k v
 |.inr x,v=>Value.isStrOf x v
def qn8 (w:World):Key->Int
 |.inl k=>hashInt k
 |.inr x=>hashStr w x
theorem zr:∀{k:Key}{v:Value},qbp k v=true->(∃i t,k=ydH i/\v=ybT i t)\/(∃x t,k=ydI x/\v=yeO x t)
 |.inl i,v,h=>by
  obtain⟨t,e⟩:=Value.isInt_shape (k:=i) (v:=v) h
  exact .inl ⟨i,t,rfl,e⟩
 |.inr x,v,h=>by
  obtain⟨t,e⟩:=Value.isStrOf_shape (x:=x) (v:=v) h
  exact .inr ⟨x,t,rfl,e⟩
theorem qew(i:Int)(t:Tok):qbp (.inl i) (.int i t)=true:=by simp[qbp,Value.isInt]
theorem qex(x:Str)(t:Tok):qbp (.inr x) (.str x t)=true:=by simp[qbp,Value.isStrOf]
theorem qkL (a b:Int):decide ((ydH a:Key)=ydH b)=(a==b):=by
 by_cases e:a=b
 ·subst e;simp
 ·have h:¬(ydH a:Key)=ydH b:=λq=>e (Sum.inl.inj q)
  rw[decide_eq_false h]
  exact(beq_eq_false_iff_ne.mpr e).symm
theorem qkM (a b:Str):decide ((ydI a:Key)=ydI b)=decide (a=b):=by
 by_cases e:a=b
 ·subst e;simp
 ·have h:¬(ydI a:Key)=ydI b:=λq=>e (Sum.inr.inj q)
  rw[decide_eq_false h,decide_eq_false e]
theorem qkN(a:Int)(b:Str):decide ((ydH a:Key)=ydI b)=false:=decide_eq_false (λq=>nomatch q)
theorem qkO(a:Str)(b:Int):decide ((ydI a:Key)=ydH b)=false:=decide_eq_false (λq=>nomatch q)
def wE (prog:yai) (w:World):PySem.KeyKind prog w Key where
 is:=qbp
 hash:=qn8 w
 inj:=λv a b ha hb=>by
  rcases zr ha with⟨i,t,rfl,rfl⟩|⟨x,t,rfl,rfl⟩
  ·rcases zr hb with⟨j,u,rfl,e⟩|⟨y,u,rfl,e⟩
   ·injection e with e1 _;rw[e1]
   ·exact nomatch e
  ·rcases zr hb with⟨j,u,rfl,e⟩|⟨y,u,rfl,e⟩
   ·exact nomatch e
   ·injection e with e1 _;rw[e1]
 byValue:=λk v h=>by
  rcases zr h with⟨i,t,rfl,rfl⟩|⟨x,t,rfl,rfl⟩<;>rfl
 pyHash:=λhv h=>by
  rcases zr hv with⟨i,t,rfl,rfl⟩|⟨x,t,rfl,rfl⟩
  ·exact wpAny_pyHash_int h
  ·exact wpAny_pyHash_str h
 eqBool:=λhu hv h=>by
  rcases zr hu with⟨i,t,rfl,rfl⟩|⟨x,t,rfl,rfl⟩
  ·rcases zr hv with⟨j,u,rfl,rfl⟩|⟨y,u,rfl,rfl⟩
   ·rw[qkL]at h;exact wpAny_eqBool_int h
   ·rw[qkN]at h;exact yeP i t y u _ _ _ _ h
  ·rcases zr hv with⟨j,u,rfl,rfl⟩|⟨y,u,rfl,rfl⟩
   ·rw[qkO]at h;exact yeQ x t j u _ _ _ _ h
   ·rw[qkM]at h;exact wpAny_eqBool_str h
 «strs»:=λk x t v h=>by
  rcases zr h with⟨i,u,rfl,e⟩|⟨y,u,rfl,e⟩
  ·exact nomatch e
  ·injection e with e1 _
   subst e1
   cases v<;>rfl
end L2
namespace L2
open PySem PySem.Spec PyProof.Rows
inductive V where
 |non|bl (b:Bool)|int (i:Int)|str (x:Str)|byt (b:Array UInt8)|flt (b:UInt64)|ref (a:Addr)|ty (n:String)
 deriving DecidableEq
def jh:V->Value->Prop
 |.non,u=>u=yaG
 |.bl b,u=>u=ybc b
 |.int i,u=>∃t,u=ybT i t
 |.str x,u=>∃t,u=yeO x t
 |.byt b,u=>∃t,u=Value.bytes b t
 |.flt b,u=>∃t,u=Value.float b t
 |.ref a,u=>u=yam a
 |.ty n,u=>u=ycz n
abbrev zk:List V->List Value->Prop:=Paired jh
theorem zk.length{xs:List V}{us:List Value}(r:zk xs us):xs.length=us.length:=Paired.length r
theorem zk.get:∀{xs:List V}{us:List Value}{i:Nat}{x:V},zk xs us->xs[i]? = some x->∃u,us[i]? = some u/\jh x u
 |_,_,_,_,.nil,e=>by simp at e
 |_,_,0,_,.cons r _,e=>by simp at e;subst e;exact⟨_,rfl,r⟩
 |_,_,i+1,x,.cons _ t,e=>by
  obtain⟨u,h1,h2⟩:=zk.get (i:=i) (x:=x) t (by simpa using e)
  exact⟨u,by simpa using h1,h2⟩
theorem zk.set {x:V} {u:Value} (r:jh x u):∀{xs:List V}{us:List Value}(i:Nat),zk xs us->zk (xs.set i x) (us.set i u)
 |_,_,_,.nil => .nil
 |_,_,0,.cons _ t => .cons r t
 |_,_,i+1,.cons q t => .cons q (zk.set r i t)
theorem zk.append:∀{xs ys:List V}{us ws:List Value},zk xs us->zk ys ws->zk (xs++ys) (us++ws)
 |_,_,_,_,.nil,s=>s
 |_,_,_,_,.cons r t,s => .cons r (zk.append t s)
theorem zk.take:∀{xs:List V}{us:List Value}(n:Nat),zk xs us->zk (xs.take n) (us.take n)
 |_,_,0,_ => .nil
 |_,_,_+1,.nil => .nil
 |_,_,n+1,.cons r t => .cons r (zk.take n t)
theorem zk.drop:∀{xs:List V}{us:List Value}(n:Nat),zk xs us->zk (xs.drop n) (us.drop n)
 |_,_,0,r=>r
 |_,_,_+1,.nil => .nil
 |_,_,n+1,.cons _ t=>zk.drop n t
def qkP:Option V->Option Value->Prop
 |some v,some u=>jh v u
 |none,none=>True
 |_,_=>False
def KV{κ:Type}:List (κ×V)->List (κ×Value)->Prop:=Paired λ(p:κ×V) (q:κ×Value)=>p.1=q.1/\jh p.2 q.2
def kV:Key->V
 |.inl i => .int i
 |.inr x => .str x
inductive HO where
 |lst (xs:List V)
 |tup (xs:List V)
 |dK (kvs:List (Key×V))|dT (kvs:List (List Key×V))
 |set (S:Int->Bool) (n:Nat)
 |ins (C dx:Addr) (fs:List (Str×V))
 |own (x:Addr)
 |xd (fs:List (Str×V))
 |met (f x:Addr)
 |rng (lo hi:Int)
 |frz (o:Obj) (u:HO)
 |tbl (ps:Array Value)
 |ext (φ:Heap->Prop)
 |dsk (C dx l:Addr) (xs:List V)
 |lam (pos:Pos) (q:Str)
abbrev Hp:=Addr->Option HO
def upd(H:Hp)(a:Addr)(o:HO):Hp:=λb=>if b=a then some o else H b
theorem qm{H:Hp}{a:Addr}{o:HO}:upd H a o a=some o:=by unfold upd;rw[if_pos rfl]
theorem qu{H:Hp}{a b:Addr}{o:HO}(h:b≠a):upd H a o b=H b:=by unfold upd;rw[if_neg h]
theorem vb {H:Hp} {a b:Addr} {o u:HO} (h:H a=some o) (h':H b=some u) (d:o≠u):a≠b:=by
 intro e;subst e;rw[h]at h';exact d (yaA h')
theorem qL {H:Hp} {a b:Addr} {o:HO} (h:H a=some o) (h':H b=none):a≠b:=by
 intro e;subst e;rw[h]at h';cases h'
def qnL(v1 v2:V)(l:Addr):List (Str×V):=[("store",v1),("room",v2),("past",.ref l)]
section
variable(P:yai)(w:World)
def jf (H:Hp) (h:Heap) (a:Addr):HO->Prop
 |.lst xs=>xs.length<=yap/\∃(its:List Value)(n:Nat),zk xs its/\h.get? a=some {cls:=.type "list",data:=.seq its.toArray n}
 |.tup xs=>xs.length<=yap/\∃its:List Value,zk xs its/\IsTup h a its.toArray
 |.dK kvs=>kvs.length<=yap/\(a==ycd)=false/\∃vs,KV kvs vs/\h.DictOf (wE P w) a vs
 | .dT kvs=>kvs.length<=yap/\(a==ycd)=false/\∃xs:List (List Key×Addr×Value),
   Paired (λ(p:List Key×V) (q:List Key×Addr×Value)=>p.1=q.1/\H q.2.1=some (.tup (p.1.map kV))/\jh p.2 q.2.2) kvs xs /\
   ∃o es ep,h.get? a=some o/\o.ExactDict/\o.data=.dict es ep/\es.toList=xs.map (entryOfKey (tupleKind (wE P w)))/\(xs.map (·.1)).Nodup
 |.set S n=>h.SetOf (intKind P w) a S n
 | .ins C dx fs=>H dx=some (.own a)/\fs.length<=1000/\dx≠a/\h.get? a=some (ycS C dx) /\
   ∃mA,h.Ns1 dx mA/\(∀f,qkP (fs.lookup f) (mA f))/\yeR mA (fs.map (·.1))
 |.own _=>∃o,h.get? a=some o
 |.xd fs=>∃mA,h.Ns1 a mA/\∀f,qkP (fs.lookup f) (mA f)
 |.rng lo hi=>∃t u v,h.get? a=some {cls:=.type "range",data:=.fields #[.int lo t,.int hi u,.int 1 v]}
 |.frz o u=>h.get? a=some o/\jf H h a u
 |.tbl ps=>h.get? a=some {cls:=.none,data:=.fields ps}
 |.met f x=>h.get? a=some (ydx (.ref f) (.ref x))
 | .dsk C dx l xs=>H dx=some (.own a)/\H l=some (.own a)/\dx≠a/\l≠a/\l≠dx/\h.get? a=some (ycS C dx)/\∃v1 v2 ys,xs=v1::v2::ys /\
   (∃mA,h.Ns1 dx mA/\(∀f,qkP ((qnL v1 v2 l).lookup f) (mA f))/\yeR mA ((qnL v1 v2 l).map (·.1)))/\ys.length<=yap/\∃(its:List Value)(n:Nat),zk ys its/\h.get? l=some {cls:=.type "list",data:=.seq its.toArray n}
 | .lam pos q=>h.get? a=some {cls:=.none,data:=.fields #[]}\/∃(c:Addr)(oc:Obj)(vs:Array Value)(t:Tok),H c=some (.frz oc (.own c))/\oc.data=.fields vs/\vs[1]? = some (.str q t) /\
   h.get? a=some {cls:=.none,data:=.fields #[ya7 pos.line,ya7 pos.col,.ref c]}
 |.ext φ=>φ h/\(∃o,h.get? a=some o)/\∀h1 h2:Heap,φ h1->(∀o,h1.get? a=some o->h2.get? a=some o)->φ h2
def HOk(H:Hp)(h:Heap):Prop:=∀a o,H a=some o->jf P w H h a o
end
section
variable{P:yai}{w:World}{H H':Hp}{h h':Heap}{a:Addr}{o:HO}
theorem jf.lt (x:jf P w H h a o):a<h.objs.size:=by
 cases o with
 |lst xs=>obtain⟨_,_,_,_,e⟩:=x;exact yag e
 |tup xs=>obtain⟨_,_,_,p⟩:=x;exact p.lt
 |dK kvs=>obtain⟨_,_,_,_,o,_,_,e,_⟩:=x;exact yag e
 |dT kvs=>obtain⟨_,_,_,_,o,_,_,e,_⟩:=x;exact yag e
 |set S n=>obtain⟨o,_,_,_,e,_⟩:=x;exact yag e
 |ins C dx fs=>obtain⟨_,_,_,e,_⟩:=x;exact yag e
 |own y=>obtain⟨_,e⟩:=x;exact yag e
 |xd fs=>obtain⟨_,⟨_,_,_,e,_⟩,_⟩:=x;exact yag e
 |rng lo hi=>obtain⟨_,_,_,e⟩:=x;exact yag e
 |frz ob u=>obtain⟨e,_⟩:=x;exact yag e
 |tbl ps=>exact yag (show h.get? a=some _ from x)
 |met f y=>exact yag (show h.get? a=some _ from x)
 |ext φ=>obtain⟨_,⟨_,e⟩,_⟩:=x;exact yag e
 |dsk C dx l xs=>obtain⟨_,_,_,_,_,e,_⟩:=x;exact yag e
 |lam pos q=>
  rcases x with e|⟨_,_,_,_,_,_,_,e⟩
  ·exact yag e
  ·exact yag e
theorem Paired.mapP {α β:Type} {F G:α->β->Prop}:∀{lQ:List α}{lK:List β},Paired F lQ lK->(∀a b,F a b->G a b)->Paired G lQ lK
 |_,_,.nil,_ => .nil
 |_,_,.cons r t,f => .cons (f _ _ r) (Paired.mapP t f)
theorem jf.stay (x:jf P w H h a o) (k:∀b u,(b=a\/H b=some (.own a))->h.get? b=some u->h'.get? b=some u)
  (ho:∀b,H b=some (.own a)->H' b=some (.own a)) (ht:∀b xs,H b=some (.tup xs)->H' b=some (.tup xs)) (hz:∀b ob u,H b=some (.frz ob u)->H' b=some (.frz ob u):=by exact λ_ _ _ q=>q):jf P w H' h' a o:=by
 induction o with
 |lst xs=>obtain⟨z,its,n,r,e⟩:=x;exact⟨z,its,n,r,k _ _ (.inl rfl) e⟩
 |tup xs=>obtain⟨z,its,r,ob,e,c⟩:=x;exact⟨z,its,r,ob,k _ _ (.inl rfl) e,c⟩
 |dK kvs=>obtain⟨z,y,vs,r,ob,es,ep,e,c⟩:=x;exact⟨z,y,vs,r,ob,es,ep,k _ _ (.inl rfl) e,c⟩
 |dT kvs=>
  obtain⟨z,y,xs,r,ob,es,ep,e,c⟩:=x
  exact⟨z,y,xs,Paired.mapP r λp q z=>⟨z.1,ht _ _ z.2.1,z.2.2⟩,ob,es,ep,k _ _ (.inl rfl) e,c⟩
 |set S n=>obtain⟨ob,es,ep,t,e,c⟩:=x;exact⟨ob,es,ep,t,k _ _ (.inl rfl) e,c⟩
 |ins C dx fs=>
  obtain⟨d,z,ne,e,mA,⟨od,es,ep,e2,c⟩,r⟩:=x
  exact⟨ho _ d,z,ne,k _ _ (.inl rfl) e,mA,⟨od,es,ep,k _ _ (.inr d) e2,c⟩,r⟩
 |own y=>obtain⟨ob,e⟩:=x;exact⟨ob,k _ _ (.inl rfl) e⟩
 |xd fs=>obtain⟨mA,⟨od,es,ep,e,c⟩,r⟩:=x;exact⟨mA,⟨od,es,ep,k _ _ (.inl rfl) e,c⟩,r⟩
 |rng lo hi=>obtain⟨t,u,v,e⟩:=x;exact⟨t,u,v,k _ _ (.inl rfl) e⟩
 |frz ob u ih=>obtain⟨e,q⟩:=x;exact⟨k _ _ (.inl rfl) e,ih q⟩
 |tbl ps=>
  have e:h.get? a=some {cls:=.none,data:=.fields ps}:=x
  show h'.get? a=some {cls:=.none,data:=.fields ps}
  exact k a _ (.inl rfl) e
 |met f y=>
  have e:h.get? a=some (ydx (.ref f) (.ref y)):=x
  show h'.get? a=some (ydx (.ref f) (.ref y))
  exact k a _ (.inl rfl) e
 |ext φ=>obtain⟨p,⟨o,e⟩,st⟩:=x;exact⟨st _ _ p λo q=>k _ _ (.inl rfl) q,⟨o,k _ _ (.inl rfl) e⟩,st⟩
 |dsk C dx l xs=>
  obtain⟨d,dl,ne,nl,nd,e,v1,v2,ys,ex,⟨mA,⟨od,es,ep,e2,c⟩,r⟩,z,its,n,rv,el⟩:=x
  exact⟨ho _ d,ho _ dl,ne,nl,nd,k _ _ (.inl rfl) e,v1,v2,ys,ex,⟨mA,⟨od,es,ep,k _ _ (.inr d) e2,c⟩,r⟩,z,its,n,rv,k _ _ (.inr dl) el⟩
 |lam pos q=>
  rcases x with e|⟨c,oc,vs,t,h1,h2,h3,e⟩
  ·exact .inl (k _ _ (.inl rfl) e)
  ·exact .inr ⟨c,oc,vs,t,hz _ _ _ h1,h2,h3,k _ _ (.inl rfl) e⟩
theorem HOk.lt(x:HOk P w H h)(e:H a=some o):a<h.objs.size:=(x a o e).lt
theorem HOk.fresh (x:HOk P w H h) (e:h.objs.size<=a):H a=none:=by
 cases q:H a with
 |none=>rfl
 |some u=>exact absurd (yat (x.lt q) e) (ybC _)
theorem HOk.kept (x:HOk P w H h) (k:∀b u,h.get? b=some u->h'.get? b=some u):HOk P w H h':=λa o e=>
 (x a o e).stay (λb u _ q=>k b u q) (λ_ q=>q) λ_ _ q=>q
theorem HOk.laid (x:HOk P w H h) (k:∀b u,h.get? b=some u->h'.get? b=some u) (hp:h.objs.size<=a) (new:jf P w (upd H a o) h' a o):HOk P w (upd H a o) h':=λb u e=>by
 have hn:=x.fresh hp
 by_cases hb:b=a
 ·subst hb;rw[qm]at e;cases e;exact new
 ·rw[qu hb]at e
  exact(x b u e).stay (λc v _ q=>k c v q) (λc q=>by rw[qu (qL q hn)];exact q) (λc xs q=>by rw[qu (qL q hn)];exact q) λc ob z q=>by rw[qu (qL q hn)];exact q
end
def Rd(H:Hp)(a:Addr)(u:HO):Prop:=H a=some u\/∃o,H a=some (.frz o u)
theorem Rd.ok {P:yai} {w:World} {H:Hp} {h:Heap} {a:Addr} {u:HO} (r:Rd H a u) (x:HOk P w H h):jf P w H h a u:=by
 rcases r with r|⟨o,r⟩
 ·exact x a u r
 ·obtain⟨_,q⟩:=x a _ r
  exact q
def Mut:Option HO->Prop
 |some (.lst _)=>True
 |some (.dK _)=>True
 |some (.dT _)=>True
 |some (.set _ _)=>True
 |some (.ins _ _ _)=>True
 |some (.ext _)=>True
 |some (.dsk _ _ _ _)=>True
 |_=>False
section
variable{P:yai}{w:World}{H:Hp}{h h':Heap}{x e:Addr}{o':HO}
theorem HOk.write (ok:HOk P w H h) (mu:Mut (H x)) (he:e=x\/H e=some (.own x)) (k:∀b u,b≠e->h.get? b=some u->h'.get? b=some u) (heo:∃u,h'.get? e=some u)
  (new:jf P w (upd H x o') h' x o'):HOk P w (upd H x o') h':=λb u q=>by
 have nown:∀c y,H c=some (.own y)->c≠x:=λc y r z=>by subst z;rw[r]at mu;exact mu
 have ntup:∀c xs,H c=some (.tup xs)->c≠x:=λc xs r z=>by subst z;rw[r]at mu;exact mu
 have nfrz:∀c ob y,H c=some (.frz ob y)->c≠x:=λc ob y r z=>by subst z;rw[r]at mu;exact mu
 by_cases hb:b=x
 ·subst hb;rw[qm]at q;cases q;exact new
 ·rw [qu hb]at q
  by_cases hbe:b=e
  ·have q':H b=some (.own x):=by
    rcases he with z|z
    ·exact absurd (hbe.trans z) hb
    ·rw[hbe];exact z
   rw[q]at q';cases q'
   obtain⟨v,hv⟩:=heo
   exact⟨v,by rw[hbe];exact hv⟩
  ·refine (ok b u q).stay (λc v hc r=>k c v ?_ r) (λc r=>by rw[qu (nown c b r)];exact r) (λc xs r=>by rw[qu (ntup c xs r)];exact r) λc ob z r=>by rw[qu (nfrz c ob z r)];exact r
   rcases hc with rfl|hc
   ·exact hbe
   ·rintro rfl
    rcases he with z|z
    ·exact nown c b hc z
    ·rw[hc]at z;cases z;exact hb rfl
end
structure Un (fs ex:List Addr) (H H':Hp) (h h':Heap):Prop where
 keep:∀b o,h.get? b=some o->H b=none->b ∉ fs->b ∉ ex->h'.get? b=some o
 slot:∀b o,h.get? b=some o->H b=none->b∈fs->b ∉ ex->∃sl,h'.get? b=some {o with slots:=sl}
 free:∀b o,h.get? b=some o->H b=none->b ∉ ex->H' b=none
 there:∀b o,h.get? b=some o->b ∉ ex->∃o',h'.get? b=some o'
 tups:∀b xs,H b=some (.tup xs)->H' b=some (.tup xs)
 frzs:∀b o u,H b=some (.frz o u)->H' b=some (.frz o u)
 tbls:∀b pos q,H b=some (.lam pos q)->H' b=some (.lam pos q)
section
variable{fs fs' ex ex':List Addr}{H H1 H2:Hp}{h h1 h2 h':Heap}{a x e:Addr}{o:HO}
theorem Un.any (u:Un fs ex H H1 h h1) {b:Addr} {ob:Obj} (q:h.get? b=some ob) (n:H b=none) (hx:b ∉ ex):∃sl,h1.get? b=some {ob with slots:=sl}:=by
 by_cases hb:b∈fs
 ·exact u.slot b ob q n hb hx
 ·exact⟨ob.slots,u.keep b ob q n hb hx⟩
theorem Un.kept (k:∀b u,h.get? b=some u->h'.get? b=some u):Un fs ex H H h h' :=
 ⟨λb ob q _ _ _=>k b ob q,λb ob q _ _ _=>⟨ob.slots,k b ob q⟩,λ_ _ _ n _=>n,λb ob q _=>⟨ob,k b ob q⟩,λ_ _ q=>q,λ_ _ _ q=>q,λ_ _ _ q=>q⟩
theorem Un.refl:Un fs ex H H h h:=Un.kept λ_ _ q=>q
theorem Un.laid (k:∀b u,h.get? b=some u->h'.get? b=some u) (hp:h.objs.size<=a) (hn:H a=none):Un fs ex H (upd H a o) h h' where
 keep:=λb u q _ _ _=>k b u q
 slot:=λb u q _ _ _=>⟨u.slots,k b u q⟩
 free:=λb u q n _=>by rw[qu (yaw (yat (yag q) hp))];exact n
 there:=λb u q _=>⟨u,k b u q⟩
 tups:=λb xs q=>by rw[qu (qL q hn)];exact q
 frzs:=λb u xs q=>by rw[qu (qL q hn)];exact q
 tbls:=λb ps x q=>by rw[qu (qL q hn)];exact q
theorem Un.write (mu:Mut (H x)) (he:e=x\/H e=some (.own x)) (k:∀b u,b≠e->h.get? b=some u->h'.get? b=some u) (heo:∃u,h'.get? e=some u):Un fs ex H (upd H x o) h h':=by
 have hx:∀b,H b=none->b≠x:=λb n z=>by subst z;rw[n]at mu;exact mu
 have hb:∀b,H b=none->b≠e:=λb n z=>by
  subst z
  rcases he with r|r
  ·exact hx b n r
  ·rw[n]at r;cases r
 have hm:∀b u,H b=some u->¬Mut (some u)->b≠x:=λb u q nm z=>by subst z;rw[q]at mu;exact nm mu
 refine ⟨λb u q n _ _=>k b u (hb b n) q,λb u q n _ _=>⟨u.slots,k b u (hb b n) q⟩,λb u q n _=>by rw[qu (hx b n)];exact n,λb u q _=>?_,
  λb xs q=>by rw[qu (hm b _ q λz=>z)];exact q,λb u xs q=>by rw[qu (hm b _ q λz=>z)];exact q,λb ps x q=>by rw[qu (hm b _ q λz=>z)];exact q⟩
 by_cases hbe:b=e
 ·subst hbe;exact heo
 ·exact⟨u,k b u hbe q⟩
end
def trk(h:Heap)(H:Hp):List Addr:=(ya2 h.objs.size).filter λa=>(H a).isSome
def qgw(h:Heap)(H:Hp):Heap:=PySem.W.hideAll h (trk h H)
theorem qey(h:Heap)(H:Hp):(qgw h H).objs.size=h.objs.size:=PySem.W.hideAll_size _ _
theorem qgx {h:Heap} {H:Hp} {b:Addr} {o:Obj} (e:h.get? b=some o) (n:H b=none):(qgw h H).get? b=some o :=
 PySem.W.hideAll_get _ e λhm=>by
  have q:(H b).isSome=true:=(List.mem_filter.mp hm).2
  rw[n]at q;simp at q
theorem qiN {h:Heap} {H:Hp} {b:Addr} {o:Obj} (e:(qgw h H).get? b=some o):h.get? b=some o/\H b=none:=by
 have e':h.get? b=some o:=PySem.W.of_hideAll (trk h H) e
 refine⟨e',?_⟩
 cases q:H b with
 |none=>rfl
 |some x=>
  have hm:b∈trk h H:=List.mem_filter.mpr ⟨List.mem_range.mpr (yag e'),by simp[q]⟩
  have z:(qgw h H).get? b=none:=PySem.W.hideAll_none (trk h H) hm
  rw[z]at e;cases e
end L2
namespace L2
open PySem PySem.Spec PyProof.Rows
structure Mod (K:yae) (mg:Str->Option Value) (base:Heap):Prop where
 kin:K.In base
 glob:base.Ns yaf mg
 blt:∃mb,base.Ns ybU mb/\∀x:Str,x≠"__name__"->mb x=yay x
 nolimit:base.NoLimit
 bm:∃bm ob,mg "__builtins__"=some (.ref bm)/\bm≠ybU/\base.get? bm=some ob/\ob.cls=.type "module"/\ob.dict=some ybU/\ob.data=.plain
structure Cx where
 prog:yai
 w:World
 K:yae
 mg:Str->Option Value
 base:Heap
 A:yaj
 N:List Str
 s₀:yaa
 H₀:Hp
 env:Env
 outer:List Env
 stack:List Env
 ex:List Addr
 fn:Str->Bool
 calm:Bool
 pn:List (Addr×Obj)
 xe:Value->yaa->Prop
def frs(l:List Env):List Addr:=l.filterMap (·.frame)
abbrev Cx.fs(X:Cx):List Addr:=frs X.outer
def Vis(sc:Scope)(x:Str):Prop:=sc.names.lookup x=some .local\/sc.names.lookup x=some .cell\/sc.names.lookup x=some .free
def Loc(sc:Scope)(x:Str):Prop:=sc.names.lookup x=some .local\/sc.names.lookup x=some .cell
def qn9 (env:Env) (h:Heap) (m:Str->Option Value) (x:Str) (u:Value):Prop :=
 (env.kindOf x=some .local/\m x=some u)\/((env.kindOf x=some .cell\/env.kindOf x=some .free)/\∃c,env.cells.lookup x=some c/\h.IsCell c (some u))
structure Cx.Ok (X:Cx):Prop where
 mod:Mod X.K X.mg X.base
 kind:X.env.scope.kind=.function
 glob:X.env.globals=yaf
 blt:X.env.builtins=ybU
 above:X.s₀.heap.objs.size<=X.env.locals
 inj:∀x y c,X.env.cells.lookup x=some c->X.env.cells.lookup y=some c->x=y
 has:∀x,(X.env.kindOf x=some .cell\/X.env.kindOf x=some .free)->∃c,X.env.cells.lookup x=some c
 cab:∀x c,X.fn x=true->X.env.cells.lookup x=some c->X.s₀.heap.objs.size<=c
 hd:X.calm=true->X.A.handled=none
 frames:X.A.frames=some X.stack
 stk:X.stack=X.outer\/(X.stack=X.env::X.outer/\X.env.frame=some X.env.locals)
 exf:∀b∈X.ex,b≠X.env.locals/\∀x c,X.env.cells.lookup x=some c->c≠b
 bs:∀b o,X.base.get? b=some o->X.s₀.heap.get? b=some o/\X.H₀ b=none
 bsz:X.base.objs.size<=X.s₀.heap.objs.size
 noex:∀b o,X.base.get? b=some o->b ∉ X.ex
 exfs:∀b∈X.ex,b ∉ X.fs
 funs:X.s₀.heap.FunFrames X.base X.outer
 frf:∀b∈X.fs,X.H₀ b=none
structure Inv (X:Cx) (pins:List (Addr×Obj)) (σ:List (Option V)) (H:Hp) (s:yaa):Prop where
 ok:X.Ok
 os:s.os=X.s₀.os
 bare:ybO s.gens
 base:Un X.fs X.ex X.H₀ H X.s₀.heap s.heap
 loc:∃m,s.heap.Ns X.env.locals m/\∀(i:Nat)(x:Str)(v:V),X.N[i]? = some x->σ[i]? = some (some v)->Vis X.env.scope x->∃u,jh v u/\qn9 X.env s.heap m x u
 cell:∀x c,X.env.cells.lookup x=some c->∃v,s.heap.IsCell c v
 free:H X.env.locals=none
 freeC:∀x c,X.env.cells.lookup x=some c->H c=none
 pin:∀p∈X.pn++pins,s.heap.get? p.1=some p.2/\H p.1=none/\p.1≠X.env.locals/\p.1 ∉ X.fs/\∀v,p.2.data ≠ .cell v
 hok:HOk X.prog X.w H s.heap
 len:σ.length=X.N.length
section
variable{X:Cx}{pins:List (Addr×Obj)}{σ:List (Option V)}{H H':Hp}{s:yaa}{h':Heap}
theorem Cx.Ok.nofr (ok:X.Ok) {b:Addr} {o:Obj} (e:X.base.get? b=some o):b ∉ X.fs:=λhb=>by
 have:=(ok.funs.mem hb).1
 rw[e]at this;cases this
theorem Inv.bs (I:Inv X pins σ H s):∀b o,X.base.get? b=some o->s.heap.get? b=some o/\H b=none:=λb o e=>
 ⟨I.base.keep b o (I.ok.bs b o e).1 (I.ok.bs b o e).2 (I.ok.nofr e) (I.ok.noex b o e),I.base.free b o (I.ok.bs b o e).1 (I.ok.bs b o e).2 (I.ok.noex b o e)⟩
theorem Inv.bk(I:Inv X pins σ H s):∀b o,X.base.get? b=some o->s.heap.get? b=some o:=λb o e=>(I.bs b o e).1
theorem Inv.mod(I:Inv X pins σ H s):Mod X.K X.mg X.base:=I.ok.mod
theorem Inv.kIn(I:Inv X pins σ H s):X.K.In s.heap:=I.ok.mod.kin.keeps I.bk
theorem Inv.lt(I:Inv X pins σ H s):X.env.locals<s.heap.objs.size:=let ⟨_,hn,_⟩:=I.loc;hn.lt
theorem Inv.sz(I:Inv X pins σ H s):X.s₀.heap.objs.size<=s.heap.objs.size:=yaH I.ok.above (ycT I.lt)
theorem Inv.nofs (I:Inv X pins σ H s) {a:Addr} (h:s.heap.objs.size<=a):a ∉ X.fs:=λhb=>by
 obtain⟨_,o,ho,_⟩:=I.ok.funs.mem hb
 exact absurd (yat (yag ho) (yaH I.sz h)) (ybC _)
theorem Inv.cne (I:Inv X pins σ H s):∀x c,X.env.cells.lookup x=some c->c≠X.env.locals:=λx c e z=>by
 obtain⟨v,o,ho,hd⟩:=I.cell x c e
 obtain⟨m,⟨o',es,ep,ho',hd',_⟩,_⟩:=I.loc
 rw[z,ho']at ho;cases ho;rw[hd']at hd;cases hd
theorem Inv.funs (I:Inv X pins σ H s):s.heap.FunFrames X.base X.outer:=by
 have all:∀(l:List Env),(∀b∈frs l,b∈X.fs)->X.s₀.heap.FunFrames X.base l->s.heap.FunFrames X.base l:=by
  intro l
  induction l with
  |nil=>intro _ _;trivial
  |cons env r ih=>
   intro hs hl
   obtain⟨hk,⟨L,o,hf,hn,ho,hd⟩,hr⟩:=hl
   have hL:L∈X.fs:=hs L (by unfold frs;rw[ybb,hf];exact mS_)
   obtain⟨sl,e⟩:=I.base.slot L o ho (I.ok.frf L hL) hL λz=>I.ok.exfs L z hL
   exact⟨hk,⟨L,_,hf,hn,e,hd⟩,ih (λb hb=>hs b (by unfold frs;rw[ybb,hf];exact mM _ hb)) hr⟩
 exact all X.outer (λ_ hb=>hb) I.ok.funs
theorem Inv.stack (I:Inv X pins σ H s):s.heap.FunFrames X.base X.stack:=by
 rcases I.ok.stk with e|⟨e,hf⟩
 ·rw[e];exact I.funs
 ·rw[e]
  obtain⟨m,hn,_⟩:=I.loc
  refine .cons (by rw[I.ok.kind];decide) hf hn ?_ I.funs
  exact Heap.get?_none_of_le (yaH I.ok.bsz I.ok.above)
theorem Inv.stkSub (I:Inv X pins σ H s):∀b∈frs X.stack,b∈X.env.locals::X.fs:=λb hb=>by
 rcases I.ok.stk with e|⟨e,hf⟩
 ·rw[e]at hb;exact mM _ hb
 ·rw[e]at hb
  unfold frs at hb
  rw[ybb,hf]at hb
  exact hb
theorem Inv.stkFree (I:Inv X pins σ H s):∀b∈frs X.stack,H b=none:=λb hb=>by
 rcases List.mem_cons.mp (I.stkSub b hb)with e|hb
 ·rw[e];exact I.free
 ·obtain⟨_,o,ho,_⟩:=I.ok.funs.mem hb
  exact I.base.free b o ho (I.ok.frf b hb) λz=>I.ok.exfs b z hb
theorem Inv.step {g':Array ycr} {t':Nat} {d':Drawn} {ch:List Addr} (I:Inv X pins σ H s)
  (hch:∀b∈ch,(b∈X.ex\/X.s₀.heap.objs.size<=b)/\b≠X.env.locals/\(∀x c,X.env.cells.lookup x=some c->c≠b)/\∀p∈X.pn++pins,p.1≠b)
  (keep:∀b o,b≠X.env.locals->b ∉ X.fs->b ∉ ch->s.heap.get? b=some o->H b=none->h'.get? b=some o)
  (slot:∀b o,b≠X.env.locals->b∈X.fs->b ∉ ch->s.heap.get? b=some o->H b=none->∃sl,h'.get? b=some {o with slots:=sl}) (free:∀b o,b ∉ ch->s.heap.get? b=some o->H b=none->H' b=none)
  (there:∀b o,b ∉ ch->s.heap.get? b=some o->∃o',h'.get? b=some o')
  (tups:∀b xs,H b=some (.tup xs)->H' b=some (.tup xs)) (frzs:∀b o u,H b=some (.frz o u)->H' b=some (.frz o u)) (tbls:∀b pos q,H b=some (.lam pos q)->H' b=some (.lam pos q))
  (ns:∀m,s.heap.Ns X.env.locals m->h'.Ns X.env.locals m) (hok:HOk X.prog X.w H' h') (hg:ybO g') :
  Inv X pins σ H' {s with heap:=h',gens:=g',drawn:=d',toks:=t' }:=by
 have neL:∀b o,X.s₀.heap.get? b=some o->b≠X.env.locals:=λb o e=>yaw (yat (yag e) I.ok.above)
 have neC:∀b o,X.s₀.heap.get? b=some o->b ∉ X.ex->b ∉ ch:=λb o e hx hb=>by
  rcases(hch b hb).1 with z|z
  ·exact hx z
  ·exact absurd (yat (yag e) z) (ybC _)
 have cellK:∀x c,X.env.cells.lookup x=some c->∀v,s.heap.IsCell c v->h'.IsCell c v:=λx c e v ⟨o,ho,hd⟩=>by
  have nch:c ∉ ch:=λz=>(hch c z).2.2.1 x c e rfl
  by_cases hc:c∈X.fs
  ·obtain⟨sl,q⟩:=slot c o (I.cne x c e) hc nch ho (I.freeC x c e)
   exact⟨_,q,hd⟩
  ·exact⟨o,keep c o (I.cne x c e) hc nch ho (I.freeC x c e),hd⟩
 refine⟨I.ok,I.os,hg,⟨λb o e n hb hx=>?_,λb o e n hb hx=>?_,λb o e n hx=>?_,λb o e hx=>?_,λb xs e=>tups b xs (I.base.tups b xs e),λb o xs e=>frzs b o xs (I.base.frzs b o xs e),λb ps x e=>tbls b ps x (I.base.tbls b ps x e)⟩,?_,λx c e=>?_,?_,λx c e=>?_,λp hp=>?_,hok,I.len⟩
 ·exact keep b o (neL b o e) hb (neC b o e hx) (I.base.keep b o e n hb hx) (I.base.free b o e n hx)
 ·obtain⟨sl,e1⟩:=I.base.slot b o e n hb hx
  obtain⟨sl',e2⟩:=slot b _ (neL b o e) hb (neC b o e hx) e1 (I.base.free b o e n hx)
  exact⟨sl',e2⟩
 ·obtain⟨o',e1⟩:=I.base.there b o e hx
  exact free b o' (neC b o e hx) e1 (I.base.free b o e n hx)
 ·obtain⟨o',e1⟩:=I.base.there b o e hx
  exact there b o' (neC b o e hx) e1
 ·obtain⟨m,hn,hl⟩:=I.loc
  refine⟨m,ns m hn,λi x v e1 e2 e3=>?_⟩
  obtain⟨u,r,l⟩:=hl i x v e1 e2 e3
  refine⟨u,r,?_⟩
  rcases l with l|⟨k,c,e,z⟩
  ·exact .inl l
  ·exact .inr ⟨k,c,e,cellK x c e _ z⟩
 ·obtain⟨v,z⟩:=I.cell x c e
  exact⟨v,cellK x c e v z⟩
 ·obtain⟨m,⟨o,_,_,ho,_⟩,_⟩:=I.loc
  exact free _ o (λz=>(hch _ z).2.1 rfl) ho I.free
 ·obtain⟨v,o,ho,hd⟩:=I.cell x c e
  exact free c o (λz=>(hch c z).2.2.1 x c e rfl) ho (I.freeC x c e)
 ·obtain⟨e,n,ne,nf,d⟩:=I.pin p hp
  have nch:p.1 ∉ ch:=λz=>(hch p.1 z).2.2.2 p hp rfl
  exact⟨keep p.1 p.2 ne nf nch e n,free p.1 p.2 nch e n,ne,nf,d⟩
theorem Inv.un {t':Nat} (I:Inv X pins σ H s) (u:Un X.fs [] H H' s.heap h') (hok:HOk X.prog X.w H' h'):Inv X pins σ H' {s with heap:=h',toks:=t' }:=by
 obtain⟨m,⟨o,es,ep,ho,r⟩,_⟩:=id I.loc
 obtain⟨sl,hL⟩:=u.any ho I.free (by simp)
 exact I.step (g':=s.gens) (d':=s.drawn) (ch:=[]) (λ_ z=>nomatch z) (λb o _ hb _ e n=>u.keep b o e n hb (by simp)) (λb o _ hb _ e n=>u.slot b o e n hb (by simp)) (λb o _ e n=>u.free b o e n (by simp)) (λb o _ e=>u.there b o e (by simp)) u.tups u.frzs u.tbls (λm' hm=>by
  obtain⟨o',es',ep',ho',r'⟩:=hm
  rw[ho]at ho';cases ho'
  exact⟨_,es',ep',hL,r'⟩) hok I.bare
theorem Inv.call {g':Array ycr} {t':Nat} {d':Drawn} {ch:List Addr} (I:Inv X pins σ H s) (u:Un (frs X.stack) ch H H' s.heap h') (hok:HOk X.prog X.w H' h') (hg:ybO g')
  (hch:∀b∈ch,(b∈X.ex\/X.s₀.heap.objs.size<=b)/\b≠X.env.locals/\(∀x c,X.env.cells.lookup x=some c->c≠b)/\∀p∈X.pn++pins,p.1≠b) :
  Inv X pins σ H' {s with heap:=h',gens:=g',drawn:=d',toks:=t' }:=by
 obtain⟨m,⟨o,es,ep,ho,r⟩,_⟩:=id I.loc
 obtain⟨sl,hL⟩:=u.any ho I.free λz=>(hch _ z).2.1 rfl
 exact I.step (ch:=ch) hch (λb o hL hb hc e n=>u.keep b o e n (λz=>(List.mem_cons.mp (I.stkSub b z)).elim hL hb) hc) (λb o _ _ hc e n=>u.any e n hc) (λb o hc e n=>u.free b o e n hc) (λb o hc e=>u.there b o e hc) u.tups u.frzs u.tbls (λm' hm=>by
  obtain⟨o',es',ep',ho',r'⟩:=hm
  rw[ho]at ho';cases ho'
  exact⟨_,es',ep',hL,r'⟩) hok hg
theorem Inv.turned {t':Nat} {it:Addr} (I:Inv X pins σ H s) (k:∀b o,b≠it->s.heap.get? b=some o->h'.get? b=some o) (hn:H it=none) (hL:it≠X.env.locals)
  (h1:it∈X.ex\/X.s₀.heap.objs.size<=it) (h2:∀x c,X.env.cells.lookup x=some c->c≠it) (h3:∀p∈X.pn++pins,p.1≠it):Inv X pins σ H {s with heap:=h',toks:=t' }:=by
 have nit:∀b u,H b=some u->b≠it:=λb u e z=>by rw[z,hn]at e;cases e
 refine I.step (g':=s.gens) (d':=s.drawn) (ch:=[it]) (λb hb=>?_) (λb o _ _ hc e _=>k b o (λz=>hc (by simp[z])) e) (λb o _ _ hc e _=>⟨o.slots,k b o (λz=>hc (by simp[z])) e⟩) (λ_ _ _ _ n=>n)
  (λb o hc e=>⟨o,k b o (λz=>hc (by simp[z])) e⟩) (λ_ _ e=>e) (λ_ _ _ e=>e) (λ_ _ _ e=>e) (λm hm=>?_) (λb u e=>?_) I.bare
 ·have e:b=it:=by simpa using hb
  subst e
  exact⟨h1,hL,h2,h3⟩
 ·obtain⟨o,es,ep,ho,r⟩:=hm
  exact⟨o,es,ep,k _ o (yaU hL) ho,r⟩
 ·refine(I.hok b u e).stay (λc v hc q=>k c v ?_ q) (λ_ q=>q) λ_ _ q=>q
  rcases hc with z|z
  ·rw[z];exact nit b u e
  ·exact nit c _ z
theorem Inv.tok(I:Inv X pins σ H s)(t:Nat):Inv X pins σ H {s with toks:=t}:=I.un (h':=s.heap) (t':=t) Un.refl I.hok
theorem Inv.kept{t':Nat}(I:Inv X pins σ H s)(k:∀b u,s.heap.get? b=some u->h'.get? b=some u):Inv X pins σ H {s with heap:=h',toks:=t' }:=I.un (Un.kept k) (I.hok.kept k)
theorem Inv.laid {a:Addr} {o:HO} {t':Nat} (I:Inv X pins σ H s) (k:∀b u,s.heap.get? b=some u->h'.get? b=some u) (hp:s.heap.objs.size<=a) (new:jf X.prog X.w (upd H a o) h' a o) :
  Inv X pins σ (upd H a o) {s with heap:=h',toks:=t' }:=I.un (Un.laid k hp (I.hok.fresh hp)) (I.hok.laid k hp new)
theorem Inv.write {x e:Addr} {o:HO} {t':Nat} (I:Inv X pins σ H s) (mu:Mut (H x)) (he:e=x\/H e=some (.own x)) (k:∀b u,b≠e->s.heap.get? b=some u->h'.get? b=some u) (heo:∃u,h'.get? e=some u)
  (new:jf X.prog X.w (upd H x o) h' x o):Inv X pins σ (upd H x o) {s with heap:=h',toks:=t' }:=I.un (Un.write mu he k heo) (I.hok.write mu he k heo new)
theorem Inv.pins_of {pins':List (Addr×Obj)} (I:Inv X pins σ H s) (h:∀p∈pins',s.heap.get? p.1=some p.2/\H p.1=none/\p.1≠X.env.locals/\p.1 ∉ X.fs/\∀v,p.2.data ≠ .cell v):Inv X pins' σ H s :=
 ⟨I.ok,I.os,I.bare,I.base,I.loc,I.cell,I.free,I.freeC,λp hp=>(mA_.mp hp).elim (λz=>I.pin p (yce _ z)) (h p),I.hok,I.len⟩
theorem qcW {N:List Str} (hN:N.Nodup) {i j:Nat} {x:Str} (a:N[i]? = some x) (b:N[j]? = some x):i=j:=by
 obtain⟨h1,e1⟩:=gI_.mp a
 obtain⟨h2,e2⟩:=gI_.mp b
 exact(List.getElem_inj hN).mp (e1.trans e2.symm)
theorem qez {M:Model} {A:yaj} {E:Value->yaa->Prop} {i:Nat} {x:Str} {v:V} {u:Value} {Q:Unit->yaa->Prop} (I:Inv X pins σ H s) (hN:X.N.Nodup) (hi:X.N[i]? = some x) (hx:Loc X.env.scope x) (r:jh v u)
  (h:∀s',Inv X pins (σ.set i (some v)) H s'->(∃a,yb4 a s.heap s'.heap/\(a=X.env.locals\/X.env.cells.lookup x=some a))->Q () s') (hf:X.fn x=true\/X.env.scope.names.lookup x=some .local:=by first|exact .inl rfl|exact .inr rfl|assumption):wpAny M A (storeName X.env x u) Q E s:=by
 obtain⟨m,hn,hl⟩:=id I.loc
 have hcls:(X.env.scope.kind == .class||(X.env.scope.kind == .module&&X.env.locals != X.env.globals))=false:=by rw[I.ok.kind];rfl
 have hiσ:i<σ.length:=by rw[I.len];exact(gI_.mp hi).1
 have cne:=I.cne
 have tracked:∀{a:Addr}{h':Heap},(∃o,s.heap.get? a=some o/\H a=none)->yb4 a s.heap h'->HOk X.prog X.w H h':=λ{a h'} ha hs b ob e=>by
  obtain⟨_,_,hfree⟩:=ha
  refine(I.hok b ob e).stay (λc w' hc q=>(hs.2 c ?_).trans q) (λ_ q=>q) λ_ _ q=>q
  rintro rfl
  rcases hc with rfl|hc
  ·rw[hfree]at e;cases e
  ·rw[hfree]at hc;cases hc
 rcases hx with hk|hk
 ·refine wpAny_storeName_local hk hn (λh' hn' hs=>?_) hcls
  obtain⟨oL,_,_,hoL,_⟩:=id hn
  refine h _ ⟨I.ok,I.os,I.bare,⟨λb o e n hb hx=>?_,λb o e n hb hx=>?_,I.base.free,λb o e hx=>?_,I.base.tups,I.base.frzs,I.base.tbls⟩,⟨_,hn',λj y v' e1 e2 e3=>?_⟩,λy c e=>?_,I.free,I.freeC,λp hp=>?_,tracked ⟨oL,hoL,I.free⟩ hs,by simpa using I.len⟩ ⟨_,hs,.inl rfl⟩
  ·exact(hs.2 b (yaw (yat (yag e) I.ok.above))).trans (I.base.keep b o e n hb hx)
  ·obtain⟨sl,e1⟩:=I.base.slot b o e n hb hx
   exact⟨sl,(hs.2 b (yaw (yat (yag e) I.ok.above))).trans e1⟩
  ·obtain⟨o',e1⟩:=I.base.there b o e hx
   exact⟨o',(hs.2 b (yaw (yat (yag e) I.ok.above))).trans e1⟩
  ·by_cases hj:j=i
   ·subst hj
    rw[hi]at e1;cases e1
    rw[List.getElem?_set_self hiσ]at e2
    cases e2
    exact⟨u,r,.inl ⟨hk,by simp⟩⟩
   ·rw [List.getElem?_set_ne (yaU hj)]at e2
    obtain⟨u',r',q⟩:=hl j y v' e1 e2 e3
    refine⟨u',r',?_⟩
    rcases q with⟨k,e⟩|⟨k,c,e,z⟩
    ·refine .inl ⟨k,?_⟩
     have:y≠x:=λe=>hj (qcW hN e1 (e▸hi))
     simp[this,e]
    ·exact .inr ⟨k,c,e,z.sameBut hs (cne y c e)⟩
  ·obtain⟨w',z⟩:=I.cell y c e
   exact⟨w',z.sameBut hs (cne y c e)⟩
  ·obtain⟨e,n,ne,nf,d⟩:=I.pin p hp
   exact⟨(hs.2 p.1 ne).trans e,n,ne,nf,d⟩
 ·have hfn:X.fn x=true:=by
   rcases hf with z|z
   ·exact z
   ·rw[z]at hk;cases hk
  obtain⟨c,hc⟩:=I.ok.has x (.inl hk)
  obtain⟨w',z⟩:=I.cell x c hc
  refine wpAny_storeName_cell I.ok.kind hk hc z (λh' hc' hs=>?_)
  obtain⟨oc,hoc,hocd⟩:=id z
  refine h {s with heap:=h' } ⟨I.ok,I.os,I.bare,⟨λb o e n hb hx=>?_,λb o e n hb hx=>?_,I.base.free,λb o e hx=>?_,I.base.tups,I.base.frzs,I.base.tbls⟩,⟨m,hn.sameBut hs (yaU (cne x c hc)),λj y v' e1 e2 e3=>?_⟩,λy c' e=>?_,I.free,I.freeC,λp hp=>?_,tracked ⟨oc,hoc,I.freeC x c hc⟩ hs,by simpa using I.len⟩ ⟨c,hs,.inr hc⟩
  ·exact(hs.2 b (yaw (yat (yag e) (I.ok.cab x c hfn hc)))).trans (I.base.keep b o e n hb hx)
  ·obtain⟨sl,e1⟩:=I.base.slot b o e n hb hx
   exact⟨sl,(hs.2 b (yaw (yat (yag e) (I.ok.cab x c hfn hc)))).trans e1⟩
  ·obtain⟨o',e1⟩:=I.base.there b o e hx
   exact⟨o',(hs.2 b (yaw (yat (yag e) (I.ok.cab x c hfn hc)))).trans e1⟩
  ·by_cases hj:j=i
   ·subst hj
    rw[hi]at e1;cases e1
    rw[List.getElem?_set_self hiσ]at e2
    cases e2
    exact⟨u,r,.inr ⟨.inl hk,c,hc,hc'⟩⟩
   ·rw [List.getElem?_set_ne (yaU hj)]at e2
    obtain⟨u',r',q⟩:=hl j y v' e1 e2 e3
    refine⟨u',r',?_⟩
    rcases q with q|⟨k,c',e,z'⟩
    ·exact .inl q
    ·refine .inr ⟨k,c',e,z'.sameBut hs ?_⟩
     rintro rfl
     exact hj (qcW hN e1 (I.ok.inj _ _ _ e hc▸hi))
  ·by_cases hcc:c'=c
   ·subst hcc;exact⟨_,hc'⟩
   ·obtain⟨w2,z2⟩:=I.cell y c' e
    exact⟨w2,z2.sameBut hs hcc⟩
  ·obtain⟨e,n,ne,nf,d⟩:=I.pin p hp
   refine⟨(hs.2 p.1 ?_).trans e,n,ne,nf,d⟩
   intro q
   rw[q,hoc]at e
   have q':oc=p.2:=yaA e
   exact d w' (by rw[<-q'];exact hocd)
theorem yS {M:Model} {A:yaj} {E:Value->yaa->Prop} {i:Nat} {x:Str} {v:V} {u:Value} {Q:Unit->yaa->Prop} (I:Inv X pins σ H s) (hN:X.N.Nodup) (hi:X.N[i]? = some x) (hx:Loc X.env.scope x) (r:jh v u)
  (h:∀s',Inv X pins (σ.set i (some v)) H s'->Q () s') (hf:X.fn x=true\/X.env.scope.names.lookup x=some .local:=by first|exact .inl rfl|exact .inr rfl|assumption):wpAny M A (storeName X.env x u) Q E s :=
 qez I hN hi hx r (λs' I' _=>h s' I') hf
theorem Inv.call' {s':yaa} {ch:List Addr} (I:Inv X pins σ H s) (ho:s'.os=s.os) (u:Un (frs X.stack) ch H H' s.heap s'.heap) (hok:HOk X.prog X.w H' s'.heap) (hg:ybO s'.gens)
  (hch:∀b∈ch,(b∈X.ex\/X.s₀.heap.objs.size<=b)/\b≠X.env.locals/\(∀x c,X.env.cells.lookup x=some c->c≠b)/\∀p∈X.pn++pins,p.1≠b):Inv X pins σ H' s':=by
 obtain⟨h',g',d',t',o'⟩:=s'
 have e:o'=s.os:=ho
 subst e
 exact I.call (g':=g') (t':=t') (d':=d') u hok hg hch
end
abbrev XK:=Value->Option Addr->Hp->Prop
abbrev St:=List (Option V)
abbrev VK:=V->Hp->Prop
abbrev TE:=St->Hp->VK->Prop
abbrev TT:=St->Hp->(Bool->Hp->Prop)->Prop
abbrev TA:=St->Hp->(List V->Hp->Prop)->Prop
structure qes where
 nx:St->Hp->Prop
 rt:VK
 bk:St->Hp->Prop:=λ_ _=>False
 ct:St->Hp->Prop:=λ_ _=>False
abbrev TS:=qes->St->Hp->Prop
def EP(X:Cx)(pins:List (Addr×Obj))(σ:St)(Q:VK)(u:Value)(s':yaa):Prop:=∃v H',Inv X pins σ H' s'/\jh v u/\Q v H'
def TP(X:Cx)(pins:List (Addr×Obj))(σ:St)(Q:Bool->Hp->Prop)(b:Bool)(s':yaa):Prop:=∃H',Inv X pins σ H' s'/\Q b H'
def AP(X:Cx)(pins:List (Addr×Obj))(σ:St)(Q:List V->Hp->Prop)(us:List Value)(s':yaa):Prop:=∃vs H',Inv X pins σ H' s'/\zk vs us/\Q vs H'
def SP (X:Cx) (pins:List (Addr×Obj)) (D:qes) (f:Flow) (s':yaa):Prop :=
 match f with
 |.next=>∃σ' H',Inv X pins σ' H' s'/\D.nx σ' H'
 |.brk=>∃σ' H',Inv X pins σ' H' s'/\D.bk σ' H'
 |.cont=>∃σ' H',Inv X pins σ' H' s'/\D.ct σ' H'
 |.ret u=>∃v σ' H',Inv X pins σ' H' s'/\jh v u/\D.rt v H'
def PE (X:Cx) (e:Expr) (t:TE):Prop :=
 ∀(pins:List (Addr×Obj))(s:yaa)(σ:St)(H:Hp)(Q:VK),Inv X pins σ H s->t σ H Q->wpAny (model X.prog X.w) X.A (eval e X.env) (EP X pins σ Q) X.xe s
def PT (X:Cx) (e:Expr) (t:TT):Prop :=
 ∀(pins:List (Addr×Obj))(s:yaa)(σ:St)(H:Hp)(Q:Bool->Hp->Prop),Inv X pins σ H s->t σ H Q->wpAny (model X.prog X.w) X.A (isTrue e X.env (eval e X.env)) (TP X pins σ Q) X.xe s
def PW (X:Cx) (e:Expr) (t:TT):Prop :=
 ∀(whole:Sem Value)(pins:List (Addr×Obj))(s:yaa)(σ:St)(H:Hp)(Q:Bool->Hp->Prop),Inv X pins σ H s->t σ H Q->wpAny (model X.prog X.w) X.A (isTrue e X.env whole) (TP X pins σ Q) X.xe s
theorem PW.pt{X:Cx}{e:Expr}{t:TT}(h:PW X e t):PT X e t:=h _
def PA (X:Cx) (es:List Expr) (t:TA):Prop :=
 ∀(pos:Pos)(pins:List (Addr×Obj))(s:yaa)(σ:St)(H:Hp)(Q:List V->Hp->Prop),Inv X pins σ H s->t σ H Q->wpAny (model X.prog X.w) X.A (spliced (yaz pos (yac es X.env))) (AP X pins σ Q) X.xe s
def PS (X:Cx) (st:Stmt) (t:TS):Prop :=
 ∀(pins:List (Addr×Obj))(s:yaa)(σ:St)(H:Hp)(D:qes),Inv X pins σ H s->t D σ H->wpAny (model X.prog X.w) X.A (exec st X.env) (SP X pins D) X.xe s
def PSs (X:Cx) (st:List Stmt) (t:TS):Prop :=
 ∀(pins:List (Addr×Obj))(s:yaa)(σ:St)(H:Hp)(D:qes),Inv X pins σ H s->t D σ H->wpAny (model X.prog X.w) X.A (execs st X.env) (SP X pins D) X.xe s
theorem thn{α:Type}{t:Sem α}{Q Q':α->yaa->Prop}{M:Model}{A:yaj}{E:Value->yaa->Prop}{s:yaa}(h:wpAny M A t Q E s)(hQ:∀a s,Q a s->Q' a s):wpAny M A t Q' E s:=yaF h hQ λ_ _ x=>x
end L2
namespace L2
open PySem PySem.Spec PyProof.Rows
section
variable{X:Cx}
theorem bin {a b:Expr} {ta tb:TE} (ha:PE X a ta) (hb:PE X b tb) {pins:List (Addr×Obj)} {s:yaa} {σ:St} {H:Hp} {R:V->V->Hp->Prop} (I:Inv X pins σ H s) (h:ta σ H λx H1=>tb σ H1 λy H2=>R x y H2)
  {α:Type} {Q:α->yaa->Prop} {f:Value->Value->Sem α}
  (hf:∀v u s2 x y H2,Inv X pins σ H2 s2->jh x v->jh y u->R x y H2->wpAny (model X.prog X.w) X.A (f v u) Q X.xe s2) :
  wpAny (model X.prog X.w) X.A (eval a X.env) (λv sY=>wpAny (model X.prog X.w) X.A (eval b X.env) (λu sV=>wpAny (model X.prog X.w) X.A (f v u) Q X.xe sV) X.xe sY) X.xe s:=by
 refine thn (ha pins s σ H _ I h) λv s1 ⟨x,H1,I1,r1,q1⟩=>?_
 refine thn (hb pins s1 σ H1 _ I1 q1) λu s2 ⟨y,H2,I2,r2,q2⟩=>?_
 exact hf v u s2 x y H2 I2 r1 r2 q2
def qgy(i:Nat):TE:=λσ H Q=>∃v,σ[i]? = some (some v)/\Q v H
def tC(v:V):TE:=λ_ H Q=>Q v H
theorem yI {i:Nat} {x:Str} {pos:Pos} (hN:X.N[i]? = some x) (hv:Vis X.env.scope x) (hd:(x==("__debug__":Str))=false:=by decide) (hcd:(x==("__classdict__":Str))=false:=by decide):PE X (.Name x pos) (qgy i):=by
 intro pins s σ H Q I h
 obtain⟨v,e,h⟩:=h
 obtain⟨m,hn,hl⟩:=I.loc
 obtain⟨u,r,l⟩:=hl i x v hN e hv
 have fin:EP X pins σ Q u s:=⟨v,H,I,r,h⟩
 rcases l with⟨hk,hm⟩|⟨hk,c,hc,hcell⟩
 ·exact yfA (wpAny_loadName_local I.ok.kind hk hn hm fin) hd
 ·rcases hk with hk|hk
  ·exact yfA (wpAny_loadName_cell I.ok.kind hk hc hcell fin) hd
  ·exact yfA (wpAny_loadName_free I.ok.kind hk hc hcell fin hcd) hd
theorem qkQ{i j pos}:PE X (.Constant (.int i) j pos) (tC (.int i)):=λ_ _ _ H _ I h=>ydc ⟨.int i,H,I.tok _,⟨_,rfl⟩,h⟩
theorem qmX{b j pos}:PE X (.Constant (.bool b) j pos) (tC (.bl b)):=λ_ _ _ H _ I h=>Constant_bool ⟨.bl b,H,I,rfl,h⟩
theorem qkR{j pos}:PE X (.Constant .none j pos) (tC .non):=λ_ _ _ H _ I h=>Constant_none ⟨.non,H,I,rfl,h⟩
theorem qeA{x j pos}:PE X (.Constant (.str x) j pos) (tC (.str x)):=λ_ _ _ H _ I h=>yeS ⟨.str x,H,I.tok _,⟨_,rfl⟩,h⟩
def Gl(X:Cx)(x:Str):Prop:=X.env.kindOf x=some .globalImplicit
theorem wF {E:Value->yaa->Prop} {pins:List (Addr×Obj)} {s:yaa} {σ:St} {H:Hp} {x:Str} {u:Value} {pos:Pos} {Q:Value->yaa->Prop} (I:Inv X pins σ H s) (hg:Gl X x) (hm:X.mg x=some u) (h:Q u s)
  (hd:(x==("__debug__":Str))=false:=by decide):wpAny (model X.prog X.w) X.A (eval (.Name x pos) X.env) Q E s :=
 ydm I.ok.kind hg (Calls.loadGlobal_global (by rw[I.ok.glob];exact I.mod.glob.keeps I.bk) hm h) hd
theorem wG {E:Value->yaa->Prop} {pins:List (Addr×Obj)} {s:yaa} {σ:St} {H:Hp} {x:Str} {u:Value} {pos:Pos} {Q:Value->yaa->Prop} (I:Inv X pins σ H s) (hg:Gl X x) (hm:X.mg x=none) (hv:yay x=some u) (h:Q u s)
  (hn:x≠"__name__":=by decide) (hd:(x==("__debug__":Str))=false:=by decide):wpAny (model X.prog X.w) X.A (eval (.Name x pos) X.env) Q E s:=by
 obtain⟨mb,h1,h2⟩:=I.mod.blt
 exact ydm I.ok.kind hg (Calls.loadGlobal_builtin (by rw[I.ok.glob];exact I.mod.glob.keeps I.bk) hm (by rw[I.ok.blt];exact h1.keeps I.bk) ((h2 x hn).trans hv) h) hd
theorem wH {x:Str} {v:V} {u:Value} {pos:Pos} (hg:Gl X x) (hm:X.mg x=some u) (r:jh v u) (hd:(x==("__debug__":Str))=false:=by decide):PE X (.Name x pos) (tC v) :=
 λ_ _ _ H _ I h=>wF I hg hm ⟨v,H,I,r,h⟩ hd
theorem qeB {x:Str} {v:V} {u:Value} {pos:Pos} (hg:Gl X x) (hm:X.mg x=none) (hv:yay x=some u) (r:jh v u) (hn:x≠"__name__":=by decide) (hd:(x==("__debug__":Str))=false:=by decide):PE X (.Name x pos) (tC v) :=
 λ_ _ _ H _ I h=>wG I hg hm hv ⟨v,H,I,r,h⟩ hn hd
variable{a b:Expr}{ta tb:TE}{pos:Pos}
def PC (X:Cx) (op:CmpOp) (a b:Expr) (t:TE):Prop :=
 ∀ (pins:List (Addr×Obj)) (s:yaa) (σ:St) (H:Hp) (Q:VK),Inv X pins σ H s->t σ H Q ->
  wpAny (model X.prog X.w) X.A (eval a X.env) (λv sY=>wpAny (model X.prog X.w) X.A (eval b X.env) (λu sV=>wpAny (model X.prog X.w) X.A (yaM op v u) (EP X pins σ Q) X.xe sV) X.xe sY) X.xe s
def tB(t:TE):TT:=λσ H Q=>t σ H λx H1=>∃c,x=.bl c/\Q c H1
theorem qnM {op:CmpOp} {t:TE} (h:PC X op a b t) (h1:ybP op b=false:=by first|exact nobehind _ (by decide) (by decide)|rfl):PT X (.Compare a [op] [b] pos) (tB t):=by
 intro pins s σ H Q I hw
 refine yeg (thn (h pins s σ H _ I hw) λv s1 h1=>thn h1 λu s2 h2=>thn h2 λc s3 ⟨x,H1,I1,r1,q1⟩=>?_) h1
 obtain⟨d,rfl,q⟩:=q1
 cases r1
 exact ybn ⟨H1,I1,q⟩
theorem qkS {e:Expr} {t:TE} (h:PE X e t) (he:∀whole,isTrue e X.env whole=(do let v <-whole;yc7 e.pos;ybr [v] (truthy v)):=by intro _;rfl):PT X e (tB t):=by
 intro pins s σ H Q I hw
 refine isTrue_plain (thn (h pins s σ H _ I hw) λv s1 ⟨x,H1,I1,r1,q1⟩=>?_) (he _)
 obtain⟨d,rfl,q⟩:=q1
 cases r1
 exact ybn ⟨H1,I1,q⟩
variable{tA tB':TT}{rest:List Expr}
def qoa(t u:TT):TT:=λσ H Q=>t σ H λc H1=>if c=true then u σ H1 Q else Q false H1
def tOr(t u:TT):TT:=λσ H Q=>t σ H λc H1=>if c=true then Q true H1 else u σ H1 Q
def qob(t:TT):TT:=λσ H Q=>t σ H λc H1=>Q (!c) H1
theorem qiO (ha:PT X a tA):PW X (.BoolOp .And [a] pos) tA:=by
 intro wh pins s σ H Q I h
 refine isTrue_and (thn (ha pins s σ H Q I h) λc s1 e=>?_)
 cases c with
 |true=>exact isTrue_and_nil e
 |false=>exact e
theorem qkT (ha:PT X a tA):PW X (.BoolOp .Or [a] pos) tA:=by
 intro wh pins s σ H Q I h
 refine isTrue_or (thn (ha pins s σ H Q I h) λc s1 e=>?_)
 cases c with
 |false=>exact isTrue_or_nil e
 |true=>exact e
theorem qkU (ha:PT X a tA) (hb:PW X (.BoolOp .And (b::rest) pos) tB'):PW X (.BoolOp .And (a::b::rest) pos) (qoa tA tB'):=by
 intro wh pins s σ H Q I h
 refine isTrue_and (thn (ha pins s σ H _ I h) λc s1 ⟨H1,I1,q1⟩=>?_)
 cases c with
 |true=>exact hb wh pins s1 σ H1 Q I1 q1
 |false=>exact⟨H1,I1,q1⟩
theorem qmY (ha:PT X a tA) (hb:PW X (.BoolOp .Or (b::rest) pos) tB'):PW X (.BoolOp .Or (a::b::rest) pos) (tOr tA tB'):=by
 intro wh pins s σ H Q I h
 refine isTrue_or (thn (ha pins s σ H _ I h) λc s1 ⟨H1,I1,q1⟩=>?_)
 cases c with
 |true=>exact⟨H1,I1,q1⟩
 |false=>exact hb wh pins s1 σ H1 Q I1 q1
theorem qkV (ha:PT X a tA):PT X (.UnaryOp .Not a pos) (qob tA):=by
 intro pins s σ H Q I h
 exact isTrue_not (ha pins s σ H (λc H1=>Q (!c) H1) I h)
def qmZ(ta tb:TE):TE:=λσ H Q=>ta σ H λx H1=>∃c,x=.bl c/\if c=true then tb σ H1 Q else Q (.bl false) H1
def qoc(ta tb:TE):TE:=λσ H Q=>ta σ H λx H1=>∃c,x=.bl c/\if c=true then Q (.bl true) H1 else tb σ H1 Q
def qm0(ta:TE):TE:=λσ H Q=>ta σ H λx H1=>∃c,x=.bl c/\Q (.bl (!c)) H1
theorem qkW{op}{t:TE}(h:PE X a t):PE X (.BoolOp op [a] pos) t:=λpins s σ H Q I hw=>BoolOp_one (h pins s σ H Q I hw)
theorem qkX (ha:PE X a ta) (hb:PE X (.BoolOp .And (b::rest) pos) tb):PE X (.BoolOp .And (a::b::rest) pos) (qmZ ta tb):=by
 intro pins s σ H Q I h
 refine BoolOp_and (thn (ha pins s σ H _ I h) λv s1 ⟨x,H1,I1,r1,q1⟩=>?_)
 obtain⟨c,rfl,q1⟩:=q1
 cases r1
 refine ybn ?_
 cases c with
 |true=>exact hb pins s1 σ H1 Q I1 q1
 |false=>exact⟨.bl false,H1,I1,rfl,q1⟩
theorem qm1 (ha:PE X a ta) (hb:PE X (.BoolOp .Or (b::rest) pos) tb):PE X (.BoolOp .Or (a::b::rest) pos) (qoc ta tb):=by
 intro pins s σ H Q I h
 refine BoolOp_or (thn (ha pins s σ H _ I h) λv s1 ⟨x,H1,I1,r1,q1⟩=>?_)
 obtain⟨c,rfl,q1⟩:=q1
 cases r1
 refine ybn ?_
 cases c with
 |false=>exact hb pins s1 σ H1 Q I1 q1
 |true=>exact⟨.bl true,H1,I1,rfl,q1⟩
theorem qkY (ha:PE X a ta):PE X (.UnaryOp .Not a pos) (qm0 ta):=by
 intro pins s σ H Q I h
 refine UnaryOp_ (thn (ha pins s σ H _ I h) λv s1 ⟨x,H1,I1,r1,q1⟩=>?_)
 obtain⟨c,rfl,q1⟩:=q1
 cases r1
 exact not_of (ybn ⟨.bl (!c),H1,I1,rfl,q1⟩)
def tIf(t:TT)(ta tb:TE):TE:=λσ H Q=>t σ H λc H1=>if c=true then ta σ H1 Q else tb σ H1 Q
theorem qgz {c:Expr} (hc:PT X c tA) (ha:PE X a ta) (hb:PE X b tb):PE X (.IfExp c a b pos) (tIf tA ta tb):=by
 intro pins s σ H Q I h
 refine wpAny_IfExp (thn (hc pins s σ H _ I h) λd s1 ⟨H1,I1,q1⟩=>?_)
 cases d with
 |true=>exact ha pins s1 σ H1 Q I1 q1
 |false=>exact hb pins s1 σ H1 Q I1 q1
end
end L2
namespace L2
open PySem PySem.Spec PyProof.Rows
def SqL (K:yae) (H:Hp) (a:Addr) (xs:List V):Prop :=
 Rd H a (.lst xs) \/
  ∃(o:Obj)(its:Array Value)(n:Nat),K.lookup a=some o/\o.cls=.type "list"/\o.dict=none/\o.data=.seq its n/\its.size<=yap/\zk xs its.toList
def SqT (K:yae) (H:Hp) (a:Addr) (xs:List V):Prop :=
 Rd H a (.tup xs) \/
  ∃(o:Obj)(its:Array Value)(n:Nat),K.lookup a=some o/\o.cls=.type "tuple"/\o.data=.seq its n/\its.size<=yap/\zk xs its.toList
def qod:Value->Option V
 |.none=>some .non
 |.bool b=>some (.bl b)
 |.int i _=>some (.int i)
 |.str x _=>some (.str x)
 |.bytes b _=>some (.byt b)
 |.float b _=>some (.flt b)
 |.ref a=>some (.ref a)
 |.type n=>some (.ty n)
 |_=>none
theorem jh.abs {x:V} {u:Value} (r:jh x u):qod u=some x:=by
 cases x with
 |non=>cases r;rfl
 |bl _=>cases r;rfl
 |int _=>obtain⟨t,rfl⟩:=r;rfl
 |str _=>obtain⟨t,rfl⟩:=r;rfl
 |byt _=>obtain⟨t,rfl⟩:=r;rfl
 |flt _=>obtain⟨t,rfl⟩:=r;rfl
 |ref _=>cases r;rfl
 |ty _=>cases r;rfl
theorem jh.inj{x y:V}{u:Value}(r:jh x u)(q:jh y u):x=y:=yaA (r.abs.symm.trans q.abs)
theorem zk.inj:∀{xs ys:List V}{us:List Value},zk xs us->zk ys us->xs=ys
 |_,_,_,.nil,.nil=>rfl
 |_,_,_,.cons r t,.cons r' t'=>by rw[r.inj r',zk.inj t t']
section
variable{X:Cx}{pins:List (Addr×Obj)}{σ:St}{H:Hp}{s:yaa}{a:Addr}{xs ys:List V}
theorem SqL.of{K:yae}(h:H a=some (.lst xs)):SqL K H a xs:=.inl (.inl h)
theorem Inv.list (I:Inv X pins σ H s) (h:SqL X.K H a xs):∃its:List Value,zk xs its/\PlainL s.heap a its.toArray/\xs.length<=yap:=by
 rcases h with h|⟨o,its,n,hk,hc,hd,hs,hz,r⟩
 ·obtain⟨z,its,n,r,e⟩:=h.ok I.hok
  exact⟨its,r,⟨_,n,e,rfl,rfl,rfl⟩,z⟩
 ·refine⟨its.toList,r,⟨o,n,I.kIn a o hk,hc,hd,by simpa using hs⟩,?_⟩
  have e:=r.length
  simp only[yaI]at e
  omega
theorem Inv.tuple (I:Inv X pins σ H s) (h:SqT X.K H a xs):∃its:List Value,zk xs its/\IsTup s.heap a its.toArray/\xs.length<=yap:=by
 rcases h with h|⟨o,its,n,hk,hc,hs,hz,r⟩
 ·obtain⟨z,its,r,p⟩:=h.ok I.hok
  exact⟨its,r,p,z⟩
 ·refine⟨its.toList,r,⟨o,I.kIn a o hk,hc,n,by simpa using hs⟩,?_⟩
  have e:=r.length
  simp only[yaI]at e
  omega
theorem Inv.list_inj (I:Inv X pins σ H s) (h:SqL X.K H a xs) (h':SqL X.K H a ys):xs=ys:=by
 obtain⟨its,r,⟨o,n,e,_,_,d⟩,_⟩:=I.list h
 obtain⟨its',r',⟨o',n',e',_,_,d'⟩,_⟩:=I.list h'
 rw[e]at e';cases e'
 rw[d]at d'
 injection d' with d1 _
 have:its=its':=by simpa using congrArg Array.toList d1
 subst this
 exact r.inj r'
theorem Inv.tuple_inj (I:Inv X pins σ H s) (h:SqT X.K H a xs) (h':SqT X.K H a ys):xs=ys:=by
 obtain⟨its,r,⟨o,e,_,n,d⟩,_⟩:=I.tuple h
 obtain⟨its',r',⟨o',e',_,n',d'⟩,_⟩:=I.tuple h'
 rw[e]at e';cases e'
 rw[d]at d'
 injection d' with d1 _
 have:its=its':=by simpa using congrArg Array.toList d1
 subst this
 exact r.inj r'
end
abbrev Cx.wish(X:Cx)(E:Value->yaa->Prop):Cx:={X with xe:=E}
abbrev Cx.nox(X:Cx):Cx:=X.wish λ_ _=>False
theorem Cx.Ok.wish {X:Cx} (ok:X.Ok) (E:Value->yaa->Prop):(X.wish E).Ok :=
 ⟨ok.mod,ok.kind,ok.glob,ok.blt,ok.above,ok.inj,ok.has,ok.cab,ok.hd,ok.frames,ok.stk,ok.exf,ok.bs,ok.bsz,ok.noex,ok.exfs,ok.funs,ok.frf⟩
theorem Cx.Ok.unwish {X:Cx} {E:Value->yaa->Prop} (ok:(X.wish E).Ok):X.Ok :=
 ⟨ok.mod,ok.kind,ok.glob,ok.blt,ok.above,ok.inj,ok.has,ok.cab,ok.hd,ok.frames,ok.stk,ok.exf,ok.bs,ok.bsz,ok.noex,ok.exfs,ok.funs,ok.frf⟩
section
variable{X:Cx}{pins:List (Addr×Obj)}{σ:St}{H:Hp}{s:yaa}{E:Value->yaa->Prop}
theorem Inv.wish(I:Inv X pins σ H s)(E:Value->yaa->Prop):Inv (X.wish E) pins σ H s:=⟨I.ok.wish E,I.os,I.bare,I.base,I.loc,I.cell,I.free,I.freeC,I.pin,I.hok,I.len⟩
theorem Inv.unwish(I:Inv (X.wish E) pins σ H s):Inv X pins σ H s:=⟨I.ok.unwish,I.os,I.bare,I.base,I.loc,I.cell,I.free,I.freeC,I.pin,I.hok,I.len⟩
theorem SP.unwish {D:qes} {f:Flow} {s':yaa} (h:SP (X.wish E) pins D f s'):SP X pins D f s':=by
 cases f with
 |next=>obtain⟨σ',H',I,q⟩:=h;exact⟨σ',H',I.unwish,q⟩
 |brk=>obtain⟨σ',H',I,q⟩:=h;exact⟨σ',H',I.unwish,q⟩
 |cont=>obtain⟨σ',H',I,q⟩:=h;exact⟨σ',H',I.unwish,q⟩
 |ret u=>obtain⟨v,σ',H',I,r,q⟩:=h;exact⟨v,σ',H',I.unwish,r,q⟩
theorem PSs.nox {st:List Stmt} {t:TS} (h:PSs X.nox st t):PSs X st t:=λpins s σ H D I hw=>
 yaF (h pins s σ H D (I.wish _) hw) (λ_ _ q=>q.unwish) λ_ _ z=>yaR z
end
section
variable{X:Cx}{st:Stmt}{rest:List Stmt}{t u:TS}{e:Expr}{te:TE}{pos:Pos}
def qm2:TS:=λD σ H=>D.nx σ H
def qoe(t u:TS):TS:=λD σ H=>t {D with nx:=u D} σ H
theorem qiP:PSs X [] qm2:=λ_ _ σ H _ I h=>ybV ⟨σ,H,I,h⟩
theorem wx (h1:PS X st t) (h2:PSs X rest u):PSs X (st::rest) (qoe t u):=by
 intro pins s σ H D I h
 refine wpAny_execs_cons (thn (h1 pins s σ H {D with nx:=u D} I h) λf s1 q=>?_)
 cases f with
 |next=>
  obtain⟨σ',H',I',q⟩:=q
  exact h2 pins s1 σ' H' D I' q
 |ret v=>exact q
 |brk=>exact q
 |cont=>exact q
theorem qeC (h1:PS X st t):PSs X [st] t:=by
 intro pins s σ H D I h
 refine wpAny_execs_cons (thn (h1 pins s σ H D I h) λf s1 q=>?_)
 cases f with
 |next=>exact ybV q
 |ret v=>exact q
 |brk=>exact q
 |cont=>exact q
theorem Inv.quiet{pins:List (Addr×Obj)}{σ:St}{H:Hp}{s:yaa}(I:Inv X pins σ H s):interactive X.env=false:=by simp[interactive,I.ok.kind]
def qm3(te:TE):TS:=λD σ H=>te σ H λ_ H1=>D.nx σ H1
theorem qeD (he:PE X e te) (hs:ycO e none pos.line X.env=pure false:=by rfl):PS X (.Expr e pos) (qm3 te):=by
 intro pins s σ H D I h
 exact wpAny_Expr_any (thn (he pins s σ H _ I h) λv s1 ⟨x,H1,I1,r1,q1⟩=>⟨σ,H1,I1,q1⟩) I.quiet hs
def qof(te:TE):TS:=λD σ H=>te σ H D.rt
theorem qkZ (he:PE X e te):PS X (.Return (some e) pos) (qof te):=by
 intro pins s σ H D I h
 exact wpAny_Return_some (thn (he pins s σ H _ I h) λv s1 ⟨x,H1,I1,r1,q1⟩=>⟨x,σ,H1,I1,r1,q1⟩)
def qog(c:TT)(t u:TS):TS:=λD σ H=>c σ H λb H1=>if b=true then t D σ H1 else u D σ H1
theorem qm4 {c:Expr} {a b:List Stmt} {tc:TT} (hc:PT X c tc) (ha:PSs X a t) (hb:PSs X b u):PS X (.If c a b pos) (qog tc t u):=by
 intro pins s σ H D I h
 refine wpAny_If (thn (hc pins s σ H _ I h) λd s1 ⟨H1,I1,q1⟩=>?_)
 cases d with
 |true=>exact ha pins s1 σ H1 D I1 q1
 |false=>exact hb pins s1 σ H1 D I1 q1
end
abbrev TG:=V->St->Hp->(St->Hp->Prop)->Prop
abbrev TGs:=List V->St->Hp->(St->Hp->Prop)->Prop
def PG (X:Cx) (target:Expr) (t:TG):Prop :=
 ∀ (pins:List (Addr×Obj)) (s:yaa) (σ:St) (H:Hp) (v:V) (u:Value) (Q:St->Hp->Prop),Inv X pins σ H s->jh v u->t v σ H Q ->
  wpAny (model X.prog X.w) X.A (ycs target X.env u) (λ_ s'=>∃σ' H',Inv X pins σ' H' s'/\Q σ' H') X.xe s
def PGs (X:Cx) (ts:List Expr) (t:TGs):Prop :=
 ∀ (pins:List (Addr×Obj)) (s:yaa) (σ:St) (H:Hp) (vs:List V) (us:List Value) (Q:St->Hp->Prop),Inv X pins σ H s->zk vs us->t vs σ H Q ->
  wpAny (model X.prog X.w) X.A (yeG ((ybd ts X.env).map (·.2)) us) (λ_ s'=>∃σ' H',Inv X pins σ' H' s'/\Q σ' H') X.xe s
abbrev qm5:=V->V->V->Hp->(Hp->Prop)->Prop
def qnN (X:Cx) (t:qm5):Prop :=
 ∀ (pins:List (Addr×Obj)) (s:yaa) (σ:St) (H:Hp) (o i v:V) (ov iv u:Value) (Q:Hp->Prop),Inv X pins σ H s->jh o ov->jh i iv->jh v u->t o i v H Q ->
  wpAny (model X.prog X.w) X.A (yfd ov iv u) (λ_ s'=>∃H',Inv X pins σ H' s'/\Q H') X.xe s
section
variable{X:Cx}{pos:Pos}
def qk0(i:Nat):TG:=λv σ H Q=>Q (σ.set i (some v)) H
theorem qiQ {i:Nat} {x:Str} (hN:X.N.Nodup) (hi:X.N[i]? = some x) (hx:Loc X.env.scope x) (hf:X.fn x=true\/X.env.scope.names.lookup x=some .local:=by first|exact .inl rfl|exact .inr rfl|assumption):PG X (.Name x pos) (qk0 i):=by
 intro pins s σ H v u Q I r h
 exact wpAny_assign_Name (yS I hN hi hx r (λs' I'=>⟨_,H,I',h⟩) hf)
def qoh:TGs:=λvs σ H Q=>vs=[]/\Q σ H
def qm6(t:TG)(u:TGs):TGs:=λvs σ H Q=>∃v r,vs=v::r/\t v σ H λσ' H'=>u r σ' H' Q
theorem qeE:PGs X [] qoh:=by
 intro pins s σ H vs us Q I r h
 obtain⟨e,h⟩:=h
 subst e
 cases r
 exact yfh ⟨σ,H,I,h⟩
theorem qaL {e:Expr} {es:List Expr} {t:TG} {u:TGs} (h1:PG X e t) (h2:PGs X es u)
  (hs:(ybd (e::es) X.env).map (·.2)=ycs e X.env::(ybd es X.env).map (·.2):=by rfl):PGs X (e::es) (qm6 t u):=by
 intro pins s σ H vs us Q I r h
 obtain⟨v,vr,e1,h⟩:=h
 subst e1
 cases r with
 |cons r rr=>
  rw[hs]
  refine ydd (thn (h1 pins s σ H _ _ _ I r h) λ_ s1 ⟨σ1,H1,I1,q1⟩=>?_)
  exact h2 pins s1 σ1 H1 _ _ Q I1 rr q1
def qoi(K:yae)(n:Nat)(t:TGs):TG:=λv σ H Q=>∃a xs,v=.ref a/\SqT K H a xs/\xs.length=n/\t xs σ H Q
theorem qhP {es:List Expr} {k:Nat} {t:TGs} {n:Nat} (hc:X.calm=true) (h:PGs X es t)
  (hn:(ybd es X.env).length=n:=by rfl) (hst:(ybd es X.env).findIdx? (·.1)=none:=by rfl):PG X (.Tuple es k pos) (qoi X.K n t):=by
 intro pins s σ H v u Q I r hw
 obtain⟨a,xs,e1,hq,hl,hw⟩:=hw
 subst e1
 cases r
 obtain⟨its,rv,ht,hz⟩:=I.tuple hq
 refine assign_Tuple_tuple (I.ok.hd hc) ht (by simp[hn,<-hl,rv.length]) hst λh' hx=>?_
 have I1:Inv X pins σ H {s with heap:=h' }:=I.kept (t':=s.toks) λb o e=>hx b o (yaw (yag e)) e
 exact h pins _ σ H xs _ Q I1 (by simpa using rv) hw
def qoj(to ti:TE)(t:qm5):TG:=λv σ H Q=>to σ H λo H1=>ti σ H1 λi H2=>t o i v H2 λH3=>Q σ H3
theorem qeF {o i:Expr} {to ti:TE} {t:qm5} (ho:PE X o to) (hi:PE X i ti) (hs:qnN X t)
  (ha:∀v,ycs (.Subscript o i pos) X.env v=(do
   let ov <-ybr [v] (eval o X.env)
   let iv <-ybr [v,ov] (eval i X.env)
   yc7 pos
   ybr [v,ov,iv] (yfd ov iv v)
   release [v,ov,iv] []):=by intro _;rfl):PG X (.Subscript o i pos) (qoj to ti t):=by
 intro pins s σ H v u Q I r h
 rw[ha]
 refine yab (ybp (thn (ho pins s σ H _ I h) λov s1 ⟨x,H1,I1,r1,q1⟩=>?_))
 refine yab (ybp (thn (hi pins s1 σ H1 _ I1 q1) λiv s2 ⟨y,H2,I2,r2,q2⟩=>?_))
 refine yab (ya6 (yab (ybp (thn (hs pins s2 σ H2 x y v ov iv u _ I2 r1 r2 r q2) λ_ s3 ⟨H3,I3,q3⟩=>?_))))
 exact wpAny_release ⟨σ,H3,I3,q3⟩
def qnO(te:TE)(g:TG):TS:=λD σ H=>te σ H λx H1=>g x σ H1 D.nx
theorem qeG {tg e:Expr} {te:TE} {g:TG} (he:PE X e te) (hg:PG X tg g) (hs:yci [tg] e pos.line X.env=pure false:=by rfl) (hw:ycj [tg] e X.env=pure none:=by rfl)
  (h1:(ybd [tg] X.env).map (·.2)=[ycs tg X.env]:=by rfl):PS X (.Assign [tg] e pos) (qnO te g):=by
 intro pins s σ H D I h
 refine wpAny_Assign_stores (thn (he pins s σ H _ I h) λv s1 ⟨x,H1,I1,r1,q1⟩=>?_) hs hw
 rw[h1]
 exact thn (hg pins s1 σ H1 x v _ I1 r1 q1) λ_ s2 q=>q
theorem qhQ {i:Nat} {x:Str} {e:Expr} {te:TE} {pos':Pos} (hN:X.N.Nodup) (hi:X.N[i]? = some x) (hx:Loc X.env.scope x) (he:PE X e te) (hs:ycO e (some (.Name x pos')) pos.line X.env=pure false:=by rfl) (hf:X.fn x=true\/X.env.scope.names.lookup x=some .local:=by first|exact .inl rfl|exact .inr rfl|assumption) :
  PS X (.Assign [.Name x pos'] e pos) (qnO te (qk0 i)):=by
 intro pins s σ H D I h
 refine wpAny_Assign_Name (thn (he pins s σ H _ I h) λv s1 ⟨y,H1,I1,r1,q1⟩=>?_) hs
 exact yS I1 hN hi hx r1 (λs2 I2=>⟨_,H1,I2,q1⟩) hf
def qok(i j:Nat)(ta:TA):TS:=λD σ H=>ta σ H λvs H1=>∃v w,vs=[v,w]/\D.nx ((σ.set i (some v)).set j (some w)) H1
theorem qk1 {i j:Nat} {x y:Str} {a b:Expr} {ta:TA} {px py pt:Pos} {kt k2 pt2} (hc:X.calm=true) (hN:X.N.Nodup) (hi:X.N[i]? = some x) (hj:X.N[j]? = some y) (hij:i≠j)
  (hx:X.env.scope.names.lookup x=some .local) (hy:X.env.scope.names.lookup y=some .local) (ha:PA X [a,b] ta)
  (hw:ycj [.Tuple [.Name x px,.Name y py] kt pt] (.Tuple [a,b] k2 pt2) X.env=pure (some [x,y]))
  (hs:yci [.Tuple [.Name x px,.Name y py] kt pt] (.Tuple [a,b] k2 pt2) pos.line X.env=pure false:=by rfl) :
  PS X (.Assign [.Tuple [.Name x px,.Name y py] kt pt] (.Tuple [a,b] k2 pt2) pos) (qok i j ta):=by
 intro pins s σ H D I h
 rw[exec_Assign_arm]
 refine yab (ya6 ?_)
 rw[hs]
 refine yab (yaq ?_)
 rw[if_neg (by decide)]
 refine yab (Tuple_ (thn (ha _ pins s σ H _ I h) λus s1 ⟨vs,H1,I1,r1,q1⟩=>?_))
 obtain⟨v,w,e1,q1⟩:=q1
 subst e1
 obtain ⟨u1,u2,rfl,rv,rw'⟩:∃u1 u2,us=[u1,u2]/\jh v u1/\jh w u2:=by
  cases r1 with
  | cons p q=>
   cases q with
   |cons p' q'=>
    cases q'
    exact⟨_,_,rfl,p,p'⟩
 refine yaX ?_ (by show 2<=yap;decide)
 have I2:Inv X pins σ H1 {s1 with heap:=s1.heap.push {cls:=.type "tuple",data:=.seq [u1,u2].toArray} }:=I1.kept (t':=s1.toks) λb o e=>Heap.get?_push_of_some _ e
 rw[hw]
 refine yab (yaq ?_)
 show wpAny (model X.prog X.w) X.A (do rule "assign.swapped-stores";let items <-unpackItems (.ref s1.heap.objs.size) 2 none;yeG [λv=>yew X.env y v,λv=>yew X.env x v] items.reverse;pure Flow.next) _ _ _
 refine yab (yfB (yab (unpackItems_tuple (items := #[u1,u2]) (I.ok.hd hc) (yde s1.heap _) λh' hx'=>?_)))
 have I3:=I2.kept (h':=h') (t':=s1.toks) λb o e=>hx' b o (yaw (yag e)) e
 show wpAny _ _ (yeG [λv=>yew X.env y v,λv=>yew X.env x v] [u2,u1] >>= λ_=>pure Flow.next) _ _ _
 refine yab (ydd (yeh (yS I3 hN hj (.inl hy) rw' (λs2 I4=>?_) (.inr hy))))
 refine ydd (yeh (yS I4 hN hi (.inl hx) rv (λs3 I5=>yfh (yaq ?_)) (.inr hx)))
 rw[List.set_comm _ _ (yaU hij)]at I5
 exact⟨_,H1,I5,q1⟩
end
section
variable{X:Cx}{pos:Pos}
def qk2 (c:TT) (tb:TS):TS:=λD σ H=>∃W:Nat->St->Hp->Prop,(∃m,W m σ H)/\∀m σ H,W m σ H ->
 c σ H λb H1=>if b=true then ∃N:St->Hp->Prop,(∀σ' H',N σ' H'->∃m',m'<m/\W m' σ' H')/\tb {D with nx:=N,ct:=N,bk:=D.nx} σ H1 else D.nx σ H1
theorem qgA {c:Expr} {body:List Stmt} {tc:TT} {tb:TS} (hp:ycP (model X.prog X.w) X.A X.env X.xe) (hc:PT X c tc) (hb:PSs X body tb):PS X (.While c body [] pos) (qk2 tc tb):=by
 intro pins s σ H D I h
 obtain⟨W,⟨m0,w0⟩,turn⟩:=h
 refine wpAny_While (codeAny_whileLoop (λn s'=>∃σ' H',Inv X pins σ' H' s'/\W n σ' H') ?_ m0 ⟨σ,H,I,w0⟩)
 rintro n s1 ⟨σ1,H1,I1,w1⟩
 refine ybB hp (thn (hc pins s1 σ1 H1 _ I1 (turn n σ1 H1 w1)) λb s2 ⟨H2,I2,q2⟩=>?_)
 cases b with
 | true=>
  obtain⟨N,hN,q2⟩:=q2
  rw[if_pos rfl]
  refine ybB hp (thn (hb pins s2 σ1 H2 _ I2 q2) λf s3 q3=>?_)
  cases f with
  |next=>
   obtain⟨σ3,H3,I3,n3⟩:=q3
   obtain⟨m',hm,w3⟩:=hN σ3 H3 n3
   exact⟨m',hm,σ3,H3,I3,w3⟩
  |cont=>
   obtain⟨σ3,H3,I3,n3⟩:=q3
   obtain⟨m',hm,w3⟩:=hN σ3 H3 n3
   exact⟨m',hm,σ3,H3,I3,w3⟩
  |brk=>exact q3
  |ret v=>exact q3
 |false=>
  rw[if_neg yao]
  exact ybV ⟨σ1,H2,I2,q2⟩
end
structure It where
 go:Nat->Hp->Prop
 yld:Nat->Hp->V->Hp->Prop
 stop:Nat->Hp->Prop
def qet (X:Cx) (pins:List (Addr×Obj)) (H:Hp) (b:Addr):Prop :=
 H b=none/\b≠X.env.locals/\b ∉ X.fs/\(b∈X.ex\/X.s₀.heap.objs.size<=b)/\(∀x c,X.env.cells.lookup x=some c->c≠b)/\∀p∈X.pn++pins,p.1≠b
theorem Inv.fpOk {X:Cx} {pins:List (Addr×Obj)} {σ:St} {H H':Hp} {s:yaa} {b:Addr} (I:Inv X pins σ H s) (hb:s.heap.objs.size<=b) (hn:H' b=none):qet X pins H' b:=by
 refine⟨hn,ybx (yat I.lt hb),I.nofs hb,.inr (yaH I.sz hb),λx c e z=>?_,λp hp z=>?_⟩
 ·obtain⟨v,q⟩:=I.cell x c e
  exact absurd (yat q.lt (by rw[z];exact hb)) (ybC _)
 ·exact absurd (yat (yag (I.pin p hp).1) (by rw[z];exact hb)) (ybC _)
structure qiR (P:yai) (w:World) (K:yae) (tg:Expr) (J:It) (fp:List Addr) (it:Addr) (tn:Nat->Heap->Prop):Prop where
 mem:it∈fp
 obj:∀i h,tn i h->∀b∈fp,∃o,h.get? b=some o/\∀v,o.data ≠ .cell v
 keep:∀i h h',tn i h->(∀b∈fp,∀o,h.get? b=some o->h'.get? b=some o)->tn i h'
 item:∀(X:Cx),X.prog=P->X.w=w->X.K=K->X.calm=true->∀(i:Nat)(pins:List (Addr×Obj))(s:yaa)(σ:St)(H:Hp)(E:Value->yaa->Prop),Inv X pins σ H s->(∀b∈fp,qet X pins H b)->tn i s.heap->J.go i H ->
  wpAny (model P w) X.A (pyNext (.ref it)) (λr s1=>∃u,r=some u /\
   wpAny (model P w) X.A (yco tg (.ref it) u) (λ_ s2=>∃x H',Inv X pins σ H' s2/\jh x u/\J.yld i H x H'/\tn (i+1) s2.heap/\∀b∈fp,H' b=none) E s1) E s
 done:∀(X:Cx),X.prog=P->X.w=w->X.K=K->X.calm=true->∀(i:Nat)(pins:List (Addr×Obj))(s:yaa)(σ:St)(H:Hp)(E:Value->yaa->Prop),Inv X pins σ H s->(∀b∈fp,qet X pins H b)->tn i s.heap->J.stop i H ->
  wpAny (model P w) X.A (pyNext (.ref it)) (λr s1=>r=none/\Inv X pins σ H s1) E s
 self:∀(A:yaj)(i:Nat)(s:yaa)(Q:Value->yaa->Prop)(E:Value->yaa->Prop),tn i s.heap->Q (.ref it) s->wpAny (model P w) A (pyIter (.ref it)) Q E s
abbrev TI:=St->Hp->(It->Hp->Prop)->Prop
def PIE (X:Cx) (pins:List (Addr×Obj)) (σ:St) (tg:Expr) (R:It->Hp->Prop) (itv:Value) (s2:yaa):Prop :=
 ∃(it:Addr)(fp:List Addr)(tn:Nat->Heap->Prop)(J:It)(H':Hp),itv=.ref it/\Inv X pins σ H' s2/\qiR X.prog X.w X.K tg J fp it tn/\tn 0 s2.heap/\(∀b∈fp,qet X pins H' b)/\R J H'
def PI (X:Cx) (tg iter:Expr) (wi:TI):Prop :=
 ∀ (pins:List (Addr×Obj)) (s:yaa) (σ:St) (H:Hp) (R:It->Hp->Prop),Inv X pins σ H s->wi σ H R ->
  wpAny (model X.prog X.w) X.A (eval iter X.env) (λv s1=>wpAny (model X.prog X.w) X.A (pyIter v) (PIE X pins σ tg R) X.xe s1) X.xe s
theorem qgB {M:Model} {A:yaj} {E:Value->yaa->Prop} {s:yaa} {tg:Expr} {it:Addr} {u:Value} {o:Obj} {n:String} {vs:Array Value} {Q:Unit->yaa->Prop} (ho:s.heap.get? it=some o) (hc:o.cls=.type n) (hd:o.data=.fields vs)
  (hn:["enumerate","zip","dict_itemiterator","dict_reverseitemiterator","odict_iterator","itertools.zip_longest","itertools.pairwise"].contains n=false) (hQ:Q () s):wpAny M A (yco tg (.ref it) u) Q E s:=by
 unfold yco
 cases tg<;>first
  |exact yaq hQ
  | (cases u<;>first
    |exact yaq hQ
    | (refine yab (wpAny_load ho ?_)
       rw[hc,hd]
       show wpAny M A (if(["enumerate","zip","dict_itemiterator","dict_reverseitemiterator","odict_iterator","itertools.zip_longest","itertools.pairwise"].contains n&&vs[0]? == some (ya7 _))=true then _ else _) Q E s
       rw[if_neg (by intro h;rw[hn,yei]at h;cases h)]
       exact yaq hQ))
def Itl (K:yae) (a:Addr):It :=
 ⟨λi H=>∃xs x,SqL K H a xs/\xs[i]? = some x,λi H x H'=>H'=H/\∀xs,SqL K H a xs->xs[i]? = some x,λi H=>∃xs,SqL K H a xs/\xs.length<=i⟩
def Itt (K:yae) (a:Addr):It :=
 ⟨λi H=>∃xs x,SqT K H a xs/\xs[i]? = some x,λi H x H'=>H'=H/\∀xs,SqT K H a xs->xs[i]? = some x,λi H=>∃xs,SqT K H a xs/\xs.length<=i⟩
def Itr(lo:Int)(n:Nat):It:=⟨λi _=>i<n,λi H x H'=>H'=H/\x=.int (lo+i),λi _=>n<=i⟩
theorem qeH {P:yai} {w:World} {K:yae} {tg:Expr} (a it:Addr):qiR P w K tg (Itl K a) [it] it (λi h=>h.IsListIter it a i) where
 mem:=by simp
 obj:=λi h st b hb=>by
  have e:b=it:=by simpa using hb
  subst e
  obtain⟨o,e,c,d⟩:=st
  exact⟨o,e,λv z=>by rw[d]at z;cases z⟩
 keep:=λi h h' st k=>st.at λo e=>k it (by simp) o e
 item:=by
  intro X hP hw hK hc i pins s σ H E I hf st hg
  subst hP hw hK
  obtain⟨xs,x,hq,hx⟩:=hg
  obtain⟨its,rv,p,hz⟩:=I.list hq
  obtain⟨u,hu,ru⟩:=rv.get hx
  obtain⟨f0,f1,f2,f3,f4,f5⟩:=hf it (by simp)
  refine wpAny_pyNext_list_item st p.isList (x:=u) (by simpa using hu) λh' st' sb=>?_
  have I1:Inv X pins σ H {s with heap:=h' }:=I.turned (t':=s.toks) (λb o hb e=>(sb.2 b hb).trans e) f0 f1 f3 f4 f5
  obtain⟨o,e,c,d⟩:=id st'
  exact⟨u,rfl,qgB (s:={s with heap:=h' }) e c d (by decide) ⟨x,H,I1,ru,⟨rfl,λys hy=>by rw[I.list_inj hy hq];exact hx⟩,st',λb hb=>(hf b hb).1⟩⟩
 done:=by
  intro X hP hw hK hc i pins s σ H E I hf st hg
  subst hP hw hK
  obtain⟨xs,hq,hx⟩:=hg
  obtain⟨its,rv,p,hz⟩:=I.list hq
  obtain⟨f0,f1,f2,f3,f4,f5⟩:=hf it (by simp)
  have hl:=rv.length
  exact wpAny_pyNext_list_end (I.ok.hd hc) st p.isList (by simp;omega) λh' eb=>⟨rfl,I.turned (t':=s.toks) (λb o hb e=>eb b o hb e) f0 f1 f3 f4 f5⟩
 self:=λ_ _ _ _ _ st h=>wpAny_pyIter_listiter st h
theorem qdQ {P:yai} {w:World} {K:yae} {tg:Expr} (a it:Addr):qiR P w K tg (Itt K a) [it] it (λi h=>h.IsTupleIter it a i) where
 mem:=by simp
 obj:=λi h st b hb=>by
  have e:b=it:=by simpa using hb
  subst e
  obtain⟨o,e,c,d⟩:=st
  exact⟨o,e,λv z=>by rw[d]at z;cases z⟩
 keep:=λi h h' st k=>st.at λo e=>k it (by simp) o e
 item:=by
  intro X hP hw hK hc i pins s σ H E I hf st hg
  subst hP hw hK
  obtain⟨xs,x,hq,hx⟩:=hg
  obtain⟨its,rv,p,hz⟩:=I.tuple hq
  obtain⟨u,hu,ru⟩:=rv.get hx
  obtain⟨f0,f1,f2,f3,f4,f5⟩:=hf it (by simp)
  refine wpAny_pyNext_tuple_item st (show s.heap.IsTuple a its.toArray from p) (x:=u) (by simpa using hu) λh' st' sb=>?_
  have I1:Inv X pins σ H {s with heap:=h' }:=I.turned (t':=s.toks) (λb o hb e=>(sb.2 b hb).trans e) f0 f1 f3 f4 f5
  obtain⟨o,e,c,d⟩:=id st'
  exact⟨u,rfl,qgB (s:={s with heap:=h' }) e c d (by decide) ⟨x,H,I1,ru,⟨rfl,λys hy=>by rw[I.tuple_inj hy hq];exact hx⟩,st',λb hb=>(hf b hb).1⟩⟩
 done:=by
  intro X hP hw hK hc i pins s σ H E I hf st hg
  subst hP hw hK
  obtain⟨xs,hq,hx⟩:=hg
  obtain⟨its,rv,p,hz⟩:=I.tuple hq
  obtain⟨f0,f1,f2,f3,f4,f5⟩:=hf it (by simp)
  have hl:=rv.length
  exact wpAny_pyNext_tuple_end (I.ok.hd hc) st (show s.heap.IsTuple a its.toArray from p) (by simp;omega) λh' eb=>⟨rfl,I.turned (t':=s.toks) (λb o hb e=>eb b o hb e) f0 f1 f3 f4 f5⟩
 self:=λ_ _ _ _ _ st h=>wpAny_pyIter_tupleiter st h
theorem qdR {P:yai} {w:World} {K:yae} {tg:Expr} (it:Addr) (lo:Int) (n:Nat):qiR P w K tg (Itr lo n) [it] it (λi h=>IsRangeIter h it (lo+(i:Nat)*1) ((n:Int)-(i:Nat)) 1) where
 mem:=by simp
 obj:=λi h st b hb=>by
  have e:b=it:=by simpa using hb
  subst e
  exact ⟨_,st,λv z=>by
   have z':yd5 _=Data.cell v:=z
   cases z'⟩
 keep:=λi h h' st k=>k it (by simp) _ st
 item:=by
  intro X hP hw hK hc i pins s σ H E I hf st hg
  subst hP hw hK
  obtain⟨f0,f1,f2,f3,f4,f5⟩:=hf it (by simp)
  have W:=Walks.range (prog:=X.prog) (w:=X.w) (I.ok.hd hc) it lo 1 n
  refine W.item i s _ _ hg st λv h' tk hv st' kk=>?_
  obtain⟨t,rfl⟩:=hv
  have I1:Inv X pins σ H {s with heap:=h',toks:=tk}:=I.turned (λb o hb e=>kk b o (by simpa using hb) e) f0 f1 f3 f4 f5
  refine⟨_,rfl,qgB (s:={s with heap:=h',toks:=tk}) (n:="range_iterator") st' rfl rfl (by decide) ⟨.int (lo+i),H,I1,⟨t,?_⟩,⟨rfl,rfl⟩,st',λb hb=>(hf b hb).1⟩⟩
  rw[Int.mul_one]
 done:=by
  intro X hP hw hK hc i pins s σ H E I hf st hg
  subst hP hw hK
  obtain⟨f0,f1,f2,f3,f4,f5⟩:=hf it (by simp)
  exact wpAny_pyNext_range_end (I.ok.hd hc) st (by have:n<=i:=hg;omega) λh' eb=>⟨rfl,I.turned (t':=s.toks) (λb o hb e=>eb b o hb e) f0 f1 f3 f4 f5⟩
 self:=λ_ _ _ _ _ st h=>wpAny_pyIter_rangeiter st h
end L2
namespace L2
open PySem PySem.Spec PyProof.Rows
section
variable{X:Cx}{tg:Expr}
theorem qgC {pins:List (Addr×Obj)} {σ:St} {H:Hp} {s:yaa} {R:It->Hp->Prop} {E:Value->yaa->Prop} {lo hi:Int} {t u v:Tok} {tk:Nat} (I:Inv X pins σ H s) (h1 : -(2 ^ 62)<=lo) (h2:lo<2 ^ 62) (h3 : -(2 ^ 62)<=hi) (h4:hi<2 ^ 62)
  (q:R (Itr lo (hi-lo).toNat) H):wpAny (model X.prog X.w) X.A (pyIter (.ref s.heap.objs.size)) (PIE X pins σ tg R) E {s with heap:=s.heap.push {cls:=.type "range",data:=.fields #[.int lo t,.int hi u,.int 1 v]},toks:=tk}:=by
 refine wpAny_pyIter_range (IsRange.new ..) (small_one h1 h2 h3 h4) ?_
 have I1:Inv X pins σ H {s with heap:=s.heap.push {cls:=.type "range",data:=.fields #[.int lo t,.int hi u,.int 1 v]},toks:=tk}:=I.kept λb o e=>Heap.get?_push_of_some _ e
 refine ⟨(s.heap.push {cls:=.type "range",data:=.fields #[.int lo t,.int hi u,.int 1 v]}).objs.size,[(s.heap.push {cls:=.type "range",data:=.fields #[.int lo t,.int hi u,.int 1 v]}).objs.size],_,_,H,rfl,
  I1.kept (t':=tk) λb o e=>Heap.get?_push_of_some _ e,qdR _ lo (hi-lo).toNat,?_,λb hb=>?_,q⟩
 ·have e1:lo+((0:Nat):Int)*1=lo:=by simp
  have e2:(((hi-lo).toNat:Nat):Int)-((0:Nat):Int)=Builtin.Range.rangeSize lo hi 1:=by rw[rangeSize_one];split<;>omega
  show IsRangeIter _ _ (lo+((0:Nat):Int)*1) ((((hi-lo).toNat:Nat):Int)-((0:Nat):Int)) 1
  rw[e1,e2]
  exact Heap.get?_push_size _ rfl
 ·have e:b=(s.heap.push {cls:=.type "range",data:=.fields #[.int lo t,.int hi u,.int 1 v]}).objs.size:=by simpa using hb
  subst e
  exact I1.fpOk (yah _) (I1.hok.fresh (yah _))
def qm7(ta:TA):TI:=λσ H R=>ta σ H λvs H1=>∃j:Int,vs=[.int j] /\ -(2 ^ 62)<=j/\j<2 ^ 62/\R (Itr 0 j.toNat) H1
theorem qeI {a:Expr} {ta:TA} {p pos:Pos} (hg:Gl X "range") (hm:X.mg "range"=none) (ha:PA X [a] ta) (hs:yac [a] X.env=[(false,eval a X.env)]:=by rfl):PI X tg (.Call (.Name "range" p) [a] [] pos) (qm7 ta):=by
 intro pins s σ H R I h
 refine Call_ (wG I hg hm boot_range (yba (thn (ha pos pins s σ H _ I h) λus s1 ⟨vs,H1,I1,r1,q1⟩=>?_) hs rfl))
 obtain⟨j,e,q1,q2,q⟩:=q1
 subst e
 cases r1 with
 |cons r rr=>
  cases rr
  obtain⟨t,rfl⟩:=r
  exact call_range_1 (qgC I1 (by omega) (by omega) q1 q2 (by simpa using q))
def qol (wi:TI) (g:TG) (tb:TS):TS:=λD σ H=>wi σ H λJ H1=>∃W:Nat->Nat->St->Hp->Prop,(∃m,W 0 m σ H1)/\∀i m σ H,W i m σ H ->
 (J.stop i H/\D.nx σ H)\/(J.go i H/\∃N:St->Hp->Prop,(∀σ' H',N σ' H'->∃m',m'<m/\W (i+1) m' σ' H')/\∀x H',J.yld i H x H'->g x σ H' λσ2 H2=>tb {D with nx:=N,ct:=N,bk:=D.nx} σ2 H2)
def qbq(fp:List Addr)(h:Heap):List (Addr×Obj):=fp.filterMap λb=>(h.get? b).map λo=>(b,o)
theorem uF{fp:List Addr}{h:Heap}{b:Addr}{o:Obj}(hb:b∈fp)(e:h.get? b=some o):(b,o)∈qbq fp h:=List.mem_filterMap.mpr ⟨b,hb,by rw[e];rfl⟩
theorem qeJ {fp:List Addr} {h:Heap} {p:Addr×Obj} (hp:p∈qbq fp h):p.1∈fp/\h.get? p.1=some p.2:=by
 obtain⟨b,hb,e⟩:=List.mem_filterMap.mp hp
 cases q:h.get? b with
 |none=>rw[q]at e;cases e
 |some o=>
  rw[q]at e
  have e':(b,o)=p:=yaA e
  subst e'
  exact⟨hb,q⟩
theorem Inv.pinned {pins:List (Addr×Obj)} {σ:St} {H:Hp} {s:yaa} {fp:List Addr} (I:Inv X pins σ H s) (hf:∀b∈fp,qet X pins H b) (ho:∀b∈fp,∃o,s.heap.get? b=some o/\∀v,o.data ≠ .cell v):Inv X (pins++qbq fp s.heap) σ H s :=
 I.pins_of λp hp=>(mA_.mp hp).elim (λz=>I.pin p (mr_ _ z)) λz=>by
  obtain⟨hb,e⟩:=qeJ z
  obtain⟨f0,f1,f2,_⟩:=hf p.1 hb
  obtain⟨o,e',d⟩:=ho p.1 hb
  rw[e]at e';cases e'
  exact⟨e,f0,f1,f2,d⟩
theorem Inv.unpinned{pins pl:List (Addr×Obj)}{σ:St}{H:Hp}{s:yaa}(I:Inv X (pins++pl) σ H s):Inv X pins σ H s:=I.pins_of λp hp=>I.pin p (mr_ _ (yce _ hp))
theorem qk3 {iter:Expr} {body:List Stmt} {wi:TI} {g:TG} {tb:TS} {pos:Pos} (hp:ycP (model X.prog X.w) X.A X.env X.xe) (hc:X.calm=true) (hi:PI X tg iter wi) (hg:PG X tg g) (hb:PSs X body tb)
  (hs:∀x,ycB iter X.env x=pure x:=by intro _;rfl):PS X (.For tg iter body [] pos) (qol wi g tb):=by
 intro pins s σ H D I h
 refine wpAny_For (thn (hi pins s σ H _ I h) λv s1 h1=>thn h1 λitv s2 h2=>?_) hs
 obtain⟨it,fp,tn,J,H2,e,I2,T,st2,f2,W,⟨m0,w0⟩,turn⟩:=h2
 subst e
 have stat:∀{H':Hp},(∀b∈fp,H' b=none)->∀b∈fp,qet X pins H' b:=λhn b hb=>⟨hn b hb,(f2 b hb).2⟩
 refine codeAny_forLoop_any (λn s'=>∃i σ' H',Inv X pins σ' H' s'/\tn i s'.heap/\(∀b∈fp,H' b=none)/\W i n σ' H') ?_ m0 ⟨0,σ,H2,I2,st2,λb hb=>(f2 b hb).1,w0⟩
 rintro n s3 ⟨i,σ3,H3,I3,st3,fr3,w3⟩
 rcases turn i n σ3 H3 w3 with⟨stop,qn⟩|⟨go,N,hN,step⟩
 ·refine ybB hp (thn (T.done X rfl rfl rfl hc i pins s3 σ3 H3 X.xe I3 (stat fr3) st3 stop) λr s4 ⟨hr,I4⟩=>?_)
  subst hr
  exact ybV ⟨σ3,H3,I4,qn⟩
 ·refine ybB hp (thn (T.item X rfl rfl rfl hc i pins s3 σ3 H3 X.xe I3 (stat fr3) st3 go) λr s4 ⟨u,hr,h4⟩=>?_)
  subst hr
  refine ybB hp (thn h4 λ_ s5 ⟨x,H5,I5,r5,y5,st5,fr5⟩=>?_)
  have I5':=I5.pinned (stat fr5) (T.obj _ _ st5)
  refine ybB hp (thn (hg _ s5 σ3 H5 x u _ I5' r5 (step x H5 y5)) λ_ s6 ⟨σ6,H6,I6,q6⟩=>?_)
  refine ybB hp (thn (hb _ s6 σ6 H6 _ I6 q6) λf s7 q7=>?_)
  have again:∀{σ7:St}{H7:Hp},Inv X (pins++qbq fp s5.heap) σ7 H7 s7->N σ7 H7->∃m,m<n/\∃i σ' H',Inv X pins σ' H' s7/\tn i s7.heap/\(∀b∈fp,H' b=none)/\W i m σ' H':=λ{σ7 H7} I7 n7=>by
   obtain⟨m',hm,w7⟩:=hN σ7 H7 n7
   refine⟨m',hm,i+1,σ7,H7,I7.unpinned,T.keep _ _ _ st5 λb hb o e=>(I7.pin (b,o) (mr_ _ (mr_ _ (uF hb e)))).1,λb hb=>?_,w7⟩
   obtain⟨o,e,d⟩:=T.obj _ _ st5 b hb
   exact(I7.pin (b,o) (mr_ _ (mr_ _ (uF hb e)))).2.1
  cases f with
  |next=>obtain⟨σ7,H7,I7,n7⟩:=q7;exact again I7 n7
  |cont=>obtain⟨σ7,H7,I7,n7⟩:=q7;exact again I7 n7
  |brk=>obtain⟨σ7,H7,I7,q7⟩:=q7;exact⟨σ7,H7,I7.unpinned,q7⟩
  |ret v=>obtain⟨x7,σ7,H7,I7,r7,q7⟩:=q7;exact⟨x7,σ7,H7,I7.unpinned,r7,q7⟩
end
end L2
namespace L2
open PySem PySem.Spec PyProof.Rows
abbrev R2:=V->V->Hp->VK->Prop
def OpR (X:Cx) (f:Value->Value->Sem Value) (r:R2):Prop :=
 ∀ (pins:List (Addr×Obj)) (s:yaa) (σ:St) (H:Hp) (x y:V) (v u:Value) (Q:VK),Inv X pins σ H s->jh x v->jh y u->r x y H Q ->
  wpAny (model X.prog X.w) X.A (f v u) (EP X pins σ Q) X.xe s
def UnR (X:Cx) (f:Value->Sem Value) (r:V->Hp->VK->Prop):Prop :=
 ∀ (pins:List (Addr×Obj)) (s:yaa) (σ:St) (H:Hp) (x:V) (v:Value) (Q:VK),Inv X pins σ H s->jh x v->r x H Q ->
  wpAny (model X.prog X.w) X.A (f v) (EP X pins σ Q) X.xe s
def jV (X:Cx) (f:Value) (r:List V->Hp->VK->Prop):Prop :=
 ∀ (pins:List (Addr×Obj)) (s:yaa) (σ:St) (H:Hp) (xs:List V) (us:List Value) (Q:VK),Inv X pins σ H s->zk xs us->r xs H Q ->
  wpAny (model X.prog X.w) X.A (call f us) (EP X pins σ Q) X.xe s
def tOp(r:R2)(ta tb:TE):TE:=λσ H Q=>ta σ H λx H1=>tb σ H1 λy H2=>r x y H2 Q
def tUn(r:V->Hp->VK->Prop)(ta:TE):TE:=λσ H Q=>ta σ H λx H1=>r x H1 Q
def rI(C:Int->Int->Prop)(g:Int->Int->V):R2:=λx y H Q=>∃i j,x=.int i/\y=.int j/\C i j/\Q (g i j) H
def rI0(g:Int->Int->V):R2:=λx y H Q=>∃i j,x=.int i/\y=.int j/\Q (g i j) H
def rU(g:Int->V):V->Hp->VK->Prop:=λx H Q=>∃i,x=.int i/\Q (g i) H
section
variable{X:Cx}{a b c:Expr}{ta tb tc:TE}{pos:Pos}
theorem qm8 (ha:PE X a ta) (hb:PE X b tb) {pins:List (Addr×Obj)} {s:yaa} {σ:St} {H:Hp} {R:V->V->Hp->Prop} (I:Inv X pins σ H s)
  (h:ta σ H λx H1=>tb σ H1 λy H2=>R x y H2) {Q:Value->yaa->Prop} {f:Value->Value->Sem Value}
  (hf:∀v u s2 x y H2,Inv X pins σ H2 s2->jh x v->jh y u->R x y H2->wpAny (model X.prog X.w) X.A (f v u) Q X.xe s2) :
  wpAny (model X.prog X.w) X.A (eval a X.env) (λv sY=>wpAny (model X.prog X.w) X.A (eval b X.env) (λu sV=>wpAny (model X.prog X.w) X.A (f v u) Q X.xe sV) X.xe sY) X.xe s:=by
 refine thn (ha pins s σ H _ I h) λv s1 ⟨x,H1,I1,r1,q1⟩=>?_
 refine thn (hb pins s1 σ H1 _ I1 q1) λu s2 ⟨y,H2,I2,r2,q2⟩=>?_
 exact hf v u s2 x y H2 I2 r1 r2 q2
theorem qm9 {op:Operator} {r:R2} (ho:OpR X (ya9 op) r) (ha:PE X a ta) (hb:PE X b tb):PE X (.BinOp a op b pos) (tOp r ta tb):=by
 intro pins s σ H Q I h
 exact wpAny_BinOp (qm8 ha hb I h λv u s2 x y H2 I2 rx ry q=>ho pins s2 σ H2 x y v u Q I2 rx ry q)
theorem qna {op:UnaryOp} {r:V->Hp->VK->Prop} (ho:UnR X (unaryOp op) r) (ha:PE X a ta):PE X (.UnaryOp op a pos) (tUn r ta):=by
 intro pins s σ H Q I h
 exact UnaryOp_ (thn (ha pins s σ H _ I h) λv s1 ⟨x,H1,I1,r1,q1⟩=>ho pins s1 σ H1 x v Q I1 r1 q1)
theorem opI {f:Value->Value->Sem Value} {C:Int->Int->Prop} {g:Int->Int->Int}
  (rule:∀(i j:Int)(t u:Tok)(s:yaa)(Q:Value->yaa->Prop)(E:Value->yaa->Prop),C i j->Q (.int (g i j) s.toks) {s with toks:=s.toks+1}->wpAny (model X.prog X.w) X.A (f (.int i t) (.int j u)) Q E s) :
  OpR X f (rI C λi j => .int (g i j)):=by
 intro pins s σ H x y v u Q I rx ry h
 obtain⟨i,j,rfl,rfl,hc,q⟩:=h
 obtain⟨t,rfl⟩:=rx
 obtain⟨t',rfl⟩:=ry
 exact rule i j t t' s _ _ hc ⟨.int (g i j),H,I.tok _,⟨_,rfl⟩,q⟩
theorem qnP {f:Value->Value->Sem Value} {g:Int->Int->Int}
  (rule:∀(i j:Int)(t u:Tok)(s:yaa)(Q:Value->yaa->Prop)(E:Value->yaa->Prop),Q (.int (g i j) s.toks) {s with toks:=s.toks+1}->wpAny (model X.prog X.w) X.A (f (.int i t) (.int j u)) Q E s) :
  OpR X f (rI0 λi j => .int (g i j)):=by
 intro pins s σ H x y v u Q I rx ry h
 obtain⟨i,j,rfl,rfl,q⟩:=h
 obtain⟨t,rfl⟩:=rx
 obtain⟨t',rfl⟩:=ry
 exact rule i j t t' s _ _ ⟨.int (g i j),H,I.tok _,⟨_,rfl⟩,q⟩
theorem qnb {f:Value->Value->Sem Value} {g:Int->Int->Bool}
  (rule:∀(i j:Int)(t u:Tok)(s:yaa)(Q:Value->yaa->Prop)(E:Value->yaa->Prop),Q (.bool (g i j)) s->wpAny (model X.prog X.w) X.A (f (.int i t) (.int j u)) Q E s) :
  OpR X f (rI0 λi j => .bl (g i j)):=by
 intro pins s σ H x y v u Q I rx ry h
 obtain⟨i,j,rfl,rfl,q⟩:=h
 obtain⟨t,rfl⟩:=rx
 obtain⟨t',rfl⟩:=ry
 exact rule i j t t' s _ _ ⟨.bl (g i j),H,I,rfl,q⟩
def qk4(i j:Int):Prop:=0<j/\j<1606938044258990275541962092341162602522202993782792835301376
theorem qnQ {i j:Int} (h1:0<j) (h2:j<1606938044258990275541962092341162602522202993782792835301376):Builtin.divisionGoesByPylong i j=false:=by
 refine PyProof.noPylong_of_log2 ?_
 have h0:j.natAbs≠0:=by omega
 have h3:j.natAbs<2 ^ 200:=by
   have:(2:Nat) ^ 200=1606938044258990275541962092341162602522202993782792835301376:=by decide +kernel
   omega
 have:=(Nat.log2_lt h0).mpr h3
 omega
def qnR(i j:Int):Prop:=0<=j/\j<=1000000/\i.natAbs<2 ^ 64
def qk5(i j:Int):Prop:=(-(2 ^ 64)<i/\i<2 ^ 64)\/(-(2 ^ 64)<j/\j<2 ^ 64)
theorem qk5.ok {i j:Int} (h:qk5 i j):IntMulOk i j:=by
 rcases h with⟨h1,h2⟩|⟨h1,h2⟩
 ·exact .of_left (intBits_le_64 h1 h2)
 ·exact .of_right (intBits_le_64 h1 h2)
theorem qk6:OpR X (ya9 .Add) (rI0 λi j => .int (i+j)):=qnP λ_ _ _ _ _ _ _ q=>add_int q
theorem qk7:OpR X (ya9 .Sub) (rI0 λi j => .int (i-j)):=qnP λ_ _ _ _ _ _ _ q=>sub_int q
theorem qk8:OpR X (ya9 .Mult) (rI qk5 λi j => .int (i*j)):=opI λ_ _ _ _ _ _ _ hc q=>mul_int q hc.ok
theorem wJ:OpR X (ya9 .FloorDiv) (rI qk4 λi j => .int (i/j)):=opI λi j _ _ _ _ _ hc q=>by
 have h1:(0:Int)<j:=hc.1
 have h2:j<1606938044258990275541962092341162602522202993782792835301376:=hc.2
 exact floordiv_int (by omega) (by rw[ydn i (by omega)];exact q) (.inl (qnQ h1 h2))
theorem wK:OpR X (ya9 .Mod) (rI (λ_ j=>0<j) λi j => .int (i%j)):=opI λi j _ _ _ _ _ hc q=>by
 have h1:(0:Int)<j:=hc
 exact mod_int' (by omega) (by rw[ydo i (by omega)];exact q)
theorem qk9:OpR X (ya9 .Pow) (rI qnR λi j => .int (i ^ j.toNat)):=opI λ_ _ _ _ _ _ _ hc q=>pow_int_small hc.1 hc.2.1 hc.2.2 q
theorem unI {f:Value->Sem Value} {g:Int->Int}
  (rule:∀(i:Int)(t:Tok)(s:yaa)(Q:Value->yaa->Prop)(E:Value->yaa->Prop),Q (.int (g i) s.toks) {s with toks:=s.toks+1}->wpAny (model X.prog X.w) X.A (f (.int i t)) Q E s) :
  UnR X f (rU λi => .int (g i)):=by
 intro pins s σ H x v Q I rx h
 obtain⟨i,rfl,q⟩:=h
 obtain⟨t,rfl⟩:=rx
 exact rule i t s _ _ ⟨.int (g i),H,I.tok _,⟨_,rfl⟩,q⟩
theorem qla:UnR X (unaryOp .USub) (rU λi => .int (-i)):=unI λ_ _ _ _ _ q=>neg_int q
end
def qnc:V->V->Bool
 |.non,.non=>true|.non,.int _=>true|.int _,.non=>true|.non,.bl _=>true|.bl _,.non=>true|.non,.str _=>true|.str _,.non=>true
 |.int _,.int _=>true|.bl _,.bl _=>true|.str _,.str _=>true|.byt _,.byt _=>true
 |.int _,.str _=>true|.str _,.int _=>true|.bl _,.str _=>true|.str _,.bl _=>true
 |_,_=>false
def rEq:R2:=λx y H Q=>qnc x y=true/\Q (.bl (decide (x=y))) H
def rNe:R2:=λx y H Q=>qnc x y=true/\Q (.bl (!decide (x=y))) H
theorem qeK {i j:Int}:decide (V.int i=V.int j)=(i==j):=by
 rw[ycp]
 simp
theorem qhR {i j:Bool}:decide (V.bl i=V.bl j)=(i==j):=by
 rw[ycp]
 simp
theorem qeL {i j:Str}:decide (V.str i=V.str j)=(i==j):=by
 rw[ycp]
 simp
theorem qeM {i j:Array UInt8}:decide (V.byt i=V.byt j)=(i.toList==j.toList):=by
 rw[ycp]
 cases i
 cases j
 simp
section
variable{X:Cx}{a b c:Expr}{ta tb tc:TE}{pos:Pos}
theorem zg {pins:List (Addr×Obj)} {σ:St} {H:Hp} {s:yaa} {Q:VK} {k k':Bool} (I:Inv X pins σ H s) (q:Q (.bl k) H) (e:k=k'):EP X pins σ Q (.bool k') s:=by
 subst e
 exact⟨.bl k,H,I,rfl,q⟩
theorem qlb:OpR X (yaM .Eq) rEq:=by
 intro pins s σ H x y v u Q I rx ry h
 obtain⟨hs,q⟩:=h
 cases x with
 |non=>
  cases rx
  cases y with
  |non=>cases ry;exact PySem.EqNone.eq_none_none (zg I q (by simp))
  |bl j=>cases ry;exact PySem.EqNone.eq_none_bool (zg I q (by simp))
  |int j=>obtain⟨t',rfl⟩:=ry;exact PySem.EqNone.eq_none_int (zg I q (by simp))
  |str j=>obtain⟨t',rfl⟩:=ry;exact PySem.EqNone.eq_none_str (zg I q (by simp))
  |_=>exact absurd (show false=true from hs) yao
 |bl i=>
  cases rx
  cases y with
  |non=>cases ry;exact PySem.EqNone.eq_bool_none (zg I q (by simp))
  |bl j=>cases ry;exact eq_bool (zg I q qhR)
  |str j=>obtain⟨t',rfl⟩:=ry;exact PySem.EqMixed.eq_bool_str (zg I q (by simp))
  |_=>exact absurd (show false=true from hs) yao
 |int i=>
  obtain⟨t,rfl⟩:=rx
  cases y with
  |non=>cases ry;exact PySem.EqNone.eq_int_none (zg I q (by simp))
  |int j=>obtain⟨t',rfl⟩:=ry;exact eq_int (zg I q qeK)
  |str j=>obtain⟨t',rfl⟩:=ry;exact PySem.EqMixed.eq_int_str (zg I q (by simp))
  |_=>exact absurd (show false=true from hs) yao
 |str i=>
  obtain⟨t,rfl⟩:=rx
  cases y with
  |non=>cases ry;exact PySem.EqNone.eq_str_none (zg I q (by simp))
  |bl j=>cases ry;exact PySem.EqMixed.eq_str_bool (zg I q (by simp))
  |int j=>obtain⟨t',rfl⟩:=ry;exact PySem.EqMixed.eq_str_int (zg I q (by simp))
  |str j=>obtain⟨t',rfl⟩:=ry;exact eq_str (zg I q qeL)
  |_=>exact absurd (show false=true from hs) yao
 |byt i=>
  obtain⟨t,rfl⟩:=rx
  cases y with
  |byt j=>obtain⟨t',rfl⟩:=ry;exact PySem.W.eq_bytes (zg I q qeM)
  |_=>exact absurd (show false=true from hs) yao
 |_=>cases y<;>exact absurd (show false=true from hs) yao
theorem qlc:OpR X (yaM .NotEq) rNe:=by
 intro pins s σ H x y v u Q I rx ry h
 obtain⟨hs,q⟩:=h
 cases x with
 |non=>
  cases rx
  cases y with
  |non=>cases ry;exact PySem.EqNone.ne_none_none (zg I q (by simp))
  |bl j=>cases ry;exact PySem.EqNone.ne_none_bool (zg I q (by simp))
  |int j=>obtain⟨t',rfl⟩:=ry;exact PySem.EqNone.ne_none_int (zg I q (by simp))
  |str j=>obtain⟨t',rfl⟩:=ry;exact PySem.EqNone.ne_none_str (zg I q (by simp))
  |_=>exact absurd (show false=true from hs) yao
 |bl i=>
  cases rx
  cases y with
  |non=>cases ry;exact PySem.EqNone.ne_bool_none (zg I q (by simp))
  |bl j=>cases ry;exact ne_bool (zg I q (congrArg not qhR))
  |str j=>obtain⟨t',rfl⟩:=ry;exact PySem.EqMixed.ne_bool_str (zg I q (by simp))
  |_=>exact absurd (show false=true from hs) yao
 |int i=>
  obtain⟨t,rfl⟩:=rx
  cases y with
  |non=>cases ry;exact PySem.EqNone.ne_int_none (zg I q (by simp))
  |int j=>obtain⟨t',rfl⟩:=ry;exact ne_int (zg I q (congrArg not qeK))
  |str j=>obtain⟨t',rfl⟩:=ry;exact PySem.EqMixed.ne_int_str (zg I q (by simp))
  |_=>exact absurd (show false=true from hs) yao
 |str i=>
  obtain⟨t,rfl⟩:=rx
  cases y with
  |non=>cases ry;exact PySem.EqNone.ne_str_none (zg I q (by simp))
  |bl j=>cases ry;exact PySem.EqMixed.ne_str_bool (zg I q (by simp))
  |int j=>obtain⟨t',rfl⟩:=ry;exact PySem.EqMixed.ne_str_int (zg I q (by simp))
  |str j=>obtain⟨t',rfl⟩:=ry;exact ne_str (zg I q (congrArg not qeL))
  |_=>exact absurd (show false=true from hs) yao
 |byt i=>
  obtain⟨t,rfl⟩:=rx
  cases y with
  |byt j=>obtain⟨t',rfl⟩:=ry;exact PySem.W.ne_bytes (zg I q (congrArg not qeM))
  |_=>exact absurd (show false=true from hs) yao
 |_=>cases y<;>exact absurd (show false=true from hs) yao
theorem qld:OpR X (yaM .Lt) (rI0 λi j => .bl (decide (i<j))):=qnb λ_ _ _ _ _ _ _ q=>lt_int q
theorem qgD:OpR X (yaM .Gt) (rI0 λi j => .bl (decide (j<i))):=qnb λ_ _ _ _ _ _ _ q=>gt_int q
theorem qle:OpR X (yaM .GtE) (rI0 λi j => .bl (decide (j<=i))):=qnb λ_ _ _ _ _ _ _ q=>ge_int q
theorem qeN:OpR X (yaM .In) (λx y H Q=>∃i j,x=.str i/\y=.str j/\Q (.bl (!(yaE j i 0 j.length 1).isEmpty)) H):=by
 intro pins s σ H x y v u Q I rx ry h
 obtain⟨i,j,rfl,rfl,q⟩:=h
 obtain⟨t,rfl⟩:=rx
 obtain⟨t',rfl⟩:=ry
 exact in_str (zg I q rfl)
theorem qas:OpR X (yaM .Is) (λx y H Q=>y=.non/\Q (.bl (decide (x=.non))) H):=by
 intro pins s σ H x y v u Q I rx ry h
 obtain⟨rfl,q⟩:=h
 cases ry
 refine is_none_gen (zg I q ?_)
 cases x<;>first
  |(cases rx;rfl)
  |(obtain⟨t,rfl⟩:=rx;rfl)
theorem OpR.or {f:Value->Value->Sem Value} {r r':R2} (h:OpR X f r) (h':OpR X f r'):OpR X f (λx y H Q=>r x y H Q\/r' x y H Q):=by
 intro pins s σ H x y v u Q I rx ry q
 rcases q with q|q
 ·exact h pins s σ H x y v u Q I rx ry q
 ·exact h' pins s σ H x y v u Q I rx ry q
theorem qJ (b:Expr) {op:CmpOp} (h:op ≠ .In:=by decide) (h2:op ≠ .NotIn:=by decide):ybP op b=false:=by
 have e1:(op==CmpOp.In)=false:=by cases op<;>first|rfl|exact absurd rfl h
 have e2:(op==CmpOp.NotIn)=false:=by cases op<;>first|rfl|exact absurd rfl h2
 cases b<;>simp[ybP,e1,e2]
theorem qiS {op:CmpOp} {r:R2} (ho:OpR X (yaM op) r) (ha:PE X a ta) (hb:PE X b tb) (hm:ybP op b=false):PE X (.Compare a [op] [b] pos) (tOp r ta tb):=by
 intro pins s σ H Q I h
 exact wpAny_Compare1 (qm8 ha hb I h λv u s2 x y H2 I2 rx ry q=>ho pins s2 σ H2 x y v u Q I2 rx ry q) hm
def qnd(t:TE):TT:=λσ H Q=>t σ H λx H'=>∃k,x=.bl k/\Q k H'
theorem qeO {op:CmpOp} {r:R2} (ho:OpR X (yaM op) r) (ha:PE X a ta) (hb:PE X b tb) (hm:ybP op b=false):PT X (.Compare a [op] [b] pos) (qnd (tOp r ta tb)):=by
 intro pins s σ H Q I h
 refine yeg (thn (ha pins s σ H _ I h) λv s1 ⟨x,H1,I1,r1,q1⟩=>thn (hb pins s1 σ H1 _ I1 q1) λu s2 ⟨y,H2,I2,r2,q2⟩=>
  thn (ho pins s2 σ H2 x y v u _ I2 r1 r2 q2) λc s3 ⟨z,H3,I3,r3,k,e,q3⟩=>?_) hm
 subst e
 cases r3
 exact ybn ⟨H3,I3,q3⟩
theorem qat:(yap:Nat)<2 ^ 63:=by rw[ybh];decide
theorem qdS:OpR X (ya9 .Add) (λx y H Q=>∃i j,x=.str i/\y=.str j/\i.length+j.length<=yap/\Q (.str (i++j)) H):=by
 intro pins s σ H x y v u Q I rx ry h
 obtain⟨i,j,rfl,rfl,hz,q⟩:=h
 obtain⟨t,rfl⟩:=rx
 obtain⟨t',rfl⟩:=ry
 exact add_str (λt' tk=>⟨.str (i++j),H,I.tok _,⟨_,rfl⟩,q⟩) hz
theorem qbr {x:V} {us:List Value} (r:zk [x] us):∃u,us=[u]/\jh x u:=by
 cases r with
 |cons r1 r2=>cases r2;exact⟨_,rfl,r1⟩
theorem qiT {x y:V} {us:List Value} (r:zk [x,y] us):∃u w',us=[u,w']/\jh x u/\jh y w':=by
 cases r with
 |cons r1 r2=>
  cases r2 with
  |cons r3 r4=>cases r4;exact⟨_,_,rfl,r1,r3⟩
theorem qgE:jV X (.builtin "abs") (λxs H Q=>∃i,xs=[.int i]/\Q (.int (if i<0 then -i else i)) H):=by
 intro pins s σ H xs us Q I r h
 obtain⟨i,rfl,q⟩:=h
 obtain⟨u,rfl,t,rfl⟩:=qbr r
 exact call_abs_int λu tk=>⟨.int (if i<0 then -i else i),H,I.tok _,⟨_,rfl⟩,q⟩
theorem qeP (hc:X.calm=true):jV X (.builtin "max") (λxs H Q=>∃i j,xs=[.int i,.int j]/\Q (.int (if j>i then j else i)) H):=by
 intro pins s σ H xs us Q I r h
 obtain⟨i,j,rfl,q⟩:=h
 obtain⟨u,w',rfl,⟨t,rfl⟩,⟨t',rfl⟩⟩:=qiT r
 refine max_two_ints (I.ok.hd hc) λh' tk k=>⟨_,H,I.kept k,?_,q⟩
 by_cases hj:j>i
 ·rw[if_pos hj,if_pos hj];exact⟨_,rfl⟩
 ·rw[if_neg hj,if_neg hj];exact⟨_,rfl⟩
theorem qeQ (hc:X.calm=true):jV X (.builtin "min") (λxs H Q=>∃i j,xs=[.int i,.int j]/\Q (.int (if j<i then j else i)) H):=by
 intro pins s σ H xs us Q I r h
 obtain⟨i,j,rfl,q⟩:=h
 obtain⟨u,w',rfl,⟨t,rfl⟩,⟨t',rfl⟩⟩:=qiT r
 refine min_two_ints (I.ok.hd hc) λh' tk k=>⟨_,H,I.kept k,?_,q⟩
 by_cases hj:j<i
 ·rw[if_pos hj,if_pos hj];exact⟨_,rfl⟩
 ·rw[if_neg hj,if_neg hj];exact⟨_,rfl⟩
theorem qbs:jV X (.type "int") (λxs H Q=>(∃i,xs=[.int i]/\Q (.int i) H)\/∃k,xs=[.bl k]/\Q (.int (if k then 1 else 0)) H):=by
 intro pins s σ H xs us Q I r h
 rcases h with⟨i,rfl,q⟩|⟨k,rfl,q⟩
 ·obtain⟨u,rfl,t,rfl⟩:=qbr r
  exact call_int_int ⟨.int i,H,I,⟨_,rfl⟩,q⟩
 ·obtain⟨u,rfl,r1⟩:=qbr r
  cases r1
  exact call_int_bool ⟨.int (if k then 1 else 0),H,I.tok _,⟨_,rfl⟩,q⟩
theorem uh:jV X (.type "str") (λxs H Q=>∃i,xs=[.int i]/\i.natAbs.log2<1920/\Q (.str (yfx i)) H):=by
 intro pins s σ H xs us Q I r h
 obtain⟨i,rfl,hz,q⟩:=h
 obtain⟨u,rfl,t,rfl⟩:=qbr r
 exact PySem.P.str_of_int hz ⟨.str _,H,I.tok _,⟨_,rfl⟩,q⟩
theorem qcg:jV X (.builtin "divmod") (λxs H Q=>∃i j,xs=[.int i,.int j]/\qk4 i j/\∀p,H p=none->Q (.ref p) (upd H p (.tup [.int (i/j),.int (i%j)]))):=by
 intro pins s σ H xs us Q I r h
 obtain⟨i,j,rfl,⟨h1,h2⟩,q⟩:=h
 obtain⟨u,w',rfl,⟨t,rfl⟩,⟨t',rfl⟩⟩:=qiT r
 refine divmod_int (by omega) ?_ (.inl (qnQ h1 h2))
 rw[ydn i (by omega),ydo i (by omega)]
 have hn:H s.heap.objs.size=none:=I.hok.fresh (yah _)
 refine⟨.ref s.heap.objs.size,_,?_,rfl,q _ hn⟩
 refine I.laid (λb o e=>Heap.get?_push_of_some _ e) (yah _) ⟨by simp only[lC_,lN_];rw[ybh];decide,[.int (i/j) s.toks,.int (i%j) (s.toks+1)],.cons ⟨_,rfl⟩ (.cons ⟨_,rfl⟩ .nil),?_⟩
 exact⟨_,Heap.get?_push_size s.heap rfl,rfl,0,rfl⟩
end
end L2
namespace L2
open PySem PySem.Spec PyProof.Rows
structure qne (h:Heap) (x dx C:Addr) (mA:Str->Option Value):Prop where
 obj:h.get? x=some (ycS C dx)
 ns:h.Ns1 dx mA
 ne:dx≠x
theorem qeR {h:Heap} {dx:Addr} {mA:Str->Option Value} (n:h.Ns1 dx mA):∃od,h.get? dx=some od/\∀name,yej name od=some (mA name):=by
 obtain⟨o,es,ep,ho,hd,hk,_,hm⟩:=n
 refine⟨o,ho,λname=>?_⟩
 have e:=hm name
 unfold nsFind findBy at e
 rw[<-Array.find?_toList]at e
 unfold yej
 rw[hd]
 dsimp only
 split
 ·rename_i y q
  rw[q]at e
  exact congrArg some e
 ·rename_i q
  rw[q]at e
  have a:es.toList.any (·.refKey)=false:=by
   rw[List.any_eq_false]
   intro y hy
   obtain⟨z,t,hkey⟩:=hk y (Array.mem_toList_iff.mp hy)
   simp[DictEntry.refKey,hkey]
  have a':¬es.toList.any (·.refKey)=true:=by rw[a];exact yao
  rw[if_neg a']
  exact congrArg some e
theorem qne.look {h:Heap} {x dx C:Addr} {mA:Str->Option Value} (I:qne h x dx C mA):∃od,PySem.W.InstAt h x (ycS C dx) C (some od)/\∀name,yej name od=some (mA name) :=
 let ⟨od,ho,hl⟩:=qeR I.ns
 ⟨od,⟨I.obj,rfl,rfl,ho⟩,hl⟩
section
variable{P:yai}{w:World}{H H':Hp}{h h':Heap}{a C dx:Addr}{fs fs':List (Str×V)}
theorem qiU (hok:HOk P w H h) (e:H a=some (.ins C dx fs)):∃mA,qne h a dx C mA/\(∀f,qkP (fs.lookup f) (mA f))/\yeR mA (fs.map (·.1))/\fs.length<=1000/\H dx=some (.own a):=by
 obtain⟨d,z,ne,ob,mA,n,r,q⟩:=(show jf P w H h a (.ins C dx fs)from hok a _ e)
 exact⟨mA,⟨ob,n,ne⟩,r,q,z,d⟩
end
structure Cls (K:yae) (C:Addr):Prop where
 pg:PySem.W.plainGet K C ybW=true
 hd:PySem.W.hasDictIn K C=true
 po:PySem.W.plainOver K C=true
 sa:yb5 K (.ref C) "__setattr__"=some (some (.builtin "object.__setattr__"))
theorem Cls.get{K:yae}{C:Addr}(c:Cls K C)(f:Str):PySem.W.plainGet K C f=true:=c.pg
section
variable{X:Cx}{pins:List (Addr×Obj)}{σ:St}{H:Hp}{s:yaa}{a C dx:Addr}{fs:List (Str×V)}{f:Str}{v:V}{A:yaj}{E:Value->yaa->Prop}
theorem qiV {prog:yai} {w:World} {env:Env} {e:Expr} {f:Str} {pos:Pos} {s:yaa} {Q:Value->yaa->Prop} (hb:ybq e f env (eval e env)=eval e env)
  (h:wpAny (model prog w) A (eval e env) (λo sY=>wpAny (model prog w) A (getAttr o f true) Q E sY) E s):wpAny (model prog w) A (eval (.Attribute e f pos) env) Q E s :=
 Attribute_any_ h (by rw[arm_eval_Attribute,hb])
end
section
variable{X:Cx}{pins:List (Addr×Obj)}{σ:St}{H:Hp}{s:yaa}{A:yaj}{E:Value->yaa->Prop}{Q:Value->yaa->Prop}{c:Value}{b:Bool}
inductive qeu (K:yae) (H:Hp):V->Value->Prop where
 |non:qeu K H .non (.type "NoneType")
 |bl (x:Bool):qeu K H (.bl x) (.type "bool")
 |int (i:Int):qeu K H (.int i) (.type "int")
 |str (x:Str):qeu K H (.str x) (.type "str")
 |flt (x:UInt64):qeu K H (.flt x) (.type "float")
 |lst {a:Addr} {xs:List V} (e:H a=some (.lst xs)):qeu K H (.ref a) (.type "list")
 |frz {a:Addr} {o:Obj} {xs:List V} (e:H a=some (.frz o (.lst xs))):qeu K H (.ref a) (.type "list")
 |tup {a:Addr} {xs:List V} (e:H a=some (.tup xs)):qeu K H (.ref a) (.type "tuple")
 |dK {a:Addr} {kvs:List (Key×V)} (e:H a=some (.dK kvs)):qeu K H (.ref a) (.type "dict")
 |dT {a:Addr} {kvs:List (List Key×V)} (e:H a=some (.dT kvs)):qeu K H (.ref a) (.type "dict")
 | ins {a C dx:Addr} {fs:List (Str×V)} (e:H a=some (.ins C dx fs)) (cl:Cls K C) (ha:yb5 K (.ref C) "__class__"=some (some (.builtin "object.__class__")))
   (hn:PySem.W.specialIn K (.builtin "object.__class__") "__get__"=some (some (.builtin "getset_descriptor.__get__"))) (htk:PySem.W.takesIn K (.builtin "object.__class__")=some true)
   (hm:PySem.W.mroIn K C (.type "object")=some true):qeu K H (.ref a) (.ref C)
theorem yJ {x:V} {u t:Value} (I:Inv X pins σ H s) (rx:jh x u) (ty:qeu X.K H x t) (e:yek X.K t c=some b) (h:∀tk,Q (.bool b) {s with toks:=tk}) :
  wpAny (model X.prog X.w) A (call (.builtin "isinstance") [u,c]) Q E s:=by
 cases ty with
 |non=>cases (show u=yaG from rx);exact yaO PySem.W.kitx_none I.kIn ycf e (λz=>nomatch z) h
 |bl y=>cases (show u=ybc y from rx);exact yaO PySem.W.kitx_bool I.kIn ycf e (λz=>nomatch z) h
 |int i=>obtain⟨t,q⟩:=(show ∃t,u=ybT i t from rx);cases q;exact yaO PySem.W.kitx_int I.kIn ycf e (λz=>nomatch z) h
 |str y=>obtain⟨t,q⟩:=(show ∃t,u=yeO y t from rx);cases q;exact yaO PySem.W.kitx_str I.kIn ycf e (λz=>nomatch z) h
 |flt y=>obtain⟨t,q⟩:=(show ∃t,u=Value.float y t from rx);cases q;exact yaO PySem.W.kitx_float I.kIn ycf e (λz=>nomatch z) h
 | @lst a xs ea=>
  cases (show u=yam a from rx)
  obtain⟨_,_,n,_,h1⟩:=(show jf X.prog X.w H s.heap a (.lst xs)from I.hok a _ ea)
  exact yaO ydy I.kIn ⟨_,h1,rfl⟩ e (λz=>nomatch z) h
 | @frz a ob xs ea=>
  cases (show u=yam a from rx)
  obtain⟨_,_,_,n,_,h1⟩:=(show jf X.prog X.w H s.heap a (.frz ob (.lst xs))from I.hok a _ ea)
  exact yaO ydy I.kIn ⟨_,h1,rfl⟩ e (λz=>nomatch z) h
 | @tup a xs ea=>
  cases (show u=yam a from rx)
  obtain⟨_,_,_,p⟩:=(show jf X.prog X.w H s.heap a (.tup xs)from I.hok a _ ea)
  obtain⟨o,h1,h2,_⟩:=p
  exact yaO yeT I.kIn ⟨o,h1,h2⟩ e (λz=>nomatch z) h
 | @dK a kvs ea=>
  cases (show u=yam a from rx)
  obtain⟨_,_,vs,_,p⟩:=(show jf X.prog X.w H s.heap a (.dK kvs)from I.hok a _ ea)
  obtain⟨o,es,ep,h1,h2,_⟩:=p
  exact yaO yfi I.kIn ⟨o,h1,h2.1⟩ e (λz=>nomatch z) h
 | @dT a kvs ea=>
  cases (show u=yam a from rx)
  obtain⟨_,_,xs,_,o,es,ep,h1,h2,_⟩:=(show jf X.prog X.w H s.heap a (.dT kvs)from I.hok a _ ea)
  exact yaO yfi I.kIn ⟨o,h1,h2.1⟩ e (λz=>nomatch z) h
 | @ins a C dx fs ea cl ha hn htk hm=>
  cases (show u=yam a from rx)
  obtain⟨mA,O,_⟩:=qiU I.hok ea
  obtain⟨od,J,_⟩:=O.look
  exact yaO (PySem.W.kitx_own (cl.get _) cl.hd ha hn htk hm) I.kIn J e (λz=>nomatch z) h
end
end L2
namespace L2
open PySem PySem.Spec PyProof.Rows
structure yv (k:Nat) (A:yaj):Prop where
 hd:A.handled=none
 dp:A.depth+3*k+5<yc8
 un:A.units+16*k+200<cLine
 gd:A.guards=some []
theorem yv.mono{j k:Nat}{A:yaj}(r:yv k A)(h:j<=k):yv j A:=⟨r.hd,by have:=r.dp;omega,by have:=r.un;omega,r.gd⟩
theorem yv.deeper {k:Nat} {A:yaj} (r:yv (k+1) A) (env:Env):yv k (A.deeper env) :=
 ⟨r.hd,by have:=r.dp;show A.depth+1+3*k+5<_;omega,by have:=r.un;show A.units+3+16*k+200<_;omega,r.gd⟩
theorem qdT {A:yaj} {C:Addr} {us:List Value} {kw:List (Str×Value)}:(A.under (.builtin "type.__call__" ⟨.ref C::us,kw⟩)).depth=A.depth+1:=by
 first|rfl|simp[ydL,Code.weight,Code.isCreation,Code.isGuard,Code.isCaller,Code.frames,yeU,guardIds]
theorem qdU {A:yaj} {C:Addr} {us:List Value} {kw:List (Str×Value)}:(A.under (.builtin "type.__call__" ⟨.ref C::us,kw⟩)).units=A.units+1:=by
 first|rfl|simp[ydL,Code.cUnits,Code.frames,yeU]
theorem yv.make {k:Nat} {A:yaj} (r:yv (k+1) A) (C:Addr) (us:List Value) (kw:List (Str×Value)):yv k (A.under (.builtin "type.__call__" ⟨.ref C::us,kw⟩)) :=
 ⟨r.hd,by have:=r.dp;rw[qdT];omega,by have:=r.un;rw[qdU];omega,by first|exact r.gd|(simpa [ydL,Code.guards,Code.isGuard,guardIds,pushGuards] using r.gd)⟩
theorem yv.depth{k:Nat}{A:yaj}(r:yv k A):A.depth<yc8:=by have:=r.dp;omega
theorem yv.units{k:Nat}{A:yaj}(r:yv k A):A.units+64<cLine:=by have:=r.un;omega
def qnS:TA:=λ_ H Q=>Q [] H
def qiW(ta:TE)(tr:TA):TA:=λσ H Q=>ta σ H λx H1=>tr σ H1 λxs H2=>Q (x::xs) H2
section
variable{X:Cx}{e:Expr}{es:List Expr}{te:TE}{t:TA}{pos:Pos}
theorem uU:PA X [] qnS:=λ_ _ _ _ H Q I h=>yfj ⟨[],H,I,.nil,h⟩
theorem ja (ha:PE X e te) (hr:PA X es t) (hs:yac (e::es) X.env=(false,eval e X.env)::yac es X.env:=by rfl):PA X (e::es) (qiW te t):=by
 intro pos pins s σ H Q I h
 rw[hs]
 show wpAny _ _ (spliced ((false,eval e X.env)::yaz pos (yac es X.env))) _ _ s
 refine yeV (thn (ha pins s σ H _ I h) λu s1 ⟨x,H1,I1,r1,q1⟩=>?_)
 exact thn (hr pos pins s1 σ H1 _ I1 q1) λus s2 ⟨xs,H2,I2,r2,q2⟩=>⟨x::xs,H2,I2,.cons r1 r2,q2⟩
def qom(t:TA):TE:=λσ H Q=>t σ H λxs H1=>xs.length<=yap/\∀p,H1 p=none->Q (.ref p) (upd H1 p (.tup xs))
def qon(t:TA):TE:=λσ H Q=>t σ H λxs H1=>xs.length<=yap/\∀p,H1 p=none->Q (.ref p) (upd H1 p (.lst xs))
theorem qlf {x1} (h:PA X es t):PE X (.Tuple es x1 pos) (qom t):=by
 intro pins s σ H Q I hq
 refine wpAny_Tuple_spliced (thn (h pos pins s σ H _ I hq) λus s1 ⟨xs,H1,I1,r,z,q⟩=>⟨by rw[<-r.length];exact z,?_⟩)
 have hf:H1 s1.heap.objs.size=none:=I1.hok.fresh (yah _)
 refine⟨.ref s1.heap.objs.size,upd H1 s1.heap.objs.size (.tup xs),I1.laid (t':=s1.toks) (λb u e=>Heap.get?_push_of_some _ e) (yah _) ?_,rfl,q _ hf⟩
 exact⟨z,us,r,⟨_,Heap.get?_push_size _ rfl,rfl,_,rfl⟩⟩
theorem qhS (h:PA X es t):PE X (.List es pos) (qon t):=by
 intro pins s σ H Q I hq
 refine wpAny_List_spliced (thn (h pos pins s σ H _ I hq) λus s1 ⟨xs,H1,I1,r,z,q⟩=>⟨by rw[<-r.length];exact z,?_⟩)
 have hf:H1 s1.heap.objs.size=none:=I1.hok.fresh (yah _)
 refine⟨.ref s1.heap.objs.size,upd H1 s1.heap.objs.size (.lst xs),I1.laid (t':=s1.toks) (λb u e=>Heap.get?_push_of_some _ e) (yah _) ?_,rfl,q _ hf⟩
 exact⟨z,us,0,r,Heap.get?_push_size _ rfl⟩
end
abbrev Sp:=List V->Hp->VK->XK->Prop
abbrev CXT:=List Env->Hp->yaa->XK->Value->yaa->Prop
structure qgF (P:yai) (w:World) (K:yae) (mg:Str->Option Value) (base:Heap) (A:yaj) (outer:List Env) (s:yaa) (H:Hp):Prop where
 frames:A.frames=some outer
 mod:Mod K mg base
 bs:∀b o,base.get? b=some o->s.heap.get? b=some o/\H b=none
 bsz:base.objs.size<=s.heap.objs.size
 funs:s.heap.FunFrames base outer
 frf:∀b∈frs outer,H b=none
 hok:HOk P w H s.heap
 bare:ybO s.gens
def CE (outer:List Env) (P:yai) (w:World) (H:Hp) (s:yaa) (Q:VK) (u:Value) (s':yaa):Prop :=
 ∃v H',s'.os=s.os/\ybO s'.gens/\Un (frs outer) [] H H' s.heap s'.heap/\HOk P w H' s'.heap/\jh v u/\Q v H'
def CR (CX:CXT) (outer:List Env) (P:yai) (w:World) (H:Hp) (s:yaa) (Q:VK) (E:XK) (r:ycU) (s':yaa):Prop :=
 match r with
 |.ok (.ret u)=>CE outer P w H s Q u s'
 |.ok _=>False
 |.error e=>CX outer H s E e s'
structure uY (P:yai) (w:World) (K:yae) (mg:Str->Option Value) (base:Heap) (CX:CXT) (k:Nat) (f:Addr) (fd:yaD) (ps:List Str) (sp:Sp):Prop where
 len:∀vs H Q E,sp vs H Q E->vs.length=ps.length
 run:∀(A:yaj)(outer:List Env)(s:yaa)(H:Hp)(args:Args)(us:List Value)(vs:List V)(Q:VK)(E:XK),yv k A->qgF P w K mg base A outer s H->ydJ s fd args (ps.zip us)->zk vs us->sp vs H Q E ->
  yb6 (model P w) A (.call (.ref f) args) (CR CX outer P w H s Q E) s
theorem qgF.make {P:yai} {w:World} {K:yae} {mg:Str->Option Value} {base:Heap} {A:yaj} {outer:List Env} {s:yaa} {H:Hp} (e:qgF P w K mg base A outer s H) (C:Addr) (us:List Value) (kw:List (Str×Value)) :
  qgF P w K mg base (A.under (.builtin "type.__call__" ⟨.ref C::us,kw⟩)) outer s H:=⟨by first|exact e.frames|(simpa [ydL,Code.envs,yeU,pushEnvs] using e.frames),e.mod,e.bs,e.bsz,e.funs,e.frf,e.hok,e.bare⟩
section
variable{X:Cx}{pins:List (Addr×Obj)}{σ:St}{H:Hp}{s s':yaa}
theorem Inv.env0 (I:Inv X pins σ H s):qgF X.prog X.w X.K X.mg X.base X.A X.stack s H :=
 ⟨I.ok.frames,I.ok.mod,I.bs,yaH I.ok.bsz I.sz,I.stack,I.stkFree,I.hok,I.bare⟩
theorem Inv.after {Q:VK} {u:Value} (I:Inv X pins σ H s) (h:CE X.stack X.prog X.w H s Q u s'):EP X pins σ Q u s':=by
 obtain⟨v,H',os,bare,un,hok,r,q⟩:=h
 obtain⟨hh,g,d,t,os'⟩:=s'
 obtain rfl:os'=s.os:=os
 exact⟨v,H',I.call (h':=hh) (g':=g) (d':=d) (t':=t) (ch:=[]) un hok bare (λb z=>absurd z (by simp)),r,q⟩
end
def qnf(sp:Sp)(dvs:List V)(E:XK)(t:TA):TE:=λσ H Q=>t σ H λvs H1=>sp (vs++dvs) H1 Q E
def yT (K:yae) (fd:yaD) (ps:List Str) (ds:List Value):Prop :=
 ∀(s:yaa)(us:List Value),K.In s.heap->(us++ds).length=ps.length->ydJ s fd ⟨us,[]⟩ (ps.zip (us++ds))
theorem yT.all {K:yae} {fd:yaD} {ps:List Str} (h:∀us:List Value,us.length=ps.length->bindArgs fd ⟨us,[]⟩=pure (ps.zip us)):yT K fd ps []:=λs us _ hl=>by
 rw[ya4]at hl |-
 exact .of_eq (h us hl)
def wL(CX:CXT)(X:Cx)(E:XK):Prop:=∀(pins:List (Addr×Obj))(σ:St)(H:Hp)(s:yaa)(e:Value)(s':yaa),Inv X pins σ H s->CX X.stack H s E e s'->X.xe e s'
section
variable{X:Cx}{CX:CXT}{k:Nat}{f C:Addr}{fd:yaD}{ps:List Str}{sp:Sp}{dvs:List V}{ds:List Value}{E:XK}{x m:Str}{p pos apos:Pos}{e o:Expr}{es:List Expr}{ta:TE}{t:TA}
theorem qlg {pins:List (Addr×Obj)} {σ:St} {H:Hp} {s:yaa} {Q:VK} {us:List Value} {vs:List V} (F:uY X.prog X.w X.K X.mg X.base CX k f fd ps sp) (hr:yv k X.A) (hb:yT X.K fd ps ds) (hd:zk dvs ds) (hx:wL CX X E)
  (I:Inv X pins σ H s) (r:zk vs us) (h:sp (vs++dvs) H Q E):wpAny (model X.prog X.w) X.A (call (.ref f) us) (EP X pins σ Q) X.xe s:=by
 have r2:zk (vs++dvs) (us++ds):=r.append hd
 have hl:(us++ds).length=ps.length:=by rw[<-r2.length];exact F.len _ _ _ _ h
 refine ycV (ycW (F.run X.A X.stack s H ⟨us,[]⟩ (us++ds) (vs++dvs) Q E hr I.env0 (hb s us I.kIn hl) r2 h) λr s' hq=>?_)
 cases r with
 |error e=>exact hx pins σ H s e s' I hq
 |ok fl=>
  cases fl with
  |ret u=>exact I.after hq
  |next=>exact yaR hq
  |brk=>exact yaR hq
  |cont=>exact yaR hq
theorem wM (F:uY X.prog X.w X.K X.mg X.base CX k f fd ps sp) (hr:yv k X.A) (hg:Gl X x) (hm:X.mg x=some (.ref f)) (hk:yal X.K (.ref f)=true) (hb:yT X.K fd ps ds) (hd:zk dvs ds) (hx:wL CX X E)
  (ha:PA X (e::es) t) (hdb:(x==("__debug__":Str))=false:=by decide) (he:yac (e::es) X.env=(false,eval e X.env)::yac es X.env:=by rfl) (hpl:(yaz pos (yac es X.env)).any (·.1)=false:=by rfl) :
  PE X (.Call (.Name x p) (e::es) [] pos) (qnf sp dvs E t):=by
 intro pins s σ H Q I h
 refine yct (wF I hg hm ?_ hdb)
 refine yeW (h₀:=X.base) I.ok.mod.kin hk (thn (ha pos pins s σ H _ I h) λus s1 ⟨vs,H1,I1,r,q⟩=>⟨I1.kIn,?_⟩) he hpl
 exact qlg F hr hb hd hx I1 r q
end
structure qF (N P:List Str) (sc:Scope):Prop where
 kind:sc.kind=.function
 co:sc.isCoroutine=false
 gen:sc.isGenerator=false
 nd:N.Nodup
 pre:N.take P.length=P
 par:∀x∈P,sc.names.lookup x=some .local\/sc.names.lookup x=some .cell
 nofree:∀y∈sc.names,y.2 ≠ .free
theorem qbt {yb7:Str->Option ycI} {x:Str}:∀{binds:List (Str×Value)}{m:Str->Option Value},(∀v,(x,v) ∉ binds)->bindL yb7 binds m x=m x
 | [],_,_=>rfl
 | (n,v)::r,m,h=>by
  unfold bindL
  rw[qbt λw hw=>h w (mM _ hw)]
  split
  ·have:x≠n:=by rintro rfl;exact h v mS_
   simp[this]
  ·rfl
theorem qbu {yb7:Str->Option ycI} {x:Str}:∀{binds:List (Str×Value)}{m:Str->Option Value},(∀v,(x,v) ∉ binds)->bindC yb7 binds m x=m x
 | [],_,_=>rfl
 | (n,v)::r,m,h=>by
  unfold bindC
  rw[qbu λw hw=>h w (mM _ hw)]
  split
  ·rfl
  ·have:x≠n:=by rintro rfl;exact h v mS_
   simp[this]
theorem wN {yb7:Str->Option ycI} {x:Str} {v:Value}:∀{P:List Str}{vs:List Value}{i:Nat}{m:Str->Option Value},P.Nodup->P[i]? = some x->vs[i]? = some v->yb7 x=some .local ->
  bindL yb7 (P.zip vs) m x=some v
 | [],_,_,_,_,h,_,_=>by simp at h
 |_::_,[],_,_,_,_,h,_=>by simp at h
 |p::P,w::vs,0,m,nd,h1,h2,hk=>by
  simp at h1 h2;subst h1;subst h2
  show bindL yb7 ((p,w)::P.zip vs) m p=_
  unfold bindL
  rw[qbt λv hv=>(List.nodup_cons.mp nd).1 (ycX hv).1,if_pos hk]
  simp
 |p::P,w::vs,i+1,m,nd,h1,h2,hk=>by
  show bindL yb7 ((p,w)::P.zip vs) m x=_
  unfold bindL
  exact wN (i:=i) (List.nodup_cons.mp nd).2 (by simpa using h1) (by simpa using h2) hk
theorem wO {yb7:Str->Option ycI} {x:Str} {v:Value}:∀{P:List Str}{vs:List Value}{i:Nat}{m:Str->Option Value},P.Nodup->P[i]? = some x->vs[i]? = some v->yb7 x≠some .local ->
  bindC yb7 (P.zip vs) m x=some v
 | [],_,_,_,_,h,_,_=>by simp at h
 |_::_,[],_,_,_,_,h,_=>by simp at h
 |p::P,w::vs,0,m,nd,h1,h2,hk=>by
  simp at h1 h2;subst h1;subst h2
  show bindC yb7 ((p,w)::P.zip vs) m p=_
  unfold bindC
  rw[qbu λv hv=>(List.nodup_cons.mp nd).1 (ycX hv).1,if_neg hk]
  simp
 |p::P,w::vs,i+1,m,nd,h1,h2,hk=>by
  show bindC yb7 ((p,w)::P.zip vs) m x=_
  unfold bindC
  exact wO (i:=i) (List.nodup_cons.mp nd).2 (by simpa using h1) (by simpa using h2) hk
def zV(N:List Str)(vs:List V):St:=vs.map some++yan (N.length-vs.length) none
def qch (CX:CXT) (P:yai) (w:World) (K:yae) (mg:Str->Option Value) (base:Heap) (N:List Str) (qual:Str) (scope:Scope) (f:Addr) (cd:Value) (A:yaj) (outer:List Env) (s:yaa) (H:Hp) (E:XK):Cx where
 prog:=P
 w:=w
 K:=K
 mg:=mg
 base:=base
 A:=A.deeper (yaW qual scope s.heap.objs.size f cd)
 N:=N
 s₀:=s
 H₀:=H
 env:=yaW qual scope s.heap.objs.size f cd
 outer:=outer
 stack:=yaW qual scope s.heap.objs.size f cd::outer
 ex:=[]
 calm:=true
 fn:=λ_=>true
 pn:=[]
 xe:=λe s'=>wpAny (model P w) (A.deeper (yaW qual scope s.heap.objs.size f cd)) (ybK (yaW qual scope s.heap.objs.size f cd) e) (λ_ s''=>CX outer H s E e s'') (λe' s''=>CX outer H s E e' s'') s'
theorem wy {sc:Scope} {n:Nat} {x:Str} (h:sc.names.lookup x=some .cell):∃c,(ydX n sc.names []).lookup x=some c:=by
 have q:=ycD sc.names n [] (.inl h)
 exact Option.isSome_iff_exists.mp q
theorem qeS {CX:CXT} {P:yai} {w:World} {K:yae} {mg:Str->Option Value} {base:Heap} {N ps:List Str} {qual:Str} {scope:Scope} {f:Addr} {cd:Value} {A:yaj} {outer:List Env} {s s1:yaa} {H:Hp} {E:XK} {us:List Value} {vs:List V}
  (S:qF N ps scope) (hd:A.handled=none) (e0:qgF P w K mg base A outer s H) (hl:vs.length=ps.length) (r:zk vs us)
  (x:InCallC s s.heap.objs.size (bindL (yaW qual scope s.heap.objs.size f cd).kindOf (ps.zip us) λ_=>none) (ydX (s.heap.objs.size+1) scope.names []) (bindC (yaW qual scope s.heap.objs.size f cd).kindOf (ps.zip us) λ_=>none) s1) :
  Inv (qch CX P w K mg base N qual scope f cd A outer s H E) [] (zV N vs) H s1:=by
 have hpl:ps.length<=N.length:=by have:=congrArg yd6 S.pre;rw[ycg]at this;omega
 obtain⟨h1,tk,rfl,hk⟩:=x.done
 have noA:∀b:Addr,b ∉ (qch CX P w K mg base N qual scope f cd A outer s H E).ex:=λb z=>absurd (show b∈([]:List Addr)from z) (by simp)
 refine ⟨⟨e0.mod,S.kind,rfl,rfl,yah _,λy z c h1 h2=>?_,λy hy=>?_,λy c _ h=>?_,λ_=>hd,yex e0.frames,.inr ⟨rfl,rfl⟩,λb z=>absurd z (noA b),e0.bs,e0.bsz,λb _ _=>noA b,λb z=>absurd z (noA b),e0.funs,e0.frf⟩,
  rfl,e0.bare,Un.kept hk,⟨_,x.toInCall.ns,λi y v h1 h2 h3=>?_⟩,λy c h=>⟨_,x.cell y c h⟩,e0.hok.fresh (yah _),λy c h=>?_,λp hp=>absurd (show p∈([]:List (Addr×Obj))from hp) (by simp),e0.hok.kept hk,?_⟩
 ·exact name_of_addr x.apart (yaK h1) (yaK h2)
 ·have hy:scope.names.lookup y=some .cell\/scope.names.lookup y=some .free:=hy
  rcases hy with hy|hy
  ·exact wy hy
  ·exact absurd rfl (S.nofree _ (yaK hy))
 ·exact ycT (x.above y c (yaK h))
 ·have hi:i<vs.length:=by
   unfold zV at h2
   by_cases hi:i<vs.length
   ·exact hi
   ·rw[List.getElem?_append_right (by simpa using hi)]at h2
    rw[List.getElem?_replicate]at h2
    split at h2<;>cases h2
  have ha:vs[i]? = some v:=by
   unfold zV at h2
   rw[List.getElem?_append_left (by simpa using hi),gM_]at h2
   cases e:vs[i]? with
   |none=>rw[e]at h2;cases h2
   |some a=>rw[e]at h2;cases h2;rfl
  obtain⟨u,hu,rv⟩:=r.get ha
  have hp:ps[i]? = some y:=by
   rw[<-S.pre,List.getElem?_take_of_lt (by omega)];exact h1
  have ndP:ps.Nodup:=by rw[<-S.pre];exact S.nd.sublist (yfk _ _)
  refine⟨u,rv,?_⟩
  rcases S.par y (ybF hp)with k|k
  ·exact .inl ⟨k,wN ndP hp hu k⟩
  ·obtain⟨c,e⟩:=wy (n:=s.heap.objs.size+1) k
   refine .inr ⟨.inl k,c,e,?_⟩
   have q:=x.cell y c e
   rw[wO ndP hp hu (by show scope.names.lookup y≠_;rw[k];decide)]at q
   exact q
 ·exact e0.hok.fresh (ycT (x.above y c (yaK h)))
 ·unfold zV
  show _=N.length
  rw[lA_,lM_,yaZ]
  omega
theorem qlh {CX:CXT} {P:yai} {w:World} {K:yae} {mg:Str->Option Value} {base:Heap} {k:Nat} {f:Addr} {name qual:Str} {params:ydY} {body:List Stmt} {scope:Scope} {dV kV doc pm cdv ct oc:Value} {an od:Option Addr}
  {osl:Array (Option Value)} {N ps:List Str} {sp:Sp} (lk:K.lookup f=some ⟨oc,od,.func (yau name qual params body scope dV kV doc pm an cdv ct),osl⟩) (hcd:yas K cdv qual=true) (S:qF N ps scope)
  (len:∀vs H Q E,sp vs H Q E->vs.length=ps.length)
  (hbody:∀(A:yaj)(outer:List Env)(s:yaa)(H:Hp)(vs:List V)(Q:VK)(E:XK),yv k (A.deeper (yaW qual scope s.heap.objs.size f cdv))->sp vs H Q E ->
   ∃t,PSs (qch CX P w K mg base N qual scope f cdv A outer s H E) body t/\t {nx:=λ_ H'=>Q .non H',rt:=Q} (zV N vs) H) :
  uY P w K mg base CX (k+1) f (yau name qual params body scope dV kV doc pm an cdv ct) ps sp:=by
 refine⟨len,λA outer s H args us vs Q E hr e0 hb r hsp=>?_⟩
 have hl:=len _ _ _ _ hsp
 have KX:K.In s.heap:=e0.mod.kin.keeps λb o e=>(e0.bs b o e).1
 have lim:s.heap.NoLimit:=e0.mod.nolimit.keeps λb o e=>(e0.bs b o e).1
 have hkind:∀y∈ps.zip us,scope.names.lookup y.1=some .local\/(scope.names.lookup y.1=some .cell/\((ydX (s.heap.objs.size+1) scope.names []).lookup y.1).isSome=true):=λ⟨n,v⟩ hy=>by
  rcases S.par n (ycX hy).1 with q|q
  ·exact .inl q
  ·exact .inr ⟨q,ycD _ _ _ (.inl q)⟩
 refine yel hr.depth (KX _ _ lk) rfl S.co S.gen rfl (yeX KX hcd) (hb _ _ _ _ ?_)
 refine ydp S.kind hkind λenv he s1 x=>?_
 subst he
 refine⟨lim.keeps x.toInCall.keep,codeAny_func ?_⟩
 obtain⟨t,ht,hq⟩:=hbody A outer s H vs Q E (hr.deeper _) hsp
 have I:Inv (qch CX P w K mg base N qual scope f cdv A outer s H E) [] (zV N vs) H s1:=qeS S hr.hd e0 hl r x
 refine yaF (ht [] s1 (zV N vs) H _ I hq) (λfl s' hs=>?_) λe s' hs=>hs
 have fin:∀{σ':St}{H':Hp}{v:V}{u:Value},Inv (qch CX P w K mg base N qual scope f cdv A outer s H E) [] σ' H' s'->jh v u->Q v H'->CE outer P w H s Q u s' :=
  λ{σ' H' v u} J rv q=>⟨v,H',J.os,J.bare,J.base,J.hok,rv,q⟩
 cases fl with
 |ret u=>
  obtain⟨v,σ',H',J,rv,q⟩:=hs
  exact fin J rv q
 |next=>
  obtain⟨σ',H',J,q⟩:=hs
  exact fin (v:=V.non) (u:=yaG) J rfl q
 |brk=>
  obtain⟨_,_,_,q⟩:=hs
  exact yaR q
 |cont=>
  obtain⟨_,_,_,q⟩:=hs
  exact yaR q
end L2
namespace L2
open PySem PySem.Spec PyProof.Rows
section
variable{X:Cx}{x:Str}{p pos:Pos}{e:Expr}{es:List Expr}{t:TA}{id T:String}{r:List V->Hp->VK->Prop}
def tCB(r:List V->Hp->VK->Prop)(t:TA):TE:=λσ H Q=>t σ H λvs H1=>r vs H1 Q
theorem vc (hc:jV X (.builtin id) r) (hg:Gl X x) (hm:X.mg x=none) (hv:yay x=some (.builtin id)) (ha:PA X (e::es) t) (hn:x≠"__name__":=by decide) (hdb:(x==("__debug__":Str))=false:=by decide)
  (he:yac (e::es) X.env=(false,eval e X.env)::yac es X.env:=by rfl) (hpl:(yaz pos (yac es X.env)).any (·.1)=false:=by rfl):PE X (.Call (.Name x p) (e::es) [] pos) (tCB r t):=by
 intro pins s σ H Q I h
 refine yct (wG I hg hm hv ?_ hn hdb)
 exact PyProof.Rows.callWith_builtin1 (thn (ha pos pins s σ H _ I h) λus s1 ⟨vs,H1,I1,r1,q1⟩=>hc pins s1 σ H1 vs us Q I1 r1 q1) he hpl
theorem wP (hc:jV X (.type T) r) (hg:Gl X x) (hm:X.mg x=none) (hv:yay x=some (.type T)) (ha:PA X (e::es) t) (hn:x≠"__name__":=by decide) (hdb:(x==("__debug__":Str))=false:=by decide)
  (he:yac (e::es) X.env=(false,eval e X.env)::yac es X.env:=by rfl) (hpl:(yaz pos (yac es X.env)).any (·.1)=false:=by rfl):PE X (.Call (.Name x p) (e::es) [] pos) (tCB r t):=by
 intro pins s σ H Q I h
 refine yct (wG I hg hm hv ?_ hn hdb)
 exact yba (thn (ha pos pins s σ H _ I h) λus s1 ⟨vs,H1,I1,r1,q1⟩=>hc pins s1 σ H1 vs us Q I1 r1 q1) he hpl
end
end L2
namespace HT
open PySem PyProof.Rows
section
open PySem.SeqAt
open PySem.AutoSeq1 (wpAny_loadPart')
open PySem.MeetsSeq PySem.MeetsSeq2 PySem.MeetsSeq3
end
section
variable{prog:yai}{w:World}{A:yaj}{E:Value->yaa->Prop}{s:yaa}
theorem cat_tup {t b:Addr} {vs ws:List Value} {Q:Value->yaa->Prop} (ht:IsTup s.heap t vs.toArray) (hb:IsTup s.heap b ws.toArray) (hv:vs≠[])
  (h1:ws=[]->Q (.ref t) s) (h2:ws≠[]->Q (.ref s.heap.objs.size) {s with heap:=s.heap.push {cls:=.type "tuple",data:=.seq (vs++ws).toArray} })
  (hsz:vs.length+ws.length<=yap):wpAny (model prog w) A (ya9 .Add (.ref t) (.ref b)) Q E s:=by
 obtain⟨⟨cls,dd,data,sl⟩,ho,hc,n,hd⟩:=id ht
 obtain⟨⟨cls2,dd2,data2,sl2⟩,ho2,hc2,n2,hd2⟩:=id hb
 simp only at hc hd hc2 hd2
 subst hc hd hc2 hd2
 have e:vs.toArray++ws.toArray=(vs++ws).toArray:=by simp
 by_cases hw:ws=[]
 ·exact yeY ⟨_,ho,rfl⟩ ⟨_,ho2,rfl⟩ ydM yeH ycE ycA (ycu _ _)
   (tuple_addW1 t b vs.toArray ws.toArray n n2 dd dd2 sl sl2 (by simpa using hv) (by simp[hw])) ⟨ho,ho2,h1 hw⟩
 ·refine yeY ⟨_,ho,rfl⟩ ⟨_,ho2,rfl⟩ ydM yeH ycE ycA (ycu _ _)
   (tuple_addW2 t b vs.toArray ws.toArray n n2 dd dd2 sl sl2 (by simpa using hv) (by simpa using hw) (by rw[sT_,sT_];exact hsz)) ⟨ho,ho2,?_⟩
  rw[e]
  exact h2 hw
def sIx (n d:Nat):Option Int->Nat
 |none=>d
 |some v=>if v<0 then(v+(n:Int)).toNat else min v.toNat n
theorem sIx_none(n d:Nat):sIx n d none=d:=rfl
theorem sIx_nat (n d k:Nat):sIx n d (some (k:Int))=min k n:=by
 show(if(k:Int)<0 then((k:Int)+(n:Int)).toNat else min (k:Int).toNat n)=min k n
 rw[if_neg (by omega),ybo]
theorem qli (n d:Nat) (hd:d<=n) (o:Option Int):sIx n d o<=n:=by
 cases o with
 |none=>exact hd
 |some v=>
  show(if v<0 then(v+(n:Int)).toNat else min v.toNat n)<=n
  by_cases hv:v<0
  ·rw[if_pos hv];omega
  ·rw[if_neg hv];exact Nat.min_le_right _ _
theorem qeT (v:Int) (n d:Nat):(if v<0 then max (v+(n:Int)) 0 else min v (n:Int))=((sIx n d (some v):Nat):Int):=by
 show(if v<0 then max (v+(n:Int)) 0 else min v (n:Int))=(((if v<0 then(v+(n:Int)).toNat else min v.toNat n):Nat):Int)
 by_cases hv:v<0
 ·simp only[if_pos hv];omega
 ·simp only[if_neg hv];omega
theorem qdV (lo hi:Option Int) (n:Nat):ycq lo hi 1 (n:Int)=(((sIx n 0 lo:Nat):Int),((sIx n n hi:Nat):Int)):=by
 have h1:¬((1:Int)<0):=by omega
 unfold ycq
 simp only[h1,if_false]
 refine Prod.ext ?_ ?_
 ·cases lo with
  |none=>rfl
  |some v=>exact qeT v n 0
 ·cases hi with
  |none=>rfl
  |some v=>exact qeT v n n
theorem qdW (i j:Nat):ybG (i:Int) (j:Int) 1=j-i:=by
 unfold ybG
 have h1:(1:Int)>0:=by omega
 simp only[h1,if_true,Int.ediv_one]
 split<;>omega
theorem qau {v:Value} {o:Option Int} {Q:Option Int->yaa->Prop} (p:ycY v o) (h:Q o s):wpAny (model prog w) A (Builtin.Slice.slicePartIndex v) Q E s:=by
 cases p with
 |none=>exact slicePart_none h
 |int i t=>exact slicePart_int h
theorem sliceApplied_gen {sl:Addr} {vl vu:Value} {lo hi:Option Int} {n:Nat} {Q:Int×Int×Nat->yaa->Prop} (hs:s.heap.IsSliceOf sl vl vu .none) (pl:ycY vl lo) (pu:ycY vu hi)
  (h:Q (((sIx n 0 lo:Nat):Int),1,sIx n n hi-sIx n 0 lo) s):wpAny (model prog w) A (ydq (.ref sl) (pure (n:Int))) Q E s:=by
 obtain⟨os,hos,hcs,hds⟩:=id hs
 unfold ydq Builtin.Slice.sliceFields
 refine yab (yab (yaL hos hds (x:=vl) rfl (yab (yaL hos hds (x:=vu) rfl (yab (yaL hos hds (x:=.none) rfl (yaq ?_)))))))
 refine yab (slicePart_none ?_)
 show wpAny _ _ (if((1:Int)==0)=true then _ else _) _ _ s
 rw[if_neg (by decide)]
 refine yab (qau pl (yab (qau pu (yab (yaq ?_)))))
 show wpAny _ _ (match ycq lo hi 1 (n:Int) with|(lo,hi)=>pure (lo,(1:Int),ybG lo hi 1)) _ _ s
 rw[qdV lo hi n]
 show wpAny _ _ (pure (((sIx n 0 lo:Nat):Int),(1:Int),ybG ((sIx n 0 lo:Nat):Int) ((sIx n n hi:Nat):Int) 1)) _ _ s
 rw[qdW]
 exact yaq h
theorem qgG (xs:Array Value) (i k:Nat):((ya2 k).filterMap λ(m:Nat)=>xs[((i:Int)+(m:Int)*1).toNat]?).toArray=((xs.toList.drop i).take k).toArray:=by
 have e:(λ(m:Nat)=>xs[((i:Int)+(m:Int)*1).toNat]?)=λm=>xs[i+m]? := by
  funext m
  have:((i:Int)+(m:Int)*1).toNat=i+m:=by omega
  rw[this]
 rw[e]
 have:=pick_run xs i k
 rw[List.filterMap_map]at this
 have e2:((λx=>xs[x]?)∘λx=>i+x)=λm=>xs[i+m]? := rfl
 rw[e2]at this
 rw[this]
theorem getItem_tuple_cut {t sl:Addr} {items:Array Value} {vl vu:Value} {lo hi:Option Int} {Q:Value->yaa->Prop} (ht:IsTup s.heap t items) (hs:s.heap.IsSliceOf sl vl vu .none) (pl:ycY vl lo) (pu:ycY vu hi)
  (hw:¬(sIx items.size 0 lo=0/\sIx items.size items.size hi=items.size))
  (h:Q (.ref s.heap.objs.size) {s with heap:=s.heap.push {cls:=.type "tuple",data:=.seq ((items.toList.drop (sIx items.size 0 lo)).take (sIx items.size items.size hi-sIx items.size 0 lo)).toArray} })
  (hsz:items.size<=yap):wpAny (model prog w) A (yc9 (.ref t) (.ref sl)) Q E s:=by
 have htake:sizeOk (.seq ((items.toList.drop (sIx items.size 0 lo)).take (sIx items.size items.size hi-sIx items.size 0 lo)).toArray):=by
  show((items.toList.drop (sIx items.size 0 lo)).take (sIx items.size items.size hi-sIx items.size 0 lo)).toArray.size<=yap
  rw[sT_,ycg,ych,yaI]
  omega
 have hj:sIx items.size items.size hi<=items.size:=qli _ _ (yah _) hi
 obtain⟨os,hos,hcs,hds⟩:=id hs
 have hTs:s.TypeIs (.ref sl) "slice":=⟨os,hos,hcs⟩
 unfold yc9
 try with_reducible refine ybp ?_
 first|refine yab (yaq ?_)|skip
 refine yab (yfl ht.typeIs (by decide) ?_)
 refine yab (wpAny_callSpecial?_slot (name:=ycv "__getitem__") ht.typeIs ybg
  (ycJ ybg ht.typeIs yeJ ?_ (yeZ _ _)))
 show wpAny _ _ (ydr (.ref t) >>= _) _ _ s
 refine yab (tupleItemsOf_ ht ?_)
 refine yab (ycw hTs ?_)
 rw[if_pos (by decide)]
 refine yab (sliceApplied_gen hs pl pu ?_)
 have hno:¬((((sIx items.size 0 lo:Nat):Int)==0&&(1:Int)==1&&(sIx items.size items.size hi-sIx items.size 0 lo)==items.size)=true):=by
  intro q
  rw[yad,yad]at q
  have q1:((sIx items.size 0 lo:Nat):Int)=0:=ycQ q.1.1
  have q2:sIx items.size items.size hi-sIx items.size 0 lo=items.size:=ycQ q.2
  exact hw ⟨by omega,by omega⟩
 show wpAny _ _ (if(((sIx items.size 0 lo:Nat):Int)==0&&(1:Int)==1&&(sIx items.size items.size hi-sIx items.size 0 lo)==items.size)=true then _ else _) _ _ s
 rw[if_neg hno,qgG]
 first
  |exact yab (m:=ybM _) (yaX (yaq ⟨_,rfl,yaq h⟩) htake)
  |exact yab (m:=ybM _) (yaX (yab (yaq (yaq ⟨_,rfl,yaq h⟩))) htake)
  |exact yab (yab (m:=ybM _) (yaX (yaq (yaq ⟨_,rfl,yaq h⟩)) htake))
  |exact yab (yab (m:=ybM _) (yaX (yaq ⟨_,rfl,yaq h⟩) htake))
end
end HT
namespace L2
open PySem PySem.Spec PyProof.Rows
abbrev TO:=St->Hp->(Option Int->Hp->Prop)->Prop
def PO (X:Cx) (e:Option Expr) (t:TO):Prop :=
 ∀ (pins:List (Addr×Obj)) (s:yaa) (σ:St) (H:Hp) (Q:Option Int->Hp->Prop),Inv X pins σ H s->t σ H Q ->
  wpAny (model X.prog X.w) X.A (evalPart e X.env) (λu s'=>∃o H',Inv X pins σ H' s'/\ycY u o/\Q o H') X.xe s
def qiX:TO:=λ_ H Q=>Q none H
def qng(t:TE):TO:=λσ H Q=>t σ H λx H1=>∃i,x=.int i/\Q (some i) H1
section
variable{X:Cx}{e:Expr}{te:TE}{lo hi:Option Expr}{tl th:TO}{pos p2:Pos}
theorem qiY:PO X none qiX:=by
 intro pins s σ H Q I h
 rw[evalPart_none]
 exact yaq ⟨none,H,I,.none,h⟩
theorem qiZ (h:PE X e te):PO X (some e) (qng te):=by
 intro pins s σ H Q I hw
 rw[evalPart_some]
 refine thn (h pins s σ H _ I hw) λu s1 ⟨x,H1,I1,r1,q1⟩=>?_
 obtain⟨i,rfl,q⟩:=q1
 obtain⟨t,rfl⟩:=r1
 exact⟨some i,H1,I1,.int i t,q⟩
def SlR (X:Cx) (r:V->Option Int->Option Int->Hp->VK->Prop):Prop :=
 ∀ (pins:List (Addr×Obj)) (s:yaa) (σ:St) (H:Hp) (x:V) (v vl vu:Value) (lo hi:Option Int) (sl:Addr) (Q:VK),Inv X pins σ H s->jh x v->s.heap.IsSliceOf sl vl vu .none->ycY vl lo->ycY vu hi->r x lo hi H Q ->
  ∃T id,yey (.type T) "__getitem__"=pure (some (.builtin id))/\s.TypeIs v T/\wpAny (model X.prog X.w) X.A (yc9 v (.ref sl)) (EP X pins σ Q) X.xe s
theorem SlR.or {r r':V->Option Int->Option Int->Hp->VK->Prop} (h:SlR X r) (h':SlR X r'):SlR X (λx lo hi H Q=>r x lo hi H Q\/r' x lo hi H Q):=by
 intro pins s σ H x v vl vu lo hi sl Q I rx hs pl pu q
 rcases q with q|q
 ·exact h pins s σ H x v vl vu lo hi sl Q I rx hs pl pu q
 ·exact h' pins s σ H x v vl vu lo hi sl Q I rx hs pl pu q
def tSl(r:V->Option Int->Option Int->Hp->VK->Prop)(te:TE)(tl th:TO):TE:=λσ H Q=>te σ H λx H1=>tl σ H1 λl H2=>th σ H2 λu H3=>r x l u H3 Q
theorem qcX {r:V->Option Int->Option Int->Hp->VK->Prop} (hr:SlR X r) (he:PE X e te) (hl:PO X lo tl) (hu:PO X hi th):PE X (.Subscript e (.Slice lo hi none p2) pos) (tSl r te tl th):=by
 intro pins s σ H Q I h
 refine Subscript_ (thn (he pins s σ H _ I h) λv s1 ⟨x,H1,I1,r1,q1⟩=>?_)
 refine wpAny_Slice (thn (hl pins s1 σ H1 _ I1 q1) λvl s2 ⟨l,H2,I2,pl,q2⟩=>thn (hu pins s2 σ H2 _ I2 q2) λvu s3 ⟨u,H3,I3,pu,q3⟩=>?_)
 rw[evalPart_none]
 refine yaq ?_
 have I4:Inv X pins σ H3 {s3 with heap:=s3.heap.push {cls:=.type "slice",data:=.fields #[vl,vu,.none]} }:=I3.kept (t':=s3.toks) λb ob q=>Heap.get?_push_of_some _ q
 obtain⟨T,id,hT,ht,hg⟩:=hr pins {s3 with heap:=s3.heap.push {cls:=.type "slice",data:=.fields #[vl,vu,.none]} } σ H3 x v vl vu l u s3.heap.objs.size Q I4 r1 (Heap.IsSliceOf.new ..) pl pu q3
 show wpAny (model X.prog X.w) X.A (subscriptTail e (.Slice lo hi none p2) v (.ref s3.heap.objs.size)) (EP X pins σ Q) X.xe {s3 with heap:=s3.heap.push {cls:=.type "slice",data:=.fields #[vl,vu,.none]} }
 exact tail_any (ops:=[.ref s3.heap.objs.size,v]) ht hT hg (by with_unfolding_all rfl)
def qgn(xs:List V)(lo hi:Option Int):List V:=(xs.drop (HT.sIx xs.length 0 lo)).take (HT.sIx xs.length xs.length hi-HT.sIx xs.length 0 lo)
theorem wQ (xs:List V) (lo hi:Option Int):(qgn xs lo hi).length<=xs.length:=by
 unfold qgn
 rw[ycg,ych]
 omega
def qnT (K:yae):V->Option Int->Option Int->Hp->VK->Prop:=λx lo hi H Q=>∃a xs,x=.ref a/\SqT K H a xs /\
 ¬(HT.sIx xs.length 0 lo=0/\HT.sIx xs.length xs.length hi=xs.length)/\∀p,H p=none->Q (.ref p) (upd H p (.tup (qgn xs lo hi)))
theorem qlj:SlR X (qnT X.K):=by
 intro pins s σ H x v vl vu lo hi sl Q I rx hs pl pu h
 obtain⟨a,xs,rfl,hx,hw,q⟩:=h
 cases rx
 obtain⟨its,r,ht,hz⟩:=I.tuple hx
 have hlen:its.toArray.size=xs.length:=by rw[sT_];exact r.length.symm
 refine⟨"tuple",_,PyProof.Rows.slot_tuple_getitem.lookup,ht.typeIs,?_⟩
 refine HT.getItem_tuple_cut ht hs pl pu (by rw[hlen];exact hw) ?_ (by rw[hlen];exact hz)
 rw[hlen]
 refine⟨.ref s.heap.objs.size,_,I.laid (t':=s.toks) (o:=.tup (qgn xs lo hi)) (λb ob q=>Heap.get?_push_of_some _ q) (yah _) ?_,rfl,q _ (I.hok.fresh (yah _))⟩
 exact⟨yaH (wQ xs lo hi) hz,_,(r.drop (HT.sIx xs.length 0 lo)).take (HT.sIx xs.length xs.length hi-HT.sIx xs.length 0 lo),yde _ _⟩
def qlk (K:yae):R2:=λx y H Q=>∃a b xs ys,x=.ref a/\y=.ref b/\SqT K H a xs/\SqT K H b ys/\xs≠[]/\xs.length+ys.length<=yap /\
 (ys=[]->Q (.ref a) H)/\(ys≠[]->∀p,H p=none->Q (.ref p) (upd H p (.tup (xs++ys))))
theorem zk.nil_iff {xs:List V} {us:List Value} (r:zk xs us):us=[] ↔ xs=[]:=by
 cases r with
 |nil=>simp
 |cons _ _=>simp
theorem qi0:OpR X (ya9 .Add) (qlk X.K):=by
 intro pins s σ H x y v u Q I rx ry h
 obtain⟨a,b,xs,ys,rfl,rfl,ha,hb,hx,hz,q1,q2⟩:=h
 cases rx
 cases ry
 obtain⟨its,r1,p1,_⟩:=I.tuple ha
 obtain⟨its2,r2,p2,_⟩:=I.tuple hb
 refine HT.cat_tup p1 p2 (λz=>hx (r1.nil_iff.mp z)) (λz=>⟨.ref a,H,I,rfl,q1 (r2.nil_iff.mp z)⟩) (λz=>?_) (by rw[<-r1.length,<-r2.length];exact hz)
 refine⟨.ref s.heap.objs.size,_,I.laid (t':=s.toks) (o:=.tup (xs++ys)) (λb ob q=>Heap.get?_push_of_some _ q) (yah _) ?_,rfl,q2 (λw=>z (r2.nil_iff.mpr w)) _ (I.hok.fresh (yah _))⟩
 exact⟨by rw[lA_];exact hz,_,r1.append r2,yde _ _⟩
end
end L2
namespace L2
open PySem PySem.Spec PyProof.Rows
def ixN(n:Nat)(i:Int):Option Nat:=if 0<=i then(if i<n then some i.toNat else none)else if -(n:Int)<=i then some (i+n).toNat else none
def atI{α:Type}(xs:List α)(i:Int):Option α:=(ixN xs.length i).bind λj=>xs[j]?
theorem qeU {n:Nat} {i:Int} {j:Nat} (h:ixN n i=some j):seqIndex? i n=some j/\j<n /\ -(n:Int)<=i/\i<n:=by
 unfold ixN at h
 by_cases h0:0<=i
 ·rw [if_pos h0]at h
  by_cases h1:i<n
  ·rw[if_pos h1]at h
   have e:i.toNat=j:=yaA h
   exact⟨by rw[yft h0 h1,e],by omega,by omega,h1⟩
  ·rw[if_neg h1]at h;cases h
 ·rw [if_neg h0]at h
  by_cases h1 : -(n:Int)<=i
  ·rw[if_pos h1]at h
   have e:(i+n).toNat=j:=yaA h
   exact⟨by rw[ye0 (by omega) h1,e],by omega,h1,by omega⟩
  ·rw[if_neg h1]at h;cases h
theorem qci {α:Type} {xs:List α} {i:Int} {v:α} (h:atI xs i=some v):∃j,seqIndex? i xs.length=some j/\xs[j]? = some v/\j<xs.length /\ -(xs.length:Int)<=i/\i<xs.length:=by
 unfold atI at h
 cases e:ixN xs.length i with
 |none=>rw[e]at h;cases h
 |some j=>
  rw[e]at h
  obtain⟨h1,h2,h3,h4⟩:=qeU e
  exact⟨j,h1,h,h2,h3,h4⟩
theorem atI_nat {α:Type} {xs:List α} {j:Nat} {v:α} (h:xs[j]? = some v):atI xs (j:Int)=some v:=by
 have hj:j<xs.length:=(gI_.mp h).1
 have e:ixN xs.length (j:Int)=some j:=by
  unfold ixN
  rw[if_pos (by omega),if_pos (by omega)];simp
 unfold atI;rw[e];exact h
def qcj(b:Expr):Prop:=∀o i,subscripted b false o i=operate [o,i] (yc9 o i)
def IxR (X:Cx) (r:R2):Prop :=
 ∀ (value slice:Expr) (pins:List (Addr×Obj)) (s:yaa) (σ:St) (H:Hp) (x y:V) (v u:Value) (Q:VK),Inv X pins σ H s->jh x v->jh y u->r x y H Q ->
  subscripted slice false v u=operate [v,u] (yc9 v u)->wpAny (model X.prog X.w) X.A (subscriptTail value slice v u) (EP X pins σ Q) X.xe s
def MtR (X:Cx) (id:String) (r:V->List V->Hp->VK->Prop):Prop :=
 ∀ (pins:List (Addr×Obj)) (s:yaa) (σ:St) (H:Hp) (x:V) (xs:List V) (v:Value) (us:List Value) (Q:VK),Inv X pins σ H s->jh x v->zk xs us->r x xs H Q ->
  wpAny (model X.prog X.w) X.A (call (.builtin id) (v::us)) (EP X pins σ Q) X.xe s
section
variable{X:Cx}{a b:Expr}{ta tb:TE}{pos:Pos}
theorem IxR.or {r r':R2} (h:IxR X r) (h':IxR X r'):IxR X (λx y H Q=>r x y H Q\/r' x y H Q):=by
 intro value slice pins s σ H x y v u Q I rx ry q hs
 rcases q with q|q
 ·exact h value slice pins s σ H x y v u Q I rx ry q hs
 ·exact h' value slice pins s σ H x y v u Q I rx ry q hs
theorem qll {r:R2} (hr:IxR X r) (ha:PE X a ta) (hb:PE X b tb) (hs:qcj b):PE X (.Subscript a b pos) (tOp r ta tb):=by
 intro pins s σ H Q I h
 exact Subscript_ (qm8 ha hb I h λv u s2 x y H2 I2 rx ry q=>hr a b pins s2 σ H2 x y v u Q I2 rx ry q (hs _ _))
def qlm(K:yae):R2:=λx y H Q=>∃p xs i v,x=.ref p/\y=.int i/\SqL K H p xs/\atI xs i=some v/\Q v H
def qln(K:yae):R2:=λx y H Q=>∃p xs i v,x=.ref p/\y=.int i/\SqT K H p xs/\atI xs i=some v/\Q v H
def qmK:R2:=λx y H Q=>∃z i c,x=.str z/\y=.int i/\z.length<=yap/\atI z.cps.toList i=some c/\Q (.str ⟨#[c]⟩) H
theorem qeV:IxR X (qlm X.K):=by
 intro value slice pins s σ H x y v u Q I rx ry h hs
 obtain⟨p,xs,i,z,rfl,rfl,hq,he,q⟩:=h
 cases rx
 obtain⟨t,rfl⟩:=ry
 obtain⟨its,r,pl,hz⟩:=I.list hq
 obtain⟨j,h1,h2,h3,h4,h5⟩:=qci he
 obtain⟨w,ew,rw'⟩:=r.get h2
 have hl:=r.length
 have hn:=qat
 have fin:EP X pins σ Q w s:=⟨z,H,I,rw',q⟩
 by_cases h0:0<=i
 ·have hj:i.toNat=j:=by
   rw[yft h0 h5]at h1
   exact yaA h1
  exact item_listR pl.isList h0 (by omega) (by rw[hj];simpa using ew) fin hs
 ·have hj:(i+(its.toArray.size:Int)).toNat=j:=by
   rw[ye0 (by omega) h4]at h1
   rw[sT_,<-hl]
   exact yaA h1
  exact yd7 (x:=w) pl.isList.typeIs slot_list_getitem.lookup
   (wpAny_getItem_list_neg (Q:=λr s'=>r=w/\EP X pins σ Q r s') pl.isList (by omega) (by rw[sT_]<;>omega) (by omega) (by rw[hj];simpa using ew) ⟨rfl,fin⟩) hs
theorem qlo:IxR X (qln X.K):=by
 intro value slice pins s σ H x y v u Q I rx ry h hs
 obtain⟨p,xs,i,z,rfl,rfl,hq,he,q⟩:=h
 cases rx
 obtain⟨t,rfl⟩:=ry
 obtain⟨its,r,pl,hz⟩:=I.tuple hq
 obtain⟨j,h1,h2,h3,h4,h5⟩:=qci he
 obtain⟨w,ew,rw'⟩:=r.get h2
 have hl:=r.length
 have hn:=qat
 have fin:EP X pins σ Q w s:=⟨z,H,I,rw',q⟩
 exact yd7 (x:=w) pl.typeIs slot_tuple_getitem.lookup
  (getItem_tuple (j:=j) (Q:=λr s'=>r=w/\EP X pins σ Q r s') pl (by omega) (by omega) (by rw[sT_,<-hl];exact h1) (by simpa using ew) ⟨rfl,fin⟩) hs
theorem qlp:IxR X qmK:=by
 intro value slice pins s σ H x y v u Q I rx ry h hs
 obtain⟨z,i,c,rfl,rfl,hz,he,q⟩:=h
 obtain⟨t,rfl⟩:=rx
 obtain⟨t',rfl⟩:=ry
 obtain⟨j,h1,h2,h3,h4,h5⟩:=qci he
 have hl:z.cps.toList.length=z.length:=by simp[Str.length]
 rw[hl]at h1 h4 h5
 have hn:=qat
 exact tail_any (ybX s z t) slot_str_getitem.lookup (getItem_str (c:=c) (by
  have e1:decide (i < -(2 ^ 63:Int))=false:=decide_eq_false (by omega)
  have e2:decide (i >= 2 ^ 63)=false:=decide_eq_false (by omega)
  rw[e1,e2,Bool.or_false]) (by rw[h1];simpa using h2) ⟨.str ⟨#[c]⟩,H,I.tok _,⟨_,rfl⟩,q⟩) hs
theorem qdX (its:List Value) (n j:Nat) (u:Value):ydC (·.setIfInBounds j u) {cls:=.type "list",data:=.seq its.toArray n}={cls:=.type "list",data:=.seq (its.set j u).toArray n}:=by
 simp[ydC]
theorem Inv.lst {pins:List (Addr×Obj)} {σ:St} {H:Hp} {s:yaa} {p:Addr} {xs:List V} (I:Inv X pins σ H s) (h:H p=some (.lst xs)) :
  ∃(its:List Value)(n:Nat),zk xs its/\s.heap.get? p=some {cls:=.type "list",data:=.seq its.toArray n}/\xs.length<=yap:=by
 obtain⟨z,its,n,r,e⟩:=I.hok p _ h
 exact⟨its,n,r,e,z⟩
theorem Inv.lstUpd {pins:List (Addr×Obj)} {σ:St} {H:Hp} {s:yaa} {p:Addr} {xs ys:List V} {its its':List Value} {n n':Nat} {f:Obj->Obj} (I:Inv X pins σ H s) (h:H p=some (.lst xs))
  (ho:s.heap.get? p=some {cls:=.type "list",data:=.seq its.toArray n}) (hf:f {cls:=.type "list",data:=.seq its.toArray n}={cls:=.type "list",data:=.seq its'.toArray n' }) (r:zk ys its') (hz:ys.length<=yap) (t:Nat) :
  Inv X pins σ (upd H p (.lst ys)) {s with heap:=s.heap.update p f,toks:=t}:=by
 have e:(s.heap.update p f).get? p=some {cls:=.type "list",data:=.seq its'.toArray n' }:=by
  rw[Heap.get?_update_self f ho (by rw[hf]<;>rfl),hf]
 refine I.write (x:=p) (e:=p) (by rw[h];trivial) (.inl rfl) (λb u hb q=>(Heap.get?_update_other _ _ (yaU hb)).trans q) ⟨_,e⟩ ?_
 exact⟨hz,its',n',r,e⟩
def qnh:V->V->V->Hp->(Hp->Prop)->Prop:=λo i v H Q=>∃p xs k j,o=.ref p/\i=.int k/\H p=some (.lst xs)/\ixN xs.length k=some j/\Q (upd H p (.lst (xs.set j v)))
theorem qaM:qnN X qnh:=by
 intro pins s σ H o i v ov iv u Q I ro ri rv h
 obtain⟨p,xs,k,j,rfl,rfl,hp,hj,q⟩:=h
 cases ro
 obtain⟨t,rfl⟩:=ri
 obtain⟨its,n,r,ho,hz⟩:=I.lst hp
 obtain⟨h1,h2,h3,h4⟩:=qeU hj
 have hl:=r.length
 have hn:=qat
 have I':Inv X pins σ (upd H p (.lst (xs.set j v))) {s with heap:=s.heap.update p (ydC (·.setIfInBounds j u))} :=
  I.lstUpd hp ho (qdX its n j u) (r.set rv j) (by rw[lS_];exact hz) s.toks
 by_cases h0:0<=k
 ·have hk:k.toNat=j:=by
   rw[yft h0 h4]at h1
   exact yaA h1
  exact PySem.W.ki_setAt ho h0 (by omega) (by rw[sT_,<-hl];exact h4) (by rw[hk];exact⟨_,I',q⟩)
 ·have hk:(k+(its.toArray.size:Int)).toNat=j:=by
   rw[ye0 (by omega) h3]at h1
   rw[sT_,<-hl]
   exact yaA h1
  exact PySem.W.ki_setBack ho (by omega) (by rw[sT_,<-hl];exact h3) (by omega) (by rw[hk];exact⟨_,I',q⟩)
theorem qbv (lo hi:Option Int) (n:Nat):(ycl lo hi none n).1=((HT.sIx n 0 lo:Nat):Int)/\(ycl lo hi none n).2.1=((HT.sIx n n hi:Nat):Int)/\(ycl lo hi none n).2.2=1:=by
 refine⟨?_,?_,rfl⟩
 ·cases lo with
  |none=>simp[ycl,HT.sIx]
  |some i=>
   simp only[ycl,HT.sIx,Option.getD_none,show(1:Int)>0 by decide,if_true]
   by_cases h:i<0
   ·simp only[h,if_true]<;>omega
   ·simp only[h,if_false]<;>omega
 ·cases hi with
  |none=>simp[ycl,HT.sIx]
  |some i=>
   simp only[ycl,HT.sIx,Option.getD_none,show(1:Int)>0 by decide,if_true]
   by_cases h:i<0
   ·simp only[h,if_true]<;>omega
   ·simp only[h,if_false]<;>omega
theorem qaN (its:List Value) (lo hi:Option Int):slicePick its.toArray lo hi none=((its.drop (HT.sIx its.length 0 lo)).take (HT.sIx its.length its.length hi-HT.sIx its.length 0 lo)).toArray:=by
 obtain⟨h1,h2,h3⟩:=qbv lo hi its.toArray.size
 unfold slicePick
 rw[h1,h2,h3]
 simp only[sliceRange_one,pick_run,sT_]<;>rfl
def qoo(K:yae):V->Option Int->Option Int->Hp->VK->Prop:=λx lo hi H Q=>∃a xs,x=.ref a/\SqL K H a xs/\∀p,H p=none->Q (.ref p) (upd H p (.lst (qgn xs lo hi)))
theorem qi1:SlR X (qoo X.K):=by
 intro pins s σ H x v vl vu lo hi sl Q I rx hs pl pu h
 obtain⟨a,xs,rfl,hx,q⟩:=h
 cases rx
 obtain⟨its,r,ht,hz⟩:=I.list hx
 have hlen:=r.length
 refine⟨"list",_,slot_list_getitem.lookup,ht.isList.typeIs,?_⟩
 refine wpAny_getItem_list_slice ht.isList hs pl pu .none (by simp) ?_ (by rw[sT_]<;>omega)
 rw[qaN,<-hlen]
 refine⟨.ref s.heap.objs.size,_,I.laid (t':=s.toks) (o:=.lst (qgn xs lo hi)) (λb ob q=>Heap.get?_push_of_some _ q) (yah _) ?_,rfl,q _ (I.hok.fresh (yah _))⟩
 exact⟨yaH (wQ xs lo hi) hz,_,0,(r.drop (HT.sIx xs.length 0 lo)).take (HT.sIx xs.length xs.length hi-HT.sIx xs.length 0 lo),Heap.get?_push_size _ rfl⟩
def wp:V->Bool
 |.non=>true
 |.bl _=>true
 |.int _=>true
 |.str _=>true
 |_=>false
def eqV:V->V->Bool
 |.non,.non=>true
 |.bl a,.bl b=>a==b
 |.bl a,.int b=>(if a then 1 else 0)==b
 |.int a,.bl b=>a==(if b then 1 else 0)
 |.int a,.int b=>a==b
 |.str a,.str b=>a==b
 |_,_=>false
theorem qlq {A:yaj} {s:yaa} {y x:V} {u v:Value} (ry:jh y u) (rx:jh x v) (fy:wp y=true) (fx:wp x=true):SeqAt.EqAt A s u v (eqV y x):=by
 cases y with
 |non=>
  cases ry
  cases x with
  |non=>cases rx;exact SeqAt.EqAt.same _
  |bl b=>cases rx;exact SeqAt.EqAt.none_bool b
  |int b=>obtain⟨t,rfl⟩:=rx;exact SeqAt.EqAt.none_int b t
  |str b=>obtain⟨t,rfl⟩:=rx;exact SeqAt.EqAt.none_str b t
  |_=>exact absurd (show false=true from fx) yao
 |bl a=>
  cases ry
  cases x with
  |non=>cases rx;exact SeqAt.EqAt.bool_none a
  |bl b=>cases rx;exact ycZ a b
  |int b=>obtain⟨t,rfl⟩:=rx;exact SeqAt.EqAt.bool_int a b t
  |str b=>obtain⟨t,rfl⟩:=rx;exact SeqAt.EqAt.bool_str a b t
  |_=>exact absurd (show false=true from fx) yao
 |int a=>
  obtain⟨t',rfl⟩:=ry
  cases x with
  |non=>cases rx;exact SeqAt.EqAt.int_none a t'
  |bl b=>cases rx;exact SeqAt.EqAt.int_bool a t' b
  |int b=>obtain⟨t,rfl⟩:=rx;exact SeqAt.EqAt.int_int a t' b t
  |str b=>obtain⟨t,rfl⟩:=rx;exact yeP a t' b t
  |_=>exact absurd (show false=true from fx) yao
 |str a=>
  obtain⟨t',rfl⟩:=ry
  cases x with
  |non=>cases rx;exact SeqAt.EqAt.str_none a t'
  |bl b=>cases rx;exact SeqAt.EqAt.str_bool a t' b
  |int b=>obtain⟨t,rfl⟩:=rx;exact yeQ a t' b t
  |str b=>obtain⟨t,rfl⟩:=rx;exact SeqAt.EqAt.str_str a t' b t
  |_=>exact absurd (show false=true from fx) yao
 |_=>exact absurd (show false=true from fy) yao
def eqU (x:V) (u:Value):Bool:=match u with
 |.none=>eqV .non x
 |.bool b=>eqV (.bl b) x
 |.int i _=>eqV (.int i) x
 |.str z _=>eqV (.str z) x
 |_=>false
theorem qhT {x y:V} {u:Value} (r:jh y u) (f:wp y=true):eqU x u=eqV y x:=by
 cases y with
 |non=>cases r;rfl
 |bl b=>cases r;rfl
 |int i=>obtain⟨t,rfl⟩:=r;rfl
 |str z=>obtain⟨t,rfl⟩:=r;rfl
 |_=>exact absurd (show false=true from f) yao
theorem qck {x:V}:∀{xs:List V}{us:List Value},zk xs us->xs.all wp=true->us.any (eqU x)=xs.any λy=>eqV y x
 |_,_,.nil,_=>rfl
 |y::xs,u::us,.cons r t,f=>by
  rw[yds,yad]at f
  rw[List.any_cons,List.any_cons,qhT r f.1,qck t f.2]
theorem qaO {A:yaj} {s:yaa} {x:V} {v:Value} (rx:jh x v) (fx:wp x=true):∀{xs:List V}{us:List Value},zk xs us->xs.all wp=true->∀u∈us,SeqAt.EqAt A s u v (eqU x u)
 |_,_,.nil,_=>λu hu=>by cases hu
 |y::xs,u::us,.cons r t,f=>λu' hu=>by
  rw[yds,yad]at f
  rcases List.mem_cons.mp hu with rfl|hu
  ·rw[qhT r f.1];exact qlq r rx f.1 fx
  ·exact qaO rx fx t f.2 u' hu
def inV(x:V)(xs:List V):Bool:=xs.any λy=>eqV y x
def rIn(K:yae)(neg:Bool):R2:=λx y H Q=>∃p xs,y=.ref p/\(SqL K H p xs\/SqT K H p xs)/\wp x=true/\xs.all wp=true/\Q (.bl (if neg then !inV x xs else inV x xs)) H
theorem qeW:OpR X (yaM .In) (rIn X.K false):=by
 intro pins s σ H x y v u Q I rx ry h
 obtain⟨p,xs,rfl,hq,fx,fs,q⟩:=h
 cases ry
 rcases hq with hq|hq
 ·obtain⟨its,r,pl,hz⟩:=I.list hq
  refine SeqAt.in_listAt (eqU x) pl.isList (λw hw=>qaO rx fx r fs w (by simpa using hw)) ⟨.bl _,H,I,rfl,?_⟩
  rw[show its.toArray.any (eqU x)=its.any (eqU x) by simp,qck r fs]
  exact q
 ·obtain⟨its,r,pl,hz⟩:=I.tuple hq
  refine SeqAt.in_tupleAt (eqU x) pl (λw hw=>qaO rx fx r fs w (by simpa using hw)) ⟨.bl _,H,I,rfl,?_⟩
  rw[show its.toArray.any (eqU x)=its.any (eqU x) by simp,qck r fs]
  exact q
theorem qbw:OpR X (yaM .NotIn) (λx y H Q=>∃i j,x=.str i/\y=.str j/\Q (.bl (!(!(yaE j i 0 j.length 1).isEmpty))) H):=by
 intro pins s σ H x y v u Q I rx ry h
 obtain⟨i,j,rfl,rfl,q⟩:=h
 obtain⟨t,rfl⟩:=rx
 obtain⟨t',rfl⟩:=ry
 exact notIn_str ⟨.bl _,H,I,rfl,q⟩
theorem qbx:jV X (.builtin "len") (λxs H Q=>∃p ys,xs=[.ref p]/\(SqL X.K H p ys\/SqT X.K H p ys)/\Q (.int ys.length) H):=by
 intro pins s σ H xs us Q I r h
 obtain⟨p,ys,rfl,hq,q⟩:=h
 obtain⟨u,rfl,rx⟩:=qbr r
 cases rx
 have hn:=qat
 rcases hq with hq|hq
 ·obtain⟨its,r',pl,hz⟩:=I.list hq
  have hlen:=r'.length
  exact Calls.call_len_list pl.isList (by simp only[sT_]<;>omega) ⟨.int ys.length,H,I.tok _,⟨s.toks+1,by rw[sT_,hlen]⟩,q⟩
 ·obtain⟨its,r',pl,hz⟩:=I.tuple hq
  have hlen:=r'.length
  exact len_tuple pl (by simp only[sT_]<;>omega) ⟨.int ys.length,H,I.tok _,⟨s.toks+1,by rw[sT_,hlen]⟩,q⟩
theorem qby:jV X (.builtin "len") (λxs H Q=>∃z,xs=[.str z]/\z.length<=yap/\Q (.int z.length) H):=by
 intro pins s σ H xs us Q I r h
 obtain⟨z,rfl,hz,q⟩:=h
 obtain⟨u,rfl,t,rfl⟩:=qbr r
 have hn:=qat
 exact len_str (by omega) ⟨.int z.length,H,I.tok _,⟨_,rfl⟩,q⟩
theorem jV.or {f:Value} {r r':List V->Hp->VK->Prop} (h:jV X f r) (h':jV X f r'):jV X f (λxs H Q=>r xs H Q\/r' xs H Q):=by
 intro pins s σ H xs us Q I rs q
 rcases q with q|q
 ·exact h pins s σ H xs us Q I rs q
 ·exact h' pins s σ H xs us Q I rs q
theorem qbz:jV X (.type "list") (λxs H Q=>∃p ys,xs=[.ref p]/\(SqL X.K H p ys\/SqT X.K H p ys)/\∀l,H l=none->Q (.ref l) (upd H l (.lst ys))):=by
 intro pins s σ H xs us Q I r h
 obtain⟨p,ys,rfl,hq,q⟩:=h
 obtain⟨u,rfl,rx⟩:=qbr r
 cases rx
 have fin:∀(its:List Value),zk ys its->ys.length<=yap->∀(h':Heap)(c':Nat),(∀b o',s.heap.get? b=some o'->h'.get? b=some o') ->
   h'.get? s.heap.objs.size=some {cls:=.type "list",dict:=none,data:=.seq its.toArray c',slots := #[]}->EP X pins σ Q (.ref s.heap.objs.size) {s with heap:=h' }:=λits r' hz h' c' kp e=>
  ⟨.ref s.heap.objs.size,_,I.laid (t':=s.toks) kp (yah _) (show jf X.prog X.w _ h' _ (.lst ys) from⟨hz,its,c',r',e⟩),rfl,q _ (I.hok.fresh (yah _))⟩
 rcases hq with hq|hq
 ·obtain⟨its,r',pl,hz⟩:=I.list hq
  have hlen:=r'.length
  obtain⟨o,ho,hc,n,hd⟩:=pl.isList
  exact call_list_seq p (.inl rfl) ho hc hd (λh' c' kp e=>fin its r' hz h' c' kp e) (by simp only[sT_]<;>omega)
 ·obtain⟨its,r',pl,hz⟩:=I.tuple hq
  have hlen:=r'.length
  obtain⟨o,ho,hc,n,hd⟩:=pl
  exact call_list_seq p (.inr rfl) ho hc hd (λh' c' kp e=>fin its r' hz h' c' kp e) (by simp only[sT_]<;>omega)
theorem qaP:jV X (.type "tuple") (λxs H Q=>∃p ys,xs=[.ref p]/\((SqL X.K H p ys/\∀l,H l=none->Q (.ref l) (upd H l (.tup ys)))\/(SqT X.K H p ys/\Q (.ref p) H))):=by
 intro pins s σ H xs us Q I r h
 obtain⟨p,ys,rfl,h⟩:=h
 obtain⟨u,rfl,rx⟩:=qbr r
 cases rx
 rcases h with⟨hq,q⟩|⟨hq,q⟩
 ·obtain ⟨its,r',pl,hz⟩:=I.list hq
  have hlen:=r'.length
  refine call_tuple_list pl.isList (λh' kp=>?_) (by simp only[sT_]<;>omega)
  have I1:Inv X pins σ H {s with heap:=h' }:=I.kept (t':=s.toks) kp
  have I2:Inv X pins σ (upd H h'.objs.size (.tup ys)) {s with heap:=h'.push {cls:=.type "tuple",data:=.seq its.toArray} } :=
   I1.laid (t':=s.toks) (λb o e=>Heap.get?_push_of_some _ e) (yah _) (show jf X.prog X.w _ _ _ (.tup ys) from⟨hz,its,r',yde _ _⟩)
  exact⟨.ref h'.objs.size,_,I2,rfl,q _ (I1.hok.fresh (yah _))⟩
 ·obtain⟨its,r',pl,hz⟩:=I.tuple hq
  exact call_tuple_same pl ⟨.ref p,H,I,rfl,q⟩
def tyV (K:yae) (T:String) (x:V) (H:Hp):Prop:=match x with
 |.str _=>T="str"
 |.int _=>T="int"
 | .ref p=>(T="list"/\∃xs,SqL K H p xs)\/(T="tuple"/\∃o,K.lookup p=some o/\o.cls=.type "tuple"/\o.dict=none) \/
   (T="dict"/\((∃kvs,H p=some (.dK kvs))\/∃kvs,H p=some (.dT kvs)))\/(T="set"/\∃S n,H p=some (.set S n))
 |_=>False
theorem qlr {pins:List (Addr×Obj)} {σ:St} {H:Hp} {s:yaa} {T:String} {x:V} {v:Value} (I:Inv X pins σ H s) (r:jh x v) (ty:tyV X.K T x H) :
  s.TypeIs v T/\∀a,v=.ref a->∃ob,s.heap.get? a=some ob/\ob.dict=none:=by
 cases x with
 |str z=>
  obtain⟨t,rfl⟩:=r
  cases (show T="str" from ty)
  exact⟨ybX s z t,λ_ e=>nomatch e⟩
 |int i=>
  obtain⟨t,rfl⟩:=r
  cases (show T="int" from ty)
  exact⟨ydD s i t,λ_ e=>nomatch e⟩
 | ref p=>
  cases r
  rcases ty with⟨rfl,xs,hq⟩|⟨rfl,o,hk,hc,hd⟩|⟨rfl,hk⟩|⟨rfl,S,n,hk⟩
  ·obtain⟨its,_,pl,_⟩:=I.list hq
   refine⟨pl.isList.typeIs,λa e=>?_⟩
   cases e
   obtain⟨o,n,e,c,hd,_⟩:=pl
   exact⟨o,e,hd⟩
  ·refine⟨⟨o,I.kIn p o hk,hc⟩,λa e=>?_⟩
   cases e
   exact⟨o,I.kIn _ o hk,hd⟩
  ·have z:∃o,s.heap.get? p=some o/\o.ExactDict:=by
    rcases hk with⟨kvs,hk⟩|⟨kvs,hk⟩
    ·obtain⟨_,_,_,_,o,_,_,e,ex,_⟩:=I.hok p _ hk
     exact⟨o,e,ex⟩
    ·obtain⟨_,_,_,_,o,_,_,e,ex,_⟩:=I.hok p _ hk
     exact⟨o,e,ex⟩
   obtain⟨o,e,ex⟩:=z
   refine⟨⟨o,e,ex.1⟩,λa e2=>?_⟩
   cases e2
   exact⟨o,e,ex.2.1⟩
  ·obtain⟨o,_,_,_,e,ex,_⟩:=I.hok p _ hk
   refine⟨⟨o,e,ex.1⟩,λa e2=>?_⟩
   cases e2
   exact⟨o,e,ex.2.1⟩
 |_=>exact yaR ty
def tBM(K:yae)(T:String)(r:V->List V->Hp->VK->Prop)(to:TE)(t:TA):TE:=λσ H Q=>to σ H λx H1=>tyV K T x H1/\t σ H1 λxs H2=>r x xs H2 Q
variable{o e:Expr}{es:List Expr}{to:TE}{t:TA}{name:Str}{apos cpos:Pos}{T id:String}{r:V->List V->Hp->VK->Prop}
theorem qi2 (pa:PlainAttrs T) (slot:Slot T name id) (hty:ye1 (.builtin id)=pure (.type "method_descriptor")) (hm:MtR X id r) (ho:PE X o to) (ha:PA X (e::es) t)
  (hbase:ybq o name X.env (eval o X.env)=eval o X.env:=by rfl)
  (hfew:((yaz cpos (yac (e::es) X.env)).all (λx => !x.1)&&(ycK cpos (yb2 [] X.env)).all (λx=>x.1.isSome)
   && decide ((e::es).length+([]:List ybQ).length+(if([]:List ybQ).isEmpty then 0 else 1)<30))=true:=by rfl)
  (hline:(apos.endLine==cpos.line)=true:=by rfl) (hs:yac (e::es) X.env=(false,eval e X.env)::yac es X.env:=by rfl) (hplain:(yaz cpos (yac es X.env)).any (·.1)=false:=by rfl) :
  PE X (.Call (.Attribute o name apos) (e::es) [] cpos) (tBM X.K T r to t):=by
 intro pins s σ H Q I h
 refine yd8 hbase hfew hline rfl (thn (ho pins s σ H _ I h) λv s1 ⟨x,H1,I1,r1,ty,q1⟩=>?_)
 obtain⟨h1,h2⟩:=qlr I1 r1 ty
 refine⟨T,id,pa,slot,hty,h1,h2,?_⟩
 have hA:=ha cpos pins s1 σ H1 _ I1 q1
 rw[hs]at hA |-
 refine ycF (by show(false||(yaz cpos (yac es X.env)).any (·.1))=false;rw[hplain]<;>rfl) (ybH ?_)
 exact thn hA λus s2 ⟨vs,H2,I2,r2,q2⟩=>hm pins s2 σ H2 x vs v us Q I2 r1 r2 q2
/- xs.append(e),list.index on a module's tuple .. are MtR facts of 06m -/
end
end L2
namespace L2
open PySem PySem.Spec PyProof.Rows
def MtM (X:Cx) (id:String) (r:V->List V->Hp->VK->Prop):Prop :=
 ∀ (pins:List (Addr×Obj)) (s:yaa) (σ:St) (H:Hp) (x:V) (xs:List V) (v:Value) (us:List Value) (Q:VK),Inv X pins σ H s->jh x v->zk xs us->r x xs H Q ->
  wpAny (model X.prog X.w) X.A (call (.builtin id) (v::us)) (EP X pins σ Q) X.xe s
theorem zk.one:∀{x:V}{us:List Value},zk [x] us->∃u,us=[u]/\jh x u
 |_,_,.cons r .nil=>⟨_,rfl,r⟩
theorem zk.two:∀{x y:V}{us:List Value},zk [x,y] us->∃u v,us=[u,v]/\jh x u/\jh y v
 |_,_,_,.cons r (.cons q .nil)=>⟨_,_,rfl,r,q⟩
theorem zk.rep {xs:List V} {us:List Value} (h:zk xs us):∀k:Nat,zk (yan k xs).flatten (yan k us).flatten
 |0 => .nil
 |k+1=>by
  rw[rS_,rS_,ybE,ybE]
  exact zk.append h (zk.rep h k)
theorem wR (its:List Value):∀(k:Nat)(acc:List Value),
  yez (λx1 x2=>x1++x2) acc.toArray (yan k its.toArray)=(acc++(yan k its).flatten).toArray
 |0,acc=>by simp
 | k+1,acc=>by
  have e:acc.toArray++its.toArray=(acc++its).toArray:=by simp
  have e2:(acc++its)++(yan k its).flatten=acc++(yan (k+1) its).flatten:=by
   rw[rS_,ybE,aA_]
  rw[<-e2,<-wR its k (acc++its),<-e,rS_,ydZ]
section
variable{X:Cx}{pins:List (Addr×Obj)}{σ:St}{H:Hp}{s:yaa}{l b:Addr}{xs ys zs:List V}
theorem Inv.lset {its its':List Value} {n:Nat} {f:Array Value->Array Value} {t':Nat} (I:Inv X pins σ H s) (hH:H l=some (.lst xs))
  (e:s.heap.get? l=some {cls:=.type "list",data:=.seq its.toArray n}) (hf:f its.toArray=its'.toArray) (hv:zk ys its') (hz:ys.length<=yap) :
  Inv X pins σ (upd H l (.lst ys)) {s with heap:=s.heap.update l (ydC f),toks:=t' }:=by
 have q:=PySem.IsL.update e f
 rw[hf]at q
 refine I.write (x:=l) (e:=l) (by rw[hH];exact trivial) (.inl rfl) (λb' u hb hu=>(Heap.get?_update_other s.heap (ydC f) (yaU hb)).trans hu) ⟨_,q⟩ ?_
 exact⟨hz,its',_,hv,q⟩
theorem Inv.lnew {its:List Value} {t':Nat} (I:Inv X pins σ H s) (hv:zk ys its) (hz:ys.length<=yap) :
  Inv X pins σ (upd H s.heap.objs.size (.lst ys)) {s with heap:=s.heap.push {cls:=.type "list",data:=.seq its.toArray},toks:=t' } :=
 I.laid (λ_ _ q=>Heap.get?_push_of_some _ q) (yah _) ⟨hz,its,0,hv,Heap.get?_push_size _ rfl⟩
theorem Inv.fresh(I:Inv X pins σ H s):H s.heap.objs.size=none:=I.hok.fresh (yah _)
theorem Inv.lstM (I:Inv X pins σ H s) (hH:H l=some (.lst xs)):xs.length<=yap/\∃(its:List Value)(n:Nat),zk xs its/\xs.length=its.length/\s.heap.get? l=some {cls:=.type "list",data:=.seq its.toArray n}:=by
 obtain⟨z,its,n,r,e⟩:=I.hok l _ hH
 exact⟨z,its,n,r,r.length,e⟩
theorem qcY {n:Nat} (h:n<=yap):ybN n=false:=by
 unfold ybN
 exact decide_eq_false (by omega)
end
section
variable{X:Cx}
def qi3:V->List V->Hp->VK->Prop:=λx vs H Q=>∃l xs y,x=.ref l/\vs=[y]/\H l=some (.lst xs)/\xs.length<yap/\Q .non (upd H l (.lst (xs++[y])))
theorem qbA:MtM X "list.append" qi3:=by
 intro pins s σ H x vs v us Q I rx rv h
 obtain⟨l,xs,y,rfl,rfl,hH,hz,q⟩:=h
 cases rx
 obtain⟨u,rfl,ru⟩:=rv.one
 obtain⟨z,its,n,r,hl,e⟩:=I.lstM hH
 refine ybi F.slot_list_append ⟨_,e,rfl⟩ F.entry_list_append (F.args_list_append_2 _ _) (PySem.list_append l its.toArray n u (by rw[sT_];omega)) ⟨e,?_⟩
 refine⟨.non,_,I.lset (its':=its++[u]) hH e (by simp) (r.append (.cons ru .nil)) ?_,rfl,q⟩
 rw[lA_,yaC]
 omega
def qi4:V->List V->Hp->VK->Prop:=λx vs H Q=>∃l b xs zs,x=.ref l/\vs=[.ref b]/\H l=some (.lst xs)/\H b=some (.lst zs)/\xs.length+zs.length<=yap/\Q .non (upd H l (.lst (xs++zs)))
theorem qls:MtM X "list.extend" qi4:=by
 intro pins s σ H x vs v us Q I rx rv h
 obtain⟨l,b,xs,zs,rfl,rfl,hH,hB,hz,q⟩:=h
 cases rx
 obtain⟨u,rfl,ru⟩:=rv.one
 cases ru
 obtain⟨z,its,n,r,hl,e⟩:=I.lstM hH
 obtain⟨z2,its2,n2,r2,hl2,e2⟩:=I.lstM hB
 have hsz:its.toArray.size+its2.toArray.size<=yap:=by rw[sT_,sT_];omega
 have hlong:¬(!its.toArray.isEmpty&&ybN (its.toArray.size+its2.toArray.size))=true:=by
  rw[qcY hsz,yem]
  exact yao
 refine ybi F.slot_list_extend ⟨_,e,rfl⟩ F.entry_list_extend (F.args_list_extend_2 _ _)
  (AutoSeq1.list_extend_list_list_0 l its.toArray n b its2.toArray n2 hlong (by rw[sT_];omega) (by omega)) ⟨e,e2,?_⟩
 refine⟨.non,_,I.lset (its':=its++its2) hH e (by simp) (r.append r2) ?_,rfl,q⟩
 rw[lA_]
 omega
def qnU:R2:=λx y H Q=>∃l b xs zs,x=.ref l/\y=.ref b/\H l=some (.lst xs)/\H b=some (.lst zs)/\xs.length+zs.length<=yap/\∀p,H p=none->Q (.ref p) (upd H p (.lst (xs++zs)))
theorem qlt:OpR X (ya9 .Add) qnU:=by
 intro pins s σ H x y v u Q I rx ry h
 obtain⟨l,b,xs,zs,rfl,rfl,hH,hB,hz,q⟩:=h
 cases rx
 cases ry
 obtain⟨z,its,n,r,hl,e⟩:=I.lstM hH
 obtain⟨z2,its2,n2,r2,hl2,e2⟩:=I.lstM hB
 refine PySem.P.add_list e e2 ?_ (by rw[sT_,sT_];omega)
 have ea:its.toArray++its2.toArray=(its++its2).toArray:=by simp
 rw[ea]
 exact⟨.ref _,_,I.lnew (t':=s.toks) (r.append r2) (by rw[lA_];omega),rfl,q _ I.fresh⟩
def qnV:R2:=λx y H Q=>∃l k xs,x=.ref l/\y=.int k/\H l=some (.lst xs) /\ -(2 ^ 63)<=k/\k<2 ^ 63/\xs.length*k.toNat<=yap /\
 ∀p,H p=none->Q (.ref p) (upd H p (.lst (yan k.toNat xs).flatten))
theorem qcl {α:Type} (xs:List α) (k:Nat):(yan k xs).flatten.length=k*xs.length:=by
 induction k with
 |zero=>simp
 |succ k ih=>rw[rS_,ybE,lA_,ih,yc0,Nat.add_comm]
theorem qlu:OpR X (ya9 .Mult) qnV:=by
 intro pins s σ H x y v u Q I rx ry h
 obtain⟨l,k,xs,rfl,rfl,hH,h1,h2,hz,q⟩:=h
 cases rx
 obtain⟨t,rfl⟩:=ry
 obtain⟨z,its,n,r,hl,e⟩:=I.lstM hH
 have hlen:its.toArray.size*k.toNat<=yap:=by rw[sT_,<-hl];exact hz
 have hcap:¬its.toArray.size*k.toNat>(2 ^ 63-1)/8:=by
  have:(yap:Nat)<=(2 ^ 63-1)/8:=by decide
  omega
 have hfit:¬(!Builtin.List.listFitsIndex k)=true:=by
  rw[fitsIndex_both h1 h2]
  exact yao
 have hlong:¬ybN (its.toArray.size*k.toNat)=true:=by
  rw[qcY hlen]
  exact yao
 have hnew:yez (λx1 x2=>x1++x2) #[] (yan (if its.toArray.isEmpty=true then 0 else k.toNat) its.toArray)=(yan k.toNat its).flatten.toArray:=by
  have f0:∀m:Nat,yez (λx1 x2=>x1++x2) #[] (yan m its.toArray)=(yan m its).flatten.toArray:=λm=>by
   have:=wR its m []
   rw[ybY]at this
   exact this
  rw[f0]
  cases its with
  |nil=>simp
  |cons a r'=>rw[if_neg (by simp)]
 refine ydE (T:="list") (U:="int") (by decide) ⟨_,e,rfl⟩ (λs'=>ydD s' k t) noFill_list_mul F.fills_int_mul yc1 repeat_list F.slot_int_index.lookup
  (ybi yc1 (ydD s k t) F.entry_int_rmul (yfm _ _) (int___rmul___int_list k t l its.toArray n)
   ⟨e,rfl,⟨_,e,rfl⟩,ybi F.slot_list_mul ⟨_,e,rfl⟩ F.entry_list_mul (F.args_list_mul_2 _ _) (AutoListH.list___mul___list_int_3 l its.toArray n k t hfit hcap hlong) ⟨e,?_⟩⟩)
 rw[hnew]
 exact⟨.ref _,_,I.lnew (t':=s.toks) (r.rep k.toNat) (by rw[qcl,ydN];exact hz),rfl,q _ I.fresh⟩
end
section
variable{prog:yai}{w:World}{A:yaj}{E:Value->yaa->Prop}{s:yaa}
set_option maxRecDepth 100000 in
end
end L2
namespace Att
open PySem PySem.W PySem.Calls PyProof.Rows
theorem wS {P:Params} {h:Heap}:∀(ns:List Int)(vs:List Value),WellAll P h vs (ns.map WData.int)->yfe vs ns:=by
 intro ns
 induction ns with
 |nil=>
  intro vs w
  rw[ydO]at w
  cases w
  exact .nil
 | cons n ns ih=>
  intro vs w
  rw[mC_]at w
  cases w with
  |cons a b=>
   cases a
   exact .cons _ _ (ih _ b)
theorem qeX {l:OpenLaw} {n:Nat} (hn:l.most=some n) {P:Params} {h:Heap} {args:List WData} {vals:List Value}
  (hpre:l.row.toRowW.claim.pre args=true) (hwl:WellAll P h vals args) :
  ∃a vs ns,vals=[yam a]/\args=[WData.list (ns.map WData.int)]/\h.get? a=some {cls:=.type "list",data:=.seq vs.toArray}/\yfe vs ns/\ns.length<=n:=by
 have hsh:WShape.hasAll [] args [.list .int]=true:=(pre_splitW hpre).1
 have hc:l.pre.holds [] {args:=args}=true:=(pre_splitW hpre).2
 obtain⟨d,r,rfl,h1,h2⟩:=hasAllW_cons hsh
 obtain rfl:=hasAllW_nil h2
 obtain⟨xs,rfl,h3⟩:=hasW_list h1
 obtain⟨ns,rfl⟩:=items_int h3
 have hlen:ns.length<=n:=by
  unfold OpenLaw.pre at hc
  have h4:(WTm.not (.lt (.lit (.int (n:Int))) (.len (.arg 0)))).holds [] {args:=[.list (ns.map .int)]}=true:=by
   have h4:=(holds_andW hc).1
   rw[hn]at h4
   exact h4
  have h5:=condW_of h4 (w_not (w_lt w_lit (w_len_list (w_arg rfl))))
  rw[lM_]at h5
  refine ycL λq=>?_
  have q':(n:Int)<((ns.length:Nat):Int):=by omega
  first
   |(rw[decide_eq_true q']at h5;exact absurd h5 (by decide))
   |(simp at h5;omega)
 cases hwl with
 |cons w1 w2=>
  cases w2
  cases w1 with
  |list ho hall=>exact⟨_,_,ns,rfl,rfl,ho,wS ns _ hall,hlen⟩
theorem qeY (l:OpenLaw) (args:List WData):l.row.toRowW.claim.post args (.bool true) args=true :=
 postW_of (r:=l.row.toRowW) (X:=(true==true))
  (show WShape.has [] (.bool true) .bool=true by first|rfl|decide|simp[WShape.has,WShape.arms,WShape.armsAll])
  (show(WTm.eq .res (.lit (.bool true))).value [] {args:=args,res:=some (.bool true),after:=args}=some (.bool (true==true))from w_eq_bool (w_res rfl) w_lit) rfl
theorem attach_call {l:OpenLaw} {n:Nat} {q:yai} {loose:List Str} {XP:(Str->Option Value)->Heap->Prop} {YP:World->Heap->Prop} {d:DefRec}
  (hn:l.most=some n) (hdf:d.params.defaults=[])
  (call:∀(w:World)(s₀ sY:yaa)(mg mb:Str->Option Value)(fa:Addr)(o:Obj)(pm cd doc:Value)(a:Addr)(vs:List Value)(ns:List Int),
   Ground q loose [] XP w s₀ mg mb sY.heap->YP w sY.heap ->
   sY.heap.get? fa=some o->o.data=.func (docDef d.name d.params d.body d.scope pm cd doc)->sY.heap.CodeRec cd d.name->mg d.name=some (.ref fa) ->
   sY.heap.get? a=some {cls:=.type "list",data:=.seq vs.toArray}->yfe vs ns->ns.length<=n->sY.gens = #[] ->
   yb6 (model l.prog w) ydK (.call (.ref fa) ⟨[.ref a],[]⟩) (λr s'=>r=.ok (.ret (.bool true))/\OldK sY.heap s'.heap/\s'.os=sY.os/\ybO s'.gens) sY) :
  WalkO q loose XP YP l.row.toRowW d [] (λf vs=>yfC f vs):=by
 intro w s₀ sY mg mb G Y fa o pm cd doc dV kV ho hd hcd hD hmg hg args vals as hpre hlay hrd hwl hlo
 obtain rfl:dV=.none:=Dflts.none hD hdf
 obtain rfl:kV=.none:=Dflts.noKw hD
 obtain⟨a,vs,ns,rfl,rfl,hobj,hints,hlen⟩:=qeX hn hpre hwl
 refine enter_call (ycW (call w s₀ sY mg mb fa o pm cd doc a vs ns G Y ho (fd_plain hd) hcd hmg hobj hints hlen hg) λr s' hq=>?_)
 obtain⟨rfl,h2,h3,h4⟩:=hq
 exact⟨.inl ⟨.bool true,.bool true,[],rfl,λ_=>rfl,.bool true,qeY l _,λ_=>⟨List.Pairwise.nil,λ_ hm=>(nomatch hm)⟩⟩,h2,h3,h4⟩
end Att
namespace L2
open PySem PySem.Spec PyProof.Rows
theorem qbB:∀{vs:List Value}{ns:List Int},yfe vs ns->zk (ns.map V.int) vs
 |_,_,.nil => .nil
 |_,_,.cons n t h => .cons ⟨t,rfl⟩ (qbB h)
def qmL(H:Hp):Prop:=∀b,H b=none\/(∃o xs,H b=some (.frz o (.lst xs)))\/∃pos q,H b=some (.lam pos q)
def qmM:Option (Addr×Addr×Pos×Str)->Hp
 |some (_,Pt,pos,q)=>λb=>if b=Pt then some (.lam pos q)else none
 |none=>λ_=>none
theorem qgH {P:yai} {w:World} {K:yae} {mg mb:Str->Option Value} {CX:CXT} {k:Nat} {fa a:Addr} {fd:yaD} {x:Str} {sp:Sp} {sY:yaa} {vs:List Value} {ns:List Int} {lm:Option (Addr×Addr×Pos×Str)}
  (KX:K.In sY.heap) (hns:sY.heap.Ns yaf mg) (hb:sY.heap.Ns ybU mb) (hbb:∀x:Str,x≠"__name__"->mb x=yay x) (hlim:sY.heap.NoLimit)
  (hbm:∃bm ob,mg "__builtins__"=some (.ref bm)/\bm≠ybU/\sY.heap.get? bm=some ob/\ob.cls=.type "module"/\ob.dict=some ybU/\ob.data=.plain)
  (hlm:∀c Pt pos q,lm=some (c,Pt,pos,q)->yen sY.heap c Pt/\sY.heap.get? Pt=some (yeo #[])/\K.lookup Pt=none)
  (hg:sY.gens = #[])
  (ha:sY.heap.get? a=some {cls:=.type "list",data:=.seq vs.toArray}) (hi:yfe vs ns) (hl:ns.length<=yap) (hr:yv k ydK)
  (F:∀base:Heap,K.In base->base.Ns yaf mg->uY P w K mg base CX k fa fd [x] sp) (hbind:∀(s:yaa)(u:Value),ydJ s fd ⟨[u],[]⟩ [(x,u)])
  (hsp:∀H:Hp,qmL H->(∀c Pt pos q,lm=some (c,Pt,pos,q)->H Pt=some (.lam pos q))->SqL K H a (ns.map V.int)->sp [.ref a] H (λv _=>v=.bl true) λ_ _ _=>False)
  (hCX:∀H e s',CX [] H sY (λ_ _ _=>False) e s'->False) :
  yb6 (model P w) ydK (.call (.ref fa) ⟨[.ref a],[]⟩) (λr s'=>r=.ok (.ret (.bool true))/\OldK sY.heap s'.heap/\s'.os=sY.os/\ybO s'.gens) sY:=by
 have rv:=qbB hi
 have lenV:=hi.length
 have core:∀H:Hp,qmL H->(∀c Pt pos q,lm=some (c,Pt,pos,q)->H Pt=some (.lam pos q))->SqL K H a (ns.map V.int)->HOk P w H sY.heap ->
   (∀b u,H b=some u->K.lookup b=none/\((∃o xs,u=.frz o (.lst xs))\/∃c pos q,lm=some (c,b,pos,q)/\u=.lam pos q)) ->
   yb6 (model P w) ydK (.call (.ref fa) ⟨[.ref a],[]⟩) (λr s'=>r=.ok (.ret (.bool true))/\OldK sY.heap s'.heap/\s'.os=sY.os/\ybO s'.gens) sY:=by
  intro H hO hT hS hok hA
  have base_of:∀{b:Addr}{o:Obj},sY.heap.get? b=some o->H b=none->(qgw sY.heap H).get? b=some o:=λe n=>qgx e n
  have noD:∀{b:Addr}{o:Obj},sY.heap.get? b=some o->(∀its n,o.data ≠ .seq its n)->(∀f,o.data ≠ .fields f)->H b=none:=λ{b o} e d1 d2=>by
   cases q:H b with
   |none=>rfl
   | some u=>
    rcases(hA b u q).2 with⟨ob,xs,rfl⟩|⟨c,pos,q',hl2,rfl⟩
    ·obtain⟨e1,_,its,n,_,e2⟩:=hok b _ q
     rw[e]at e2;cases e2
     exact(d1 _ _ rfl).elim
    ·have e2:=(hlm _ _ _ _ hl2).2.1
     rw[e]at e2;cases e2
     exact(d2 _ rfl).elim
  have nsK:∀{b:Addr}{m:Str->Option Value},sY.heap.Ns b m->(qgw sY.heap H).Ns b m:=λ{b m} ⟨o,es,ep,e,d,r⟩=>⟨o,es,ep,base_of e (noD e (λ_ _ z=>by rw[d]at z;cases z) λ_ z=>by rw[d]at z;cases z),d,r⟩
  have hKb:K.In (qgw sY.heap H):=λb o e=>base_of (KX b o e) (by
   cases q:H b with
   |none=>rfl
   |some u=>rw[(hA b u q).1]at e;cases e)
  have hM:Mod K mg (qgw sY.heap H):=⟨hKb,nsK hns,⟨mb,nsK hb,hbb⟩,let ⟨mc,h1,h2⟩:=hlim;⟨mc,nsK h1,h2⟩,
   let ⟨bm,ob,b1,b2,b3,b4,b5,b6⟩:=hbm;⟨bm,ob,b1,b2,base_of b3 (noD b3 (λ_ _ z=>by rw[b6]at z;cases z) λ_ z=>by rw[b6]at z;cases z),b4,b5,b6⟩⟩
  have e0:qgF P w K mg (qgw sY.heap H) ydK [] sY H:=⟨rfl,hM,λb o e=>qiN e,Nat.le_of_eq (qey _ _),trivial,λb hb=>absurd (show b∈([]:List Addr)from hb) (by simp),hok,.of_eq hg⟩
  refine ycW ((F _ hKb (nsK hns)).run ydK [] sY H ⟨[.ref a],[]⟩ [.ref a] [.ref a] _ _ hr e0 (hbind sY (.ref a)) (.cons rfl .nil) (hsp H hO hT hS)) λr s' h=>?_
  cases r with
  |error e=>exact(hCX H e s' h).elim
  | ok fl=>
   cases fl with
   |next=>exact yaR h
   |brk=>exact yaR h
   |cont=>exact yaR h
   | ret u=>
    obtain⟨v,H',os,bare,un,hok',r',q⟩:=h
    have q':v=.bl true:=q
    subst q'
    obtain rfl:u=ybc true:=r'
    have asIt:∀b o,sY.heap.get? b=some o->asItWas sY.heap s'.heap b o:=λb o e=>by
     cases q:H b with
     |none=>exact .inl (un.keep b o e q (by intro z;exact absurd (show b∈([]:List Addr)from z) (by simp)) (by simp))
     | some u=>
      rcases(hA b u q).2 with⟨ob,xs,rfl⟩|⟨c,pos,q2,hl2,rfl⟩
      ·have z2:=un.frzs b ob _ q
       obtain⟨e1,_⟩:=hok b _ q
       obtain⟨e2,_⟩:=hok' b _ z2
       rw[e]at e1;cases e1
       exact .inl e2
      ·obtain⟨hc,e2,_⟩:=hlm _ _ _ _ hl2
       rw[e]at e2;cases e2
       rcases hok' b _ (un.tbls b pos q2 q)with z|⟨c',oc,vs',t,_,_,_,z⟩
       ·exact .inl z
       ·exact .inr (.inl ⟨(hc.tab e).isCodeTable,rfl,#[],_,rfl,by rw[Array.empty_append];exact z⟩)
    exact⟨rfl,⟨asIt,λb o e=>un.there b o e (by simp)⟩,os,bare⟩
 let T:Hp:=qmM lm
 have hTb:∀b u,T b=some u->∃c pos q,lm=some (c,b,pos,q)/\u=.lam pos q:=λb u z=>by
  cases hq:lm with
  |none=>simp only[T,hq,qmM]at z;cases z
  | some p=>
   obtain⟨c,Pt,pos,q⟩:=p
   simp only[T,hq,qmM]at z
   by_cases hbp:b=Pt
   ·rw[if_pos hbp]at z;cases z
    exact⟨c,pos,q,by rw[hbp],rfl⟩
   ·rw[if_neg hbp]at z;cases z
 have hTa:T a=none:=by
  cases q:T a with
  |none=>rfl
  |some u=>
   obtain⟨c,pos,q2,hl2,_⟩:=hTb a u q
   have:=(hlm _ _ _ _ hl2).2.1
   rw[ha]at this;cases this
 have hTt:∀c Pt pos q,lm=some (c,Pt,pos,q)->T Pt=some (.lam pos q):=λc Pt pos q e=>by
  simp only[T,e,qmM,if_true]
 cases hk:K.lookup a with
 | some o=>
  have e:=KX a o hk
  rw[ha]at e
  cases e
  refine core T (λb=>?_) hTt (.inr ⟨_,vs.toArray,_,hk,rfl,rfl,rfl,by rw[sT_,lenV];exact hl,by simpa using rv⟩) (λb u z=>?_) (λb u z=>?_)
  ·cases q:T b with
   |none=>exact .inl rfl
   |some u=>obtain⟨_,pos,q2,_,rfl⟩:=hTb b u q;exact .inr (.inr ⟨pos,q2,rfl⟩)
  ·obtain⟨c,pos,q2,hl2,rfl⟩:=hTb b u z
   exact .inl (hlm _ _ _ _ hl2).2.1
  ·obtain⟨c,pos,q2,hl2,rfl⟩:=hTb b u z
   exact⟨(hlm _ _ _ _ hl2).2.2,.inr ⟨c,pos,q2,hl2,rfl⟩⟩
 | none=>
  refine core (upd T a (.frz {cls:=.type "list",data:=.seq vs.toArray} (.lst (ns.map V.int)))) (λb=>?_) (λc Pt pos q e=>?_) (.inl (.inr ⟨{cls:=.type "list",data:=.seq vs.toArray},qm⟩)) (λb u z=>?_) (λb u z=>?_)
  ·by_cases hb:b=a
   ·subst hb;exact .inr (.inl ⟨_,_,qm⟩)
   ·rw[qu hb]
    cases q:T b with
    |none=>exact .inl rfl
    |some u=>obtain⟨_,pos,q2,_,rfl⟩:=hTb b u q;exact .inr (.inr ⟨pos,q2,rfl⟩)
  ·have h1:=hTt c Pt pos q e
   rw[qu (qL h1 hTa)]
   exact h1
  ·by_cases hb:b=a
   ·subst hb
    rw[qm]at z;cases z
    exact⟨ha,by rw[lM_];exact hl,vs,_,rv,ha⟩
   ·rw[qu hb]at z
    obtain⟨c,pos,q2,hl2,rfl⟩:=hTb b u z
    exact .inl (hlm _ _ _ _ hl2).2.1
  ·by_cases hb:b=a
   ·subst hb
    rw[qm]at z;cases z
    exact⟨hk,.inl ⟨_,_,rfl⟩⟩
   ·rw[qu hb]at z
    obtain⟨c,pos,q2,hl2,rfl⟩:=hTb b u z
    exact⟨(hlm _ _ _ _ hl2).2.2,.inr ⟨c,pos,q2,hl2,rfl⟩⟩
end L2
namespace L2
open PySem PySem.Spec PyProof.Rows
end L2
/- THE LAST THEOREM (shape;LID,My.* are yours):
   My.Adr: a structure of the addresses that your layer names (classes,functions);My.Txt K t: a structure (Prop) of the equations over K;
   My.txt_mk:{K} {implicit addresses ..} (e1:nsIn K yaf "law"=some (some (.ref f))) (e2:K.lookup f=some ⟨oc,od,.func (fnOf "law" "law" params body scope dV kV doc pm an cdv ct),sl⟩) (e3:codeIn K cdv "law"=true) .. : ∃t,My.Txt K t
set_option maxRecDepth 100000 in
set_option maxHeartbeats 0 in
theorem PySem.Challenge.cw_LID_holds : PySem.Challenge.rw_LID.Holds := by
 w_on;o_law;k_head;(case hw=>w_witness2)
 k_fill
 refine L2.walk_of (l:=PySem.Challenge.rw_LID) (n:=63) (k:=40) (x:="script") (CX:=λw => ..) (sp:=λ_=>My.sp_law) rfl (by decide) rfl ⟨rfl,by decide,by decide⟩ (λw h Y=>PySem.W.kIn_of Y) ?F ?S ?C
 case F=>
  intro w mg fa h KX G hmg
  have T:∃t,My.Txt (L2.KOf KX) t:=by
   dsimp only[L2.KOf]                          -- K must stand as «<heap const> w.params» for k_is
   refine' My.txt_mk ?e1 ?e2 ?e3 ..
   (case e1=>PySem.W.k_is)                    -- in the order: a name->its address->its object->its parts
   (case e2=>PySem.W.k_is)
   ..
  obtain⟨t,T⟩:=T
  have e0:=hmg.symm.trans (yav KX G T.law)
  cases e0                                       -- fa is the law's own address
  exact⟨_,λs u => .of_eq rfl,λbase kb nb=>My.law_fn T kb nb⟩     -- if «.of_eq rfl» comes too early: refine' ⟨_,?b,λbase kb nb=>My.law_fn T kb nb⟩;exact λs u => .of_eq rfl
 case S=>exact λw H a ns hl hO hS => ..
 case C=>exact ..
(the tactic k_is has no namespace: write k_is) -/
namespace L2
open PySem PySem.Spec PyProof.Rows
def qi5 (s:Stmt) (j:Nat):Stmt:=match s with
 |.ClassDef _ _ _ body _ _ _ _ _ _ _=>body.getD j (.Pass ⟨0,0,0,0⟩)
 |_ => .Pass ⟨0,0,0,0⟩
def qN (s:Stmt):ydY:=match s with
 |.FunctionDef _ a _ _ _ _ _ _ _ _=>a
 |_=>{posonlyargs:=[],args:=[],vararg:=none,kwonlyargs:=[],kw_defaults:=[],kwarg:=none,defaults:=[]}
def qE (s:Stmt):List Stmt:=match s with
 |.FunctionDef _ _ b _ _ _ _ _ _ _=>b
 |_=>[]
def qh (s:Stmt):Scope:=match s with
 |.FunctionDef _ _ _ _ _ _ sc _ _ _=>sc
 |_=>{kind:=.function,names:=[],isGenerator:=false,isCoroutine:=false}
abbrev CX0:CXT:=λ_ _ _ _ _ _=>False
abbrev E0:XK:=λ_ _ _=>False
theorem qi6{X:Cx}:wL CX0 X E0:=λ_ _ _ _ _ _ _ h=>h.elim
structure Fun (K:yae) (x qual:Str) (st:Stmt) (f:Addr) (fd:yaD):Prop where
 ex:∃(oc:Value)(od:Option Addr)(kV doc pm:Value)(an:Option Addr)(cdv ct:Value)(osl:Array (Option Value)),
  fd=yau x qual (qN st) (qE st) (qh st) .none kV doc pm an cdv ct/\K.lookup f=some ⟨oc,od,.func fd,osl⟩/\yas K cdv qual=true
 kp:yal K (.ref f)=true
section
variable{P:yai}{w:World}{K:yae}{mg:Str->Option Value}{base:Heap}
theorem Fun.ok {x qual:Str} {st:Stmt} {f:Addr} {fd:yaD} {N ps:List Str} {k:Nat} {sp:Sp} (F:Fun K x qual st f fd) (S:qF N ps (qh st)) (len:∀vs H Q E,sp vs H Q E->vs.length=ps.length)
  (hbody:∀(cdv:Value)(A:yaj)(outer:List Env)(s:yaa)(H:Hp)(vs:List V)(Q:VK)(E:XK),yv k (A.deeper (yaW qual (qh st) s.heap.objs.size f cdv))->sp vs H Q E ->
   ∃t,PSs (qch CX0 P w K mg base N qual (qh st) f cdv A outer s H E).nox (qE st) t/\t {nx:=λ_ H'=>Q .non H',rt:=Q} (zV N vs) H):uY P w K mg base CX0 (k+1) f fd ps sp:=by
 obtain⟨oc,od,kV,doc,pm,an,cdv,ct,osl,rfl,lk,hcd⟩:=F.ex
 refine qlh lk hcd S len λA outer s H vs Q E hr hsp=>?_
 obtain⟨t,h,q⟩:=hbody cdv A outer s H vs Q E hr hsp
 exact⟨t,h.nox,q⟩
theorem Fun.binds {x qual:Str} {st:Stmt} {f:Addr} {fd:yaD} {ps:List Str} (F:Fun K x qual st f fd)
  (h:∀(kV doc pm:Value)(an:Option Addr)(cdv ct:Value)(us:List Value),us.length=ps.length->bindArgs (yau x qual (qN st) (qE st) (qh st) .none kV doc pm an cdv ct) ⟨us,[]⟩=pure (ps.zip us)):yT K fd ps []:=by
 obtain⟨oc,od,kV,doc,pm,an,cdv,ct,osl,rfl,lk,hcd⟩:=F.ex
 exact .all (h kV doc pm an cdv ct)
theorem zy {x qual:Str} {st:Stmt} {f:Addr} {oc:Value} {od an:Option Addr} {osl:Array (Option Value)} {kV doc pm cdv ct:Value} (l:K.lookup f=some ⟨oc,od,.func (yau x qual (qN st) (qE st) (qh st) .none kV doc pm an cdv ct),osl⟩)
  (c:yas K cdv qual=true) (k:yal K (.ref f)=true):Fun K x qual st f (yau x qual (qN st) (qE st) (qh st) .none kV doc pm an cdv ct):=⟨⟨oc,od,kV,doc,pm,an,cdv,ct,osl,rfl,l,c⟩,k⟩
end
section
variable{X:Cx}
theorem pv (i:Nat) {x:Str} {pos:Pos} (hN:X.N[i]? = some x:=by rfl) (hv:Vis X.env.scope x:=by first|exact ya0 rfl|exact yaJ (ya0 rfl)|exact yaJ (yaJ rfl)) (hd:(x==("__debug__":Str))=false:=by decide)
  (hcd:(x==("__classdict__":Str))=false:=by decide):PE X (.Name x pos) (qgy i):=yI hN hv hd hcd
end
theorem qkF {A B:Prop} (h:B):if false=true then A else B:=by
 rw[if_neg yao]
 exact h
theorem qkG {A B:Prop} (h:A):if true=true then A else B:=by
 rw[if_pos rfl]
 exact h
def zX(H H':Hp):Prop:=∀b o,H b=some o->H' b=some o
theorem zX.refl(H:Hp):zX H H:=λ_ _ h=>h
theorem zX.free {H H':Hp} (e:zX H H') {l:Addr} (h:H' l=Option.none):H l=Option.none:=by
 cases q:H l with
 |none=>rfl
 |some o=>
  rw[e l o q]at h
  cases h
end L2
namespace L2.Sk
open PySem PySem.Spec PyProof.Rows
inductive D where
 |non|bl (b:Bool)|int (i:Int)|str (x:Str)|tup (xs:List D)|lst (xs:List D)|dic (kvs:List (Key×Int))|fz (ns:List Int)
 |exc (n:Str)
 |exv (n:Str) (k:Int)
abbrev OD:=Option D
abbrev Fr0:=yae
def qlv:FuncBody->Option Pos
 |.stmts [_,_,.Return (some (.Call _ _ [⟨_,.Lambda _ _ _ pos,_⟩] _)) _]=>some pos
 |_=>none
def lamOf (K:Fr0):Option (Addr×Addr×Pos):=match PySem.W.tabIn K "dearest_first",yak K yaf "dearest_first" with
 |some (c,P),some (some (.ref f))=>(match K.lookup f with
  |some ⟨_,_,.func fd,_⟩=>(qlv fd.body).map λpos=>(c,P,pos)
  |_=>none)
 |_,_=>none
abbrev qni:Str:="dearest_first.<locals>.<lambda>"
def qnW(K:Fr0)(H:Hp)(Io:Addr->Prop):Prop:=∀c P pos,lamOf K=some (c,P,pos)->H P=some (.lam pos qni)/\¬Io P
abbrev qaQ(K:Fr0)(H:Hp):Prop:=qnW K H λ_=>False
theorem qaQ.same{K:Fr0}{H H':Hp}(h:qaQ K H)(s:zX H H'):qaQ K H':=λc P pos e=>⟨s _ _ (h c P pos e).1,λz=>z⟩
structure XK6 (K:Fr0) (D:Addr):Prop where
 ga:yb5 K (.ref D) "__getattribute__"=some (some (.builtin "BaseException.__getattribute__"))
 gt:yb5 K (.ref D) "__getattr__"=some none
 cl:yb5 K (.ref D) "__class__"=some (some (.builtin "object.__class__"))
 ob:PySem.W.mroIn K D (.type "object")=some true
 be:PySem.W.subIn K (.ref D) (.type "BaseException")=some true
 is:(PySem.W.clsIn K D).isSome=true
 no:∀T∈["int","bool","str","tuple","list","dict"],yek K (.ref D) (.type T)=some false
def jq (K:Fr0) (n:Str):Option Addr:=match yak K yaf n with
 |some (some (.ref C))=>some C
 |_=>none
def clR(K:Fr0)(RN:List Str)(n:Str):Option Addr:=if RN.contains n then jq K n else none
theorem v4 {K:Fr0} {RN:List Str} {n:Str} {C:Addr} (h:clR K RN n=some C):RN.contains n=true/\jq K n=some C:=by
 unfold clR at h
 split at h
 ·rename_i hn;exact⟨hn,h⟩
 ·cases h
def qnX(K:Fr0)(H:Hp)(a:Addr)(n:Str):Prop:=∃C,jq K n=some C/\XK6 K C/\∃o vs,H a=some (.frz o (.own a))/\o.cls=.ref C/\o.data=.fields vs
def qmN(K:Fr0)(H:Hp)(a:Addr)(n:Str)(k:Int):Prop:=∃C,jq K n=some C/\XK6 K C/\∃o vs,H a=some (.frz o (.own a))/\(o.cls=.ref C/\o.data=.fields vs)/\∃dx od,o.dict=some dx/\H dx=some (.frz od (.xd [("at",.int k)]))
theorem qmN.xc {K:Fr0} {H:Hp} {a:Addr} {n:Str} {k:Int} (h:qmN K H a n k):qnX K H a n:=by
 obtain⟨C,hc,hk,o,vs,h,r,_⟩:=h
 exact⟨C,hc,hk,o,vs,h,r⟩
def qao (K:Fr0) (H:Hp) (a:Addr) (xs:List V):Prop :=
 H a=some (.tup xs)\/∃(o:Obj)(its:Array Value)(n:Nat),K.lookup a=some o/\o.cls=.type "tuple"/\o.data=.seq its n/\its.size<=yap/\zk xs its.toList
def qlw (K:Fr0) (H:Hp) (a:Addr) (xs:List V):Prop :=
 (∃o,H a=some (.frz o (.lst xs)))\/∃(o:Obj)(its:Array Value)(n:Nat),K.lookup a=some o/\o.cls=.type "list"/\o.dict=none/\o.data=.seq its n/\its.size<=yap/\zk xs its.toList
theorem qao.sq {K:Fr0} {H:Hp} {a:Addr} {xs:List V} (h:qao K H a xs):SqT K H a xs:=by
 rcases h with h|h
 ·exact .inl (.inl h)
 ·exact .inr h
theorem qlw.sq {K:Fr0} {H:Hp} {a:Addr} {xs:List V} (h:qlw K H a xs):SqL K H a xs:=by
 rcases h with h|h
 ·exact .inl (.inr h)
 ·exact .inr h
mutual
def Is (K:Fr0) (A:Addr->Prop) (H:Hp):D->V->Prop
 |.non,v=>v=.non
 |.bl b,v=>v=.bl b
 |.int i,v=>v=.int i
 |.str x,v=>v=.str x
 |.tup ds,v=>∃a xs,v=.ref a/\qao K H a xs/\IsL K A H ds xs
 |.lst ds,v=>∃a xs,v=.ref a/\A a/\H a=some (.lst xs)/\IsL K A H ds xs
 |.dic kvs,v=>∃a,v=.ref a/\A a/\H a=some (.dK (kvs.map λp=>(p.1,V.int p.2)))
 |.fz ns,v=>∃a,v=.ref a/\qlw K H a (ns.map V.int)
 |.exc n,v=>∃a,v=.ref a/\qnX K H a n
 |.exv n k,v=>∃a,v=.ref a/\qmN K H a n k
def IsL (K:Fr0) (A:Addr->Prop) (H:Hp):List D->List V->Prop
 | [],xs=>xs=[]
 |d::ds,xs=>∃x ys,xs=x::ys/\Is K A H d x/\IsL K A H ds ys
end
mutual
def imm:D->Bool
 |.tup ds=>immL ds
 |.lst _=>false
 |.dic _=>false
 |.fz _=>false
 |_=>true
def immL:List D->Bool
 | []=>true
 |d::ds=>imm d&&immL ds
end
structure Ext (A:Addr->Prop) (H H':Hp):Prop where
 tup:∀b xs,H b=some (.tup xs)->H' b=some (.tup xs)
 frz:∀b o u,H b=some (.frz o u)->H' b=some (.frz o u)
 at_:∀b o,A b->H b=some o->H' b=some o
theorem Ext.refl{A:Addr->Prop}{H:Hp}:Ext A H H:=⟨λ_ _ h=>h,λ_ _ _ h=>h,λ_ _ _ h=>h⟩
theorem Ext.of_same{A:Addr->Prop}{H H':Hp}(s:zX H H'):Ext A H H':=⟨λb xs h=>s b _ h,λb o u h=>s b _ h,λb o _ h=>s b o h⟩
mutual
theorem Is.ext {K:Fr0} {A B:Addr->Prop} {H H':Hp} (e:Ext A H H') (hAB:∀a,A a->(H a).isSome=true->B a):∀{d:D}{v:V},Is K A H d v->Is K B H' d v
 |.non,_,h=>h
 |.bl _,_,h=>h
 |.int _,_,h=>h
 |.str _,_,h=>h
 |.tup ds,_,⟨a,xs,hv,h,r⟩=>⟨a,xs,hv,h.elim (λh => .inl (e.tup _ _ h)) .inr,IsL.ext e hAB r⟩
 |.lst ds,_,⟨a,xs,hv,hA,h,r⟩=>⟨a,xs,hv,hAB a hA (by rw[h];rfl),e.at_ _ _ hA h,IsL.ext e hAB r⟩
 |.dic kvs,_,⟨a,hv,hA,h⟩=>⟨a,hv,hAB a hA (by rw[h];rfl),e.at_ _ _ hA h⟩
 |.fz ns,_,⟨a,hv,h⟩=>⟨a,hv,h.elim (λ⟨o,h⟩ => .inl ⟨o,e.frz _ _ _ h⟩) .inr⟩
 |.exc n,_,⟨a,hv,C,hc,hk,o,vs,h,r⟩=>⟨a,hv,C,hc,hk,o,vs,e.frz _ _ _ h,r⟩
 |.exv n k,_,⟨a,hv,C,hc,hk,o,vs,h,r,dx,od,h1,h2⟩=>⟨a,hv,C,hc,hk,o,vs,e.frz _ _ _ h,r,dx,od,h1,e.frz _ _ _ h2⟩
theorem IsL.ext {K:Fr0} {A B:Addr->Prop} {H H':Hp} (e:Ext A H H') (hAB:∀a,A a->(H a).isSome=true->B a):∀{ds:List D}{xs:List V},IsL K A H ds xs->IsL K B H' ds xs
 | [],_,h=>h
 |_::_,_,⟨x,ys,hx,h,r⟩=>⟨x,ys,hx,Is.ext e hAB h,IsL.ext e hAB r⟩
end
mutual
theorem Is.imm {K:Fr0} {A B:Addr->Prop} {H:Hp}:∀{d:D}{v:V},imm d=true->Is K A H d v->Is K B H d v
 |.non,_,_,h=>h
 |.bl _,_,_,h=>h
 |.int _,_,_,h=>h
 |.str _,_,_,h=>h
 |.tup ds,_,i,⟨a,xs,hv,h,r⟩=>⟨a,xs,hv,h,IsL.imm (by simpa [Sk.imm] using i) r⟩
 |.lst _,_,i,_=>by simp[Sk.imm]at i
 |.dic _,_,i,_=>by simp[Sk.imm]at i
 |.fz _,_,i,_=>by simp[Sk.imm]at i
 |.exc _,_,_,h=>h
 |.exv _ _,_,_,h=>h
theorem IsL.imm {K:Fr0} {A B:Addr->Prop} {H:Hp}:∀{ds:List D}{xs:List V},immL ds=true->IsL K A H ds xs->IsL K B H ds xs
 | [],_,_,h=>h
 |d::ds,_,i,⟨x,ys,hx,h,r⟩=>by
  have i':Sk.imm d=true/\immL ds=true:=by simpa [immL] using i
  exact⟨x,ys,hx,Is.imm i'.1 h,IsL.imm i'.2 r⟩
end
theorem IsL.length {K:Fr0} {A:Addr->Prop} {H:Hp}:∀{ds:List D}{xs:List V},IsL K A H ds xs->xs.length=ds.length
 | [],_,h=>by rw[h];rfl
 |_::_,_,⟨x,ys,hx,_,r⟩=>by rw[hx,lC_,lC_,IsL.length r]
theorem IsL.get {K:Fr0} {A:Addr->Prop} {H:Hp}:∀{ds:List D}{xs:List V}{i:Nat}{d:D},IsL K A H ds xs->ds[i]? = some d->∃x,xs[i]? = some x/\Is K A H d x
 | [],_,_,_,_,h=>by simp at h
 |e::_,_,0,d,⟨x,ys,hx,h,r⟩,hd=>by
  have e1:e=d:=by simpa using hd
  subst e1
  exact⟨x,by rw[hx];rfl,h⟩
 |_::ds,_,i+1,d,⟨x,ys,hx,h,r⟩,hd=>by
  obtain⟨y,h1,h2⟩:=IsL.get (i:=i) (d:=d) r (by simpa using hd)
  exact⟨y,by rw[hx];simpa using h1,h2⟩
theorem IsL.append {K:Fr0} {A:Addr->Prop} {H:Hp}:∀{ds es:List D}{xs ys:List V},IsL K A H ds xs->IsL K A H es ys->IsL K A H (ds++es) (xs++ys)
 | [],_,_,_,h,g=>by rw[h];exact g
 |_::_,_,_,_,⟨x,zs,hx,h,r⟩,g=>⟨x,zs++_,by rw[hx];rfl,h,IsL.append r g⟩
theorem IsL.take {K:Fr0} {A:Addr->Prop} {H:Hp}:∀{ds:List D}{xs:List V}(n:Nat),IsL K A H ds xs->IsL K A H (ds.take n) (xs.take n)
 |_,_,0,_=>by simp[IsL]
 | [],_,_+1,h=>by rw[h];simp[IsL]
 |_::_,_,n+1,⟨x,ys,hx,h,r⟩=>by rw[hx];exact⟨x,ys.take n,rfl,h,IsL.take n r⟩
theorem IsL.drop {K:Fr0} {A:Addr->Prop} {H:Hp}:∀{ds:List D}{xs:List V}(n:Nat),IsL K A H ds xs->IsL K A H (ds.drop n) (xs.drop n)
 |_,_,0,h=>h
 | [],_,_+1,h=>by rw[h];simp[IsL]
 |_::_,_,n+1,⟨x,ys,hx,h,r⟩=>by rw[hx];exact IsL.drop n r
theorem IsL.one{K:Fr0}{A:Addr->Prop}{H:Hp}{d:D}{v:V}(h:Is K A H d v):IsL K A H [d] [v]:=⟨v,[],rfl,h,rfl⟩
theorem IsL.set {K:Fr0} {A:Addr->Prop} {H:Hp} {d:D} {v:V} (hd:Is K A H d v):∀{ds:List D}{xs:List V}(n:Nat),IsL K A H ds xs->IsL K A H (ds.set n d) (xs.set n v)
 | [],_,_,h=>by rw[h];simp[IsL]
 |_::_,_,0,⟨x,ys,hx,h,r⟩=>by rw[hx];exact⟨v,ys,rfl,hd,r⟩
 |_::_,_,n+1,⟨x,ys,hx,h,r⟩=>by rw[hx];exact⟨x,ys.set n v,rfl,h,IsL.set hd n r⟩
abbrev Env:=List (OD)
structure Exn where
 cls:Str
 val:D
inductive R (α:Type) where
 |ok (a:α)|exc (x:Exn) (Z:Env)|bad
structure Fc where
 O:List Nat
 P:List Nat
 B:Addr->Prop
 H0:Hp
 Io:Addr->Prop
 E:Exn->Hp->Prop
 S:Nat->Option (Option V)
 J:List Nat:=[]
def Cl(O:List Nat)(σ:St)(a:Addr):Prop:=∀j∈O,σ[j]? ≠ some (some (.ref a))
def Cn(c:Fc)(σ:St)(a:Addr):Prop:=c.B a/\Cl c.O σ a
inductive Tg where
 |l|d (C dx l:Addr)
def lab:Tg×List V->HO
 |(.l,xs) => .lst xs
 |(.d C dx l,xs) => .dsk C dx l xs
def qdY (K:Fr0) (J:List Nat) (i:Nat) (t:Tg) (d:D) (ds:List D):Prop:=match t with
 |.l=>d=.lst ds
 |.d C _ _=>d=.tup ds/\i∈J/\jq K "Desk"=some C/\immL ds=true
theorem qeZ {p:Tg×List V} {xs:List V}:lab p ≠ .tup xs:=by
 obtain⟨t,ys⟩:=p
 cases t<;>(intro h;cases h)
theorem qe0 {p:Tg×List V} {o:Obj} {u:HO}:lab p ≠ .frz o u:=by
 obtain⟨t,ys⟩:=p
 cases t<;>(intro h;cases h)
theorem qi7 {p:Tg×List V} {o:Pos} {u:Str}:lab p ≠ .lam o u:=by
 obtain⟨t,ys⟩:=p
 cases t<;>(intro h;cases h)
structure Rep (K:Fr0) (c:Fc) (Z:Env) (σ:St) (H:Hp):Prop where
 len:Z.length=σ.length
 val:∀i d,Z[i]? = some (some d)->∃v,σ[i]? = some (some v) /\
  ((i∈c.O/\∃(ds:List D)(a:Addr)(xs:Tg×List V),qdY K c.J i xs.1 d ds/\v=.ref a/\H a=some (lab xs)/\IsL K (Cn c σ) H ds xs.2)\/(i ∉ c.O/\Is K (Cn c σ) H d v))
 own:∀j∈c.O,∀v,σ[j]? = some (some v)->∃a xs,v=.ref a/\H a=some (lab xs)/\(c.H0 a=none\/(j∈c.P/\c.Io a))
 inj:∀i j a,i∈c.O->j∈c.O->σ[i]? = some (some (.ref a))->σ[j]? = some (some (.ref a))->i=j
 b0:(∀a,c.H0 a=none->c.B a)/\qnW K c.H0 c.Io
 kp:∀b o,c.H0 b=some o->¬c.Io b->H b=some o
 dm:∀b,H b=none->c.H0 b=none
 pO:∀j∈c.P,j∈c.O
 ps:∀j∈c.P,σ[j]? = c.S j
theorem Rep.tb{K:Fr0}{c:Fc}{Z:Env}{σ:St}{H:Hp}(r:Rep K c Z σ H):qaQ K H:=λq P pos e=>⟨r.kp P _ (r.b0.2 q P pos e).1 (r.b0.2 q P pos e).2,λz=>z⟩
structure Gr (O:List Nat) (σ:St) (H H':Hp):Prop where
 ext:Ext (Cl O σ) H H'
 dom:∀b,H' b=none->H b=none
theorem Gr.refl{O:List Nat}{σ:St}{H:Hp}:Gr O σ H H:=⟨Ext.refl,λ_ h=>h⟩
theorem Gr.of_same{O:List Nat}{σ:St}{H H':Hp}(s:zX H H'):Gr O σ H H':=⟨Ext.of_same s,λ_ h=>s.free h⟩
theorem Gr.trans {O:List Nat} {σ:St} {H H1 H2:Hp} (a:Gr O σ H H1) (b:Gr O σ H1 H2):Gr O σ H H2 :=
 ⟨⟨λc xs h=>b.ext.tup c xs (a.ext.tup c xs h),λc o u h=>b.ext.frz c o u (a.ext.frz c o u h),λc o hc h=>b.ext.at_ c o hc (a.ext.at_ c o hc h)⟩,λc h=>a.dom c (b.dom c h)⟩
theorem Gr.cn{c:Fc}{σ:St}{H H':Hp}(g:Gr c.O σ H H'):Ext (Cn c σ) H H':=⟨g.ext.tup,g.ext.frz,λb o hb h=>g.ext.at_ b o hb.2 h⟩
theorem Gr.is{K:Fr0}{c:Fc}{σ:St}{H H':Hp}{d:D}{v:V}(g:Gr c.O σ H H')(h:Is K (Cn c σ) H d v):Is K (Cn c σ) H' d v:=Is.ext g.cn (λ_ h _=>h) h
theorem Gr.isL{K:Fr0}{c:Fc}{σ:St}{H H':Hp}{d:List D}{v:List V}(g:Gr c.O σ H H')(h:IsL K (Cn c σ) H d v):IsL K (Cn c σ) H' d v:=IsL.ext g.cn (λ_ h _=>h) h
theorem Rep.new {K:Fr0} {c:Fc} {Z:Env} {σ:St} {H:Hp} (r:Rep K c Z σ H) {a:Addr} (h:H a=none):Cn c σ a :=
 ⟨r.b0.1 a (r.dm a h),λj hj e=>by obtain⟨b,xs,e1,e2,_⟩:=r.own j hj _ e;cases e1;rw[h]at e2;cases e2⟩
theorem Rep.same {K:Fr0} {c:Fc} {Z:Env} {σ:St} {H H':Hp} (r:Rep K c Z σ H) (s:zX H H'):Rep K c Z σ H' where
 len:=r.len
 val:=λi d h=>by
  obtain⟨v,h1,h2⟩:=r.val i d h
  refine⟨v,h1,?_⟩
  rcases h2 with⟨hi,ds,a,xs,h3,h5,h6,h7⟩|⟨hi,h3⟩
  ·exact .inl ⟨hi,ds,a,xs,h3,h5,s _ _ h6,IsL.ext (Ext.of_same s) (λ_ h _=>h) h7⟩
  ·exact .inr ⟨hi,Is.ext (Ext.of_same s) (λ_ h _=>h) h3⟩
 own:=λj hj v h=>by
  obtain⟨a,xs,h1,h2,h3⟩:=r.own j hj v h
  exact⟨a,xs,h1,s _ _ h2,h3⟩
 inj:=r.inj
 b0:=r.b0
 kp:=λb o h1 h2=>s _ _ (r.kp b o h1 h2)
 dm:=λb h=>r.dm b (s.free h)
 pO:=r.pO
 ps:=r.ps
theorem Rep.get {K:Fr0} {c:Fc} {Z:Env} {σ:St} {H:Hp} (r:Rep K c Z σ H) {i:Nat} {d:D} (hi:i ∉ c.O) (h:Z[i]? = some (some d)):∃v,σ[i]? = some (some v)/\Is K (Cn c σ) H d v:=by
 obtain⟨v,h1,h2⟩:=r.val i d h
 rcases h2 with⟨h3,_⟩|⟨_,h3⟩
 ·exact absurd h3 hi
 ·exact⟨v,h1,h3⟩
theorem Rep.getO {K:Fr0} {c:Fc} {Z:Env} {σ:St} {H:Hp} (r:Rep K c Z σ H) {i:Nat} {d:D} (hi:i∈c.O) (h:Z[i]? = some (some d)) :
  ∃(ds:List D)(a:Addr)(xs:Tg×List V),qdY K c.J i xs.1 d ds/\σ[i]? = some (some (.ref a))/\H a=some (lab xs)/\IsL K (Cn c σ) H ds xs.2:=by
 obtain⟨v,h1,h2⟩:=r.val i d h
 rcases h2 with⟨_,ds,a,xs,h3,h5,h6,h7⟩|⟨h3,_⟩
 ·subst h5;exact⟨ds,a,xs,h3,h1,h6,h7⟩
 ·exact absurd hi h3
theorem qlx {K:Fr0} {J:List Nat} {i:Nat} {t:Tg} {es ds:List D} (h:qdY K J i t (.lst es) ds):t=.l/\es=ds:=by
 cases t with
 |l=>cases (show D.lst es=.lst ds from h);exact⟨rfl,rfl⟩
 |d C dx l=>cases (show D.lst es=.tup ds/\_ from h).1
theorem Rep.getOL {K:Fr0} {c:Fc} {Z:Env} {σ:St} {H:Hp} (r:Rep K c Z σ H) {i:Nat} {es:List D} (hi:i∈c.O) (h:Z[i]? = some (some (.lst es))) :
  ∃ds a xs,D.lst es=.lst ds/\σ[i]? = some (some (.ref a))/\H a=some (.lst xs)/\IsL K (Cn c σ) H ds xs:=by
 obtain⟨ds,a,⟨t,xs⟩,h1,h2,h3,h4⟩:=r.getO hi h
 obtain⟨e1,e2⟩:=qlx h1
 cases e1;cases e2
 exact⟨es,a,xs,rfl,h2,h3,h4⟩
abbrev M(α:Type):=Env->R (α×Env)
def Wp (K:Fr0) (c:Fc) (σ:St) (H:Hp) (Q:VK):R (D×Env)->Prop
 |.ok (d,Z)=>∀v H',Rep K c Z σ H'->Is K (Cn c σ) H' d v->Gr c.O σ H H'->Q v H'
 |.exc x Z=>∀H',Rep K c Z σ H'->Gr c.O σ H H'->c.E x H'
 |.bad=>False
def WpB (K:Fr0) (c:Fc) (σ:St) (H:Hp) (Q:Bool->Hp->Prop):R (Bool×Env)->Prop
 |.ok (b,Z)=>∀H',Rep K c Z σ H'->Gr c.O σ H H'->Q b H'
 |.exc x Z=>∀H',Rep K c Z σ H'->Gr c.O σ H H'->c.E x H'
 |.bad=>False
def WpL (K:Fr0) (c:Fc) (σ:St) (H:Hp) (Q:List V->Hp->Prop):R (List D×Env)->Prop
 |.ok (ds,Z)=>∀vs H',Rep K c Z σ H'->IsL K (Cn c σ) H' ds vs->Gr c.O σ H H'->Q vs H'
 |.exc x Z=>∀H',Rep K c Z σ H'->Gr c.O σ H H'->c.E x H'
 |.bad=>False
def DE(X:Cx)(c:Fc)(e:Expr)(f:M D):Prop:=∃t,PE X e t/\∀Z σ H Q,Rep X.K c Z σ H->Wp X.K c σ H Q (f Z)->t σ H Q
def DT(X:Cx)(c:Fc)(e:Expr)(f:M Bool):Prop:=∃t,PT X e t/\∀Z σ H Q,Rep X.K c Z σ H->WpB X.K c σ H Q (f Z)->t σ H Q
def DA(X:Cx)(c:Fc)(es:List Expr)(f:M (List D)):Prop:=∃t,PA X es t/\∀Z σ H Q,Rep X.K c Z σ H->WpL X.K c σ H Q (f Z)->t σ H Q
def ret{α:Type}(a:α):M α:=λZ => .ok (a,Z)
def bnd {α β:Type} (f:M α) (k:α->M β):M β:=λZ=>match f Z with
 |.ok (a,Z')=>k a Z'
 |.exc x Z' => .exc x Z'
 |.bad => .bad
def lift {α:Type}:Option α->M α
 |some a=>ret a
 |none=>λ_ => .bad
theorem qcZ{α β:Type}{f:M α}{k:α->M β}{Z Z':Env}{a:α}(h:f Z=.ok (a,Z')):bnd f k Z=k a Z':=by unfold bnd;rw[h]
section
variable{K:Fr0}{c:Fc}{σ:St}{H H1:Hp}{Q:VK}{QB:Bool->Hp->Prop}{QL:List V->Hp->Prop}{r:R (D×Env)}
theorem Wp.gr:∀{r:R (D×Env)},Wp K c σ H Q r->Gr c.O σ H H1->Wp K c σ H1 Q r
 |.ok (d,Z),h,g=>λv H' hr hi hg=>h v H' hr hi (g.trans hg)
 |.exc x Z,h,g=>λH' hr hg=>h H' hr (g.trans hg)
 |.bad,h,_=>h
theorem WpB.gr:∀{r:R (Bool×Env)},WpB K c σ H QB r->Gr c.O σ H H1->WpB K c σ H1 QB r
 |.ok (d,Z),h,g=>λH' hr hg=>h H' hr (g.trans hg)
 |.exc x Z,h,g=>λH' hr hg=>h H' hr (g.trans hg)
 |.bad,h,_=>h
theorem WpL.gr:∀{r:R (List D×Env)},WpL K c σ H QL r->Gr c.O σ H H1->WpL K c σ H1 QL r
 |.ok (d,Z),h,g=>λv H' hr hi hg=>h v H' hr hi (g.trans hg)
 |.exc x Z,h,g=>λH' hr hg=>h H' hr (g.trans hg)
 |.bad,h,_=>h
theorem Wp.bnd {f:M D} {k:D->M D} {Z:Env} {Q':VK} (h:Wp K c σ H Q (bnd f k Z)) (hQ:∀d Z' v H',Rep K c Z' σ H'->Is K (Cn c σ) H' d v->Gr c.O σ H H'->Wp K c σ H' Q (k d Z')->Q' v H'):Wp K c σ H Q' (f Z):=by
 unfold Sk.bnd at h
 cases e:f Z with
 |ok p=>rw[e]at h;exact λv H' hr hi hg=>hQ p.1 p.2 v H' hr hi hg (h.gr hg)
 |exc x Z'=>rw[e]at h;exact h
 |bad=>rw[e]at h;exact h
theorem Wp.bndB {f:M D} {k:D->M Bool} {Z:Env} {Q':VK} (h:WpB K c σ H QB (Sk.bnd f k Z)) (hQ:∀d Z' v H',Rep K c Z' σ H'->Is K (Cn c σ) H' d v->Gr c.O σ H H'->WpB K c σ H' QB (k d Z')->Q' v H'):Wp K c σ H Q' (f Z):=by
 unfold Sk.bnd at h
 cases e:f Z with
 |ok p=>rw[e]at h;exact λv H' hr hi hg=>hQ p.1 p.2 v H' hr hi hg (h.gr hg)
 |exc x Z'=>rw[e]at h;exact h
 |bad=>rw[e]at h;exact h
theorem Wp.bndL {f:M D} {k:D->M (List D)} {Z:Env} {Q':VK} (h:WpL K c σ H QL (Sk.bnd f k Z)) (hQ:∀d Z' v H',Rep K c Z' σ H'->Is K (Cn c σ) H' d v->Gr c.O σ H H'->WpL K c σ H' QL (k d Z')->Q' v H'):Wp K c σ H Q' (f Z):=by
 unfold Sk.bnd at h
 cases e:f Z with
 |ok p=>rw[e]at h;exact λv H' hr hi hg=>hQ p.1 p.2 v H' hr hi hg (h.gr hg)
 |exc x Z'=>rw[e]at h;exact h
 |bad=>rw[e]at h;exact h
theorem WpB.bnd {f:M Bool} {k:Bool->M D} {Z:Env} {Q':Bool->Hp->Prop} (h:Wp K c σ H Q (Sk.bnd f k Z)) (hQ:∀d Z' H',Rep K c Z' σ H'->Gr c.O σ H H'->Wp K c σ H' Q (k d Z')->Q' d H'):WpB K c σ H Q' (f Z):=by
 unfold Sk.bnd at h
 cases e:f Z with
 |ok p=>rw[e]at h;exact λH' hr hg=>hQ p.1 p.2 H' hr hg (h.gr hg)
 |exc x Z'=>rw[e]at h;exact h
 |bad=>rw[e]at h;exact h
theorem WpB.bndB {f:M Bool} {k:Bool->M Bool} {Z:Env} {Q':Bool->Hp->Prop} (h:WpB K c σ H QB (Sk.bnd f k Z)) (hQ:∀d Z' H',Rep K c Z' σ H'->Gr c.O σ H H'->WpB K c σ H' QB (k d Z')->Q' d H'):WpB K c σ H Q' (f Z):=by
 unfold Sk.bnd at h
 cases e:f Z with
 |ok p=>rw[e]at h;exact λH' hr hg=>hQ p.1 p.2 H' hr hg (h.gr hg)
 |exc x Z'=>rw[e]at h;exact h
 |bad=>rw[e]at h;exact h
theorem WpL.bnd {f:M (List D)} {k:List D->M D} {Z:Env} {Q':List V->Hp->Prop} (h:Wp K c σ H Q (Sk.bnd f k Z)) (hQ:∀d Z' v H',Rep K c Z' σ H'->IsL K (Cn c σ) H' d v->Gr c.O σ H H'->Wp K c σ H' Q (k d Z')->Q' v H'):WpL K c σ H Q' (f Z):=by
 unfold Sk.bnd at h
 cases e:f Z with
 |ok p=>rw[e]at h;exact λv H' hr hi hg=>hQ p.1 p.2 v H' hr hi hg (h.gr hg)
 |exc x Z'=>rw[e]at h;exact h
 |bad=>rw[e]at h;exact h
theorem WpL.bndL {f:M (List D)} {k:List D->M (List D)} {Z:Env} {Q':List V->Hp->Prop} (h:WpL K c σ H QL (Sk.bnd f k Z)) (hQ:∀d Z' v H',Rep K c Z' σ H'->IsL K (Cn c σ) H' d v->Gr c.O σ H H'->WpL K c σ H' QL (k d Z')->Q' v H'):WpL K c σ H Q' (f Z):=by
 unfold Sk.bnd at h
 cases e:f Z with
 |ok p=>rw[e]at h;exact λv H' hr hi hg=>hQ p.1 p.2 v H' hr hi hg (h.gr hg)
 |exc x Z'=>rw[e]at h;exact h
 |bad=>rw[e]at h;exact h
theorem Wp.lift {o:OD} {Z:Env} (h:Wp K c σ H Q (Sk.lift o Z)):∃d,o=some d/\∀v H',Rep K c Z σ H'->Is K (Cn c σ) H' d v->Gr c.O σ H H'->Q v H':=by
 cases o with
 |none=>exact h.elim
 |some d=>exact⟨d,rfl,h⟩
end
section
variable{X:Cx}{c:Fc}{a b e:Expr}{pos:Pos}
theorem qi{i j pos}:DE X c (.Constant (.int i) j pos) (ret (.int i)):=⟨_,qkQ,λ_ _ H Q r h=>h _ H r rfl .refl⟩
theorem uZ{i j pos}:DE X c (.Constant (.bool i) j pos) (ret (.bl i)):=⟨_,qmX,λ_ _ H Q r h=>h _ H r rfl .refl⟩
theorem yi{j pos}:DE X c (.Constant .none j pos) (ret .non):=⟨_,qkR,λ_ _ H Q r h=>h _ H r rfl .refl⟩
theorem qx{x j pos}:DE X c (.Constant (.str x) j pos) (ret (.str x)):=⟨_,qeA,λ_ _ H Q r h=>h _ H r rfl .refl⟩
def dv (i:Nat):M D:=λZ=>match Z[i]? with
 |some (some d) => .ok (d,Z)
 |_ => .bad
theorem qe (i:Nat) {x:Str} (ho:i ∉ c.O:=by exact of_decide_eq_false rfl) (hN:X.N[i]? = some x:=by rfl) (hv:Vis X.env.scope x:=by first|exact ya0 rfl|exact yaJ (ya0 rfl)|exact yaJ (yaJ rfl)) (hd:(x==("__debug__":Str))=false:=by decide)
  (hcd:(x==("__classdict__":Str))=false:=by decide):DE X c (.Name x pos) (dv i):=by
 refine⟨_,yI hN hv hd hcd,λZ σ H Q r h=>?_⟩
 unfold dv at h
 split at h
 ·rename_i d e
  obtain⟨v,h1,h2⟩:=r.get ho e
  exact⟨v,h1,h v H r h2 .refl⟩
 ·exact h.elim
theorem qe1 {x:Str} {v:V} {u:Value} {d:D} (hg:Gl X x) (hm:X.mg x=some u) (rv:jh v u) (hd:∀H A,Is X.K A H d v) (hdb:(x==("__debug__":Str))=false:=by decide):DE X c (.Name x pos) (ret d) :=
 ⟨_,wH hg hm rv hdb,λ_ _ H Q r h=>h _ H r (hd _ _) .refl⟩
theorem qg:DA X c [] (ret []):=⟨_,uU,λ_ _ H Q r h=>h _ H r rfl .refl⟩
def qb(f:M D)(g:M (List D)):M (List D):=bnd f λd=>bnd g λds=>ret (d::ds)
theorem qd {es:List Expr} {f:M D} {g:M (List D)} (ha:DE X c e f) (hr:DA X c es g) (hs:yac (e::es) X.env=(false,eval e X.env)::yac es X.env:=by rfl):DA X c (e::es) (qb f g):=by
 obtain⟨ta,pa,wa⟩:=ha
 obtain⟨tr,pr,wr⟩:=hr
 refine⟨_,ja pa pr hs,λZ σ H Q r h=>wa Z σ H _ r (Wp.bndL h λd Z1 v H1 r1 i1 g1 h1=>wr Z1 σ H1 _ r1 (WpL.bndL h1 λds Z2 vs H2 r2 i2 g2 h2=>?_))⟩
 exact h2 _ H2 r2 ⟨v,vs,rfl,g2.is i1,i2⟩ .refl
def qT(n:Nat):Bool:=decide (n<=yap)
def z8(f:M (List D)):M D:=bnd f λds=>lift (if qT ds.length then some (.tup ds)else none)
def jg(f:M (List D)):M D:=bnd f λds=>lift (if qT ds.length then some (.lst ds)else none)
theorem qw{H:Hp}{p:Addr}(h:H p=none)(o:HO):zX H (upd H p o):=λb u q=>by rw[qu (qL q h)];exact q
theorem Rep.laid{K:Fr0}{Z:Env}{σ:St}{H:Hp}(r:Rep K c Z σ H){p:Addr}(h:H p=none)(o:HO):Rep K c Z σ (upd H p o):=r.same (qw h o)
theorem zD {p:Bool} {d e:D} (h:(if p then some d else none)=some e):p=true/\d=e:=by
 cases p with
 |true=>exact⟨rfl,by simpa using h⟩
 |false=>simp at h
theorem zN {es:List Expr} {x1} {f:M (List D)} (h:DA X c es f):DE X c (.Tuple es x1 pos) (z8 f):=by
 obtain⟨t,p,w⟩:=h
 refine⟨_,qlf p,λZ σ H Q r h=>w Z σ H _ r (WpL.bnd h λds Z1 vs H1 r1 i1 g1 h1=>?_)⟩
 obtain⟨d,e,h2⟩:=h1.lift
 obtain⟨e1,e2⟩:=zD e
 subst e2
 refine⟨by rw[i1.length];exact of_decide_eq_true e1,λp hp=>h2 _ _ (r1.laid hp _) ⟨p,vs,rfl,.inl qm,IsL.ext (Ext.of_same (qw hp _)) (λ_ h _=>h) i1⟩ (.of_same (qw hp _))⟩
theorem zO {es:List Expr} {f:M (List D)} (h:DA X c es f):DE X c (.List es pos) (jg f):=by
 obtain⟨t,p,w⟩:=h
 refine⟨_,qhS p,λZ σ H Q r h=>w Z σ H _ r (WpL.bnd h λds Z1 vs H1 r1 i1 g1 h1=>?_)⟩
 obtain⟨d,e,h2⟩:=h1.lift
 obtain⟨e1,e2⟩:=zD e
 subst e2
 refine⟨by rw[i1.length];exact of_decide_eq_true e1,λp hp=>h2 _ _ (r1.laid hp _) ⟨p,vs,rfl,r1.new hp,qm,IsL.ext (Ext.of_same (qw hp _)) (λ_ h _=>h) i1⟩ (.of_same (qw hp _))⟩
def OpS (K:Fr0) (F:D->D->OD) (r:R2):Prop:=∀(A:Addr->Prop)(H:Hp)(x y d:D)(v u:V)(Q:VK),(∀a,H a=none->A a)->Is K A H x v->Is K A H y u->F x y=some d ->
 (∀w H',zX H H'->Is K A H' d w->Q w H')->r v u H Q
def d2(F:D->D->OD)(f g:M D):M D:=bnd f λx=>bnd g λy=>lift (F x y)
theorem op2 {r:R2} {F:D->D->OD} {f g:M D} {ta tb:TE} (hF:OpS X.K F r) (wa:∀Z σ H Q,Rep X.K c Z σ H->Wp X.K c σ H Q (f Z)->ta σ H Q) (wb:∀Z σ H Q,Rep X.K c Z σ H->Wp X.K c σ H Q (g Z)->tb σ H Q) :
  ∀Z σ H Q,Rep X.K c Z σ H->Wp X.K c σ H Q (d2 F f g Z)->tOp r ta tb σ H Q:=λZ σ H Q rp h=>wa Z σ H _ rp (Wp.bnd h λx Z1 v H1 r1 i1 g1 h1=>wb Z1 σ H1 _ r1 (Wp.bnd h1 λy Z2 u H2 r2 i2 g2 h2=>by
 obtain⟨d,e,h3⟩:=h2.lift
 exact hF _ H2 x y d v u Q (λa ha=>r2.new ha) (g2.is i1) i2 e λw H' s i=>h3 w H' (r2.same s) i (.of_same s)))
theorem qy {op:Operator} {r:R2} {F:D->D->OD} {f g:M D} (ho:OpR X (ya9 op) r) (hF:OpS X.K F r) (ha:DE X c a f) (hb:DE X c b g):DE X c (.BinOp a op b pos) (d2 F f g):=by
 obtain⟨ta,pa,wa⟩:=ha
 obtain⟨tb,pb,wb⟩:=hb
 exact⟨_,qm9 ho pa pb,op2 hF wa wb⟩
theorem wU {op:CmpOp} {r:R2} {F:D->D->OD} {f g:M D} (ho:OpR X (yaM op) r) (hF:OpS X.K F r) (ha:DE X c a f) (hb:DE X c b g) (hm:ybP op b=false):DE X c (.Compare a [op] [b] pos) (d2 F f g):=by
 obtain⟨ta,pa,wa⟩:=ha
 obtain⟨tb,pb,wb⟩:=hb
 exact⟨_,qiS ho pa pb hm,op2 hF wa wb⟩
def asB:D->Option Bool
 |.bl b=>some b
 |_=>none
def tst(f:M D):M Bool:=bnd f λd=>lift (asB d)
theorem qc0 {K:Fr0} {σ:St} {H:Hp} {QB:Bool->Hp->Prop} {o:Option Bool} {Z:Env} (h:WpB K c σ H QB (lift o Z)):∃b,o=some b/\∀H',Rep K c Z σ H'->Gr c.O σ H H'->QB b H':=by
 cases o with
 |none=>exact h.elim
 |some d=>exact⟨d,rfl,h⟩
theorem qaR {d:D} {b:Bool} (h:asB d=some b):d=.bl b:=by
 cases d<;>simp[asB]at h
 subst h;rfl
theorem qU {op:CmpOp} {r:R2} {F:D->D->OD} {f g:M D} (ho:OpR X (yaM op) r) (hF:OpS X.K F r) (ha:DE X c a f) (hb:DE X c b g) (hm:ybP op b=false):DT X c (.Compare a [op] [b] pos) (tst (d2 F f g)):=by
 obtain⟨ta,pa,wa⟩:=ha
 obtain⟨tb,pb,wb⟩:=hb
 refine⟨_,qeO ho pa pb hm,λZ σ H Q rp h=>op2 hF wa wb Z σ H _ rp (Wp.bndB h λd Z1 v H1 r1 i1 g1 h1=>?_)⟩
 obtain⟨b,e,h2⟩:=qc0 h1
 have:=qaR e
 subst this
 exact⟨b,i1,h2 H1 r1 .refl⟩
theorem yw {f:M D} (h:DE X c e f) (he:∀whole,isTrue e X.env whole=(do let v <-whole;yc7 e.pos;ybr [v] (truthy v)):=by intro _;rfl):DT X c e (tst f):=by
 obtain⟨t,p,w⟩:=h
 refine⟨_,qkS p he,λZ σ H Q rp h=>w Z σ H _ rp (Wp.bndB h λd Z1 v H1 r1 i1 g1 h1=>?_)⟩
 obtain⟨b,e,h2⟩:=qc0 h1
 have:=qaR e
 subst this
 exact⟨b,i1,h2 H1 r1 .refl⟩
def vd(f:M Bool):M Bool:=bnd f λb=>ret (!b)
theorem ua {f:M Bool} (h:DT X c a f):DT X c (.UnaryOp .Not a pos) (vd f):=by
 obtain⟨t,p,w⟩:=h
 exact⟨_,qkV p,λZ σ H Q rp h=>w Z σ H _ rp (WpB.bndB h λd Z1 H1 r1 g1 h1=>h1 H1 r1 .refl)⟩
def DW(X:Cx)(c:Fc)(e:Expr)(f:M Bool):Prop:=∃t,PW X e t/\∀Z σ H Q,Rep X.K c Z σ H->WpB X.K c σ H Q (f Z)->t σ H Q
theorem DW.dt {f:M Bool} (h:DW X c e f):DT X c e f:=by
 obtain⟨t,p,w⟩:=h
 exact⟨t,p.pt,w⟩
def ub(f g:M Bool):M Bool:=bnd f λb=>if b then g else ret false
def tor(f g:M Bool):M Bool:=bnd f λb=>if b then ret true else g
variable{rest:List Expr}
theorem vE {f:M Bool} (h:DT X c a f):DW X c (.BoolOp .And [a] pos) f:=by
 obtain⟨t,p,w⟩:=h
 exact⟨t,qiO p,w⟩
theorem uc {f:M Bool} (h:DT X c a f):DW X c (.BoolOp .Or [a] pos) f:=by
 obtain⟨t,p,w⟩:=h
 exact⟨t,qkT p,w⟩
theorem qav {f g:M Bool} (ha:DT X c a f) (hb:DW X c (.BoolOp .And (b::rest) pos) g):DW X c (.BoolOp .And (a::b::rest) pos) (ub f g):=by
 obtain⟨ta,pa,wa⟩:=ha
 obtain⟨tb,pb,wb⟩:=hb
 refine⟨_,qkU pa pb,λZ σ H Q rp h=>wa Z σ H _ rp (WpB.bndB h λd Z1 H1 r1 g1 h1=>?_)⟩
 cases d with
 |true=>exact qkG (wb Z1 σ H1 Q r1 (by simpa using h1))
 |false=>exact qkF ((by simpa using h1:WpB X.K c σ H1 Q (ret false Z1)) H1 r1 .refl)
theorem ui {f g:M Bool} (ha:DT X c a f) (hb:DW X c (.BoolOp .Or (b::rest) pos) g):DW X c (.BoolOp .Or (a::b::rest) pos) (tor f g):=by
 obtain⟨ta,pa,wa⟩:=ha
 obtain⟨tb,pb,wb⟩:=hb
 refine⟨_,qmY pa pb,λZ σ H Q rp h=>wa Z σ H _ rp (WpB.bndB h λd Z1 H1 r1 g1 h1=>?_)⟩
 cases d with
 |true=>exact qkG ((by simpa using h1:WpB X.K c σ H1 Q (ret true Z1)) H1 r1 .refl)
 |false=>exact qkF (wb Z1 σ H1 Q r1 (by simpa using h1))
def qly(f:M D):M D:=bnd f λd=>bnd (lift (asB d)) λb=>ret (.bl (!b))
def qi8(f g:M D):M D:=bnd f λd=>bnd (lift (asB d)) λb=>if b then g else ret (.bl false)
def dor(f g:M D):M D:=bnd f λd=>bnd (lift (asB d)) λb=>if b then ret (.bl true)else g
theorem qe2 {K:Fr0} {σ:St} {H:Hp} {Q:VK} {d:D} {k:Bool->M D} {Z:Env} (h:Wp K c σ H Q (bnd (lift (asB d)) k Z)):∃b,d=.bl b/\Wp K c σ H Q (k b Z):=by
 unfold bnd at h
 cases e:asB d with
 |none=>rw[e]at h;exact h.elim
 |some b=>rw[e]at h;exact⟨b,qaR e,h⟩
theorem qaw {op} {f:M D} (h:DE X c a f):DE X c (.BoolOp op [a] pos) f:=by
 obtain⟨t,p,w⟩:=h
 exact⟨t,qkW p,w⟩
theorem qhU {f:M D} (h:DE X c a f):DE X c (.UnaryOp .Not a pos) (qly f):=by
 obtain⟨t,p,w⟩:=h
 refine⟨_,qkY p,λZ σ H Q rp h=>w Z σ H _ rp (Wp.bnd h λd Z1 v H1 r1 i1 g1 h1=>?_)⟩
 obtain⟨b,e,h2⟩:=qe2 h1
 subst e
 exact⟨b,i1,h2 _ H1 r1 rfl .refl⟩
theorem qc1 {f g:M D} (ha:DE X c a f) (hb:DE X c (.BoolOp .And (b::rest) pos) g):DE X c (.BoolOp .And (a::b::rest) pos) (qi8 f g):=by
 obtain⟨ta,pa,wa⟩:=ha
 obtain⟨tb,pb,wb⟩:=hb
 refine⟨_,qkX pa pb,λZ σ H Q rp h=>wa Z σ H _ rp (Wp.bnd h λd Z1 v H1 r1 i1 g1 h1=>?_)⟩
 obtain⟨k,e,h2⟩:=qe2 h1
 subst e
 refine⟨k,i1,?_⟩
 cases k with
 |true=>exact qkG (wb Z1 σ H1 Q r1 (by simpa using h2))
 |false=>exact qkF ((by simpa using h2:Wp X.K c σ H1 Q (ret (.bl false) Z1)) _ H1 r1 rfl .refl)
theorem qlz {f g:M D} (ha:DE X c a f) (hb:DE X c (.BoolOp .Or (b::rest) pos) g):DE X c (.BoolOp .Or (a::b::rest) pos) (dor f g):=by
 obtain⟨ta,pa,wa⟩:=ha
 obtain⟨tb,pb,wb⟩:=hb
 refine⟨_,qm1 pa pb,λZ σ H Q rp h=>wa Z σ H _ rp (Wp.bnd h λd Z1 v H1 r1 i1 g1 h1=>?_)⟩
 obtain⟨k,e,h2⟩:=qe2 h1
 subst e
 refine⟨k,i1,?_⟩
 cases k with
 |true=>exact qkG ((by simpa using h2:Wp X.K c σ H1 Q (ret (.bl true) Z1)) _ H1 r1 rfl .refl)
 |false=>exact qkF (wb Z1 σ H1 Q r1 (by simpa using h2))
def dif(f:M Bool)(g k:M D):M D:=bnd f λb=>if b then g else k
theorem qgI {t:Expr} {f:M Bool} {g k:M D} (ht:DT X c t f) (ha:DE X c a g) (hb:DE X c b k):DE X c (.IfExp t a b pos) (dif f g k):=by
 obtain⟨tt,pt,wt⟩:=ht
 obtain⟨ta,pa,wa⟩:=ha
 obtain⟨tb,pb,wb⟩:=hb
 refine⟨_,qgz pt pa pb,λZ σ H Q rp h=>wt Z σ H _ rp (WpB.bnd h λd Z1 H1 r1 g1 h1=>?_)⟩
 cases d with
 |true=>exact qkG (wa Z1 σ H1 Q r1 (by simpa using h1))
 |false=>exact qkF (wb Z1 σ H1 Q r1 (by simpa using h1))
def vF (K:Fr0) (F:List D->OD) (r:List V->Hp->VK->Prop):Prop:=∀(A:Addr->Prop)(H:Hp)(xs:List D)(d:D)(vs:List V)(Q:VK),(∀a,H a=none->A a)->IsL K A H xs vs->F xs=some d ->
 (∀w H',zX H H'->Is K A H' d w->Q w H')->r vs H Q
def qs(F:List D->OD)(f:M (List D)):M D:=bnd f λds=>lift (F ds)
theorem qlA {r:List V->Hp->VK->Prop} {F:List D->OD} {f:M (List D)} {t:TA} (hF:vF X.K F r) (w:∀Z σ H Q,Rep X.K c Z σ H->WpL X.K c σ H Q (f Z)->t σ H Q) :
  ∀Z σ H Q,Rep X.K c Z σ H->Wp X.K c σ H Q (qs F f Z)->tCB r t σ H Q:=λZ σ H Q rp h=>w Z σ H _ rp (WpL.bnd h λds Z1 vs H1 r1 i1 g1 h1=>by
 obtain⟨d,e,h3⟩:=h1.lift
 exact hF _ H1 ds d vs Q (λa ha=>r1.new ha) i1 e λw H' s i=>h3 w H' (r1.same s) i (.of_same s))
theorem zf {id:String} {x:Str} {p:Pos} {es:List Expr} {r:List V->Hp->VK->Prop} {F:List D->OD} {f:M (List D)} (hc:jV X (.builtin id) r) (hF:vF X.K F r) (hg:Gl X x) (hm:X.mg x=none) (hv:yay x=some (.builtin id)) (ha:DA X c (e::es) f) (hn:x≠"__name__":=by decide) (hdb:(x==("__debug__":Str))=false:=by decide)
  (he:yac (e::es) X.env=(false,eval e X.env)::yac es X.env:=by rfl) (hpl:(yaz pos (yac es X.env)).any (·.1)=false:=by rfl):DE X c (.Call (.Name x p) (e::es) [] pos) (qs F f):=by
 obtain⟨t,pa,w⟩:=ha
 exact⟨_,vc hc hg hm hv pa hn hdb he hpl,qlA hF w⟩
theorem yj {T:String} {x:Str} {p:Pos} {es:List Expr} {r:List V->Hp->VK->Prop} {F:List D->OD} {f:M (List D)} (hc:jV X (.type T) r) (hF:vF X.K F r) (hg:Gl X x) (hm:X.mg x=none) (hv:yay x=some (.type T)) (ha:DA X c (e::es) f) (hn:x≠"__name__":=by decide) (hdb:(x==("__debug__":Str))=false:=by decide)
  (he:yac (e::es) X.env=(false,eval e X.env)::yac es X.env:=by rfl) (hpl:(yaz pos (yac es X.env)).any (·.1)=false:=by rfl):DE X c (.Call (.Name x p) (e::es) [] pos) (qs F f):=by
 obtain⟨t,pa,w⟩:=ha
 exact⟨_,wP hc hg hm hv pa hn hdb he hpl,qlA hF w⟩
theorem zA {r:R2} {F:D->D->OD} {f g:M D} (hr:IxR X r) (hF:OpS X.K F r) (ha:DE X c a f) (hb:DE X c b g) (hs:qcj b:=by intro _ _;rfl):DE X c (.Subscript a b pos) (d2 F f g):=by
 obtain⟨ta,pa,wa⟩:=ha
 obtain⟨tb,pb,wb⟩:=hb
 exact⟨_,qll hr pa pb hs,op2 hF wa wb⟩
end
inductive Fl where
 |nx (Z:Env)|rt (d:D) (Z:Env)|bk (Z:Env)|ct (Z:Env)
structure GrS (O:List Nat) (σ:St) (H:Hp) (σ':St) (H':Hp):Prop where
 ext:Ext (Cl O σ) H H'
 cl:∀b,Cl O σ b->(H b).isSome=true->Cl O σ' b
 dom:∀b,H' b=none->H b=none
theorem qdZ {H H':Hp} {b:Addr} (dom:H' b=none->H b=none) (h:(H b).isSome=true):(H' b).isSome=true:=by
 cases e:H' b with
 |none=>rw[dom e]at h;cases h
 |some o=>rfl
theorem GrS.refl{O:List Nat}{σ:St}{H:Hp}:GrS O σ H σ H:=⟨Ext.refl,λ_ h _=>h,λ_ h=>h⟩
theorem Gr.s{O:List Nat}{σ:St}{H H':Hp}(g:Gr O σ H H'):GrS O σ H σ H':=⟨g.ext,λ_ h _=>h,g.dom⟩
theorem GrS.trans {O:List Nat} {σ σ1 σ2:St} {H H1 H2:Hp} (a:GrS O σ H σ1 H1) (b:GrS O σ1 H1 σ2 H2):GrS O σ H σ2 H2 :=
 ⟨⟨λc xs h=>b.ext.tup c xs (a.ext.tup c xs h),λc o u h=>b.ext.frz c o u (a.ext.frz c o u h),λc o hc h=>b.ext.at_ c o (a.cl c hc (by rw[h];rfl)) (a.ext.at_ c o hc h)⟩,
  λc hc h=>b.cl c (a.cl c hc h) (qdZ (a.dom c) h),λc h=>a.dom c (b.dom c h)⟩
theorem GrS.is {K:Fr0} {c:Fc} {σ σ':St} {H H':Hp} {d:D} {v:V} (g:GrS c.O σ H σ' H') (h:Is K (Cn c σ) H d v):Is K (Cn c σ') H' d v :=
 Is.ext ⟨g.ext.tup,g.ext.frz,λb o hb h=>g.ext.at_ b o hb.2 h⟩ (λa ha hs=>⟨ha.1,g.cl a ha.2 hs⟩) h
theorem GrS.isL {K:Fr0} {c:Fc} {σ σ':St} {H H':Hp} {d:List D} {v:List V} (g:GrS c.O σ H σ' H') (h:IsL K (Cn c σ) H d v):IsL K (Cn c σ') H' d v :=
 IsL.ext ⟨g.ext.tup,g.ext.frz,λb o hb h=>g.ext.at_ b o hb.2 h⟩ (λa ha hs=>⟨ha.1,g.cl a ha.2 hs⟩) h
def WpS (K:Fr0) (c:Fc) (σ:St) (H:Hp) (D:qes):R Fl->Prop
 |.ok (.nx Z)=>∀σ' H',Rep K c Z σ' H'->GrS c.O σ H σ' H'->D.nx σ' H'
 |.ok (.rt d Z)=>∀v σ' H',Rep K c Z σ' H'->Is K c.B H' d v->GrS c.O σ H σ' H'->D.rt v H'
 |.ok (.bk Z)=>∀σ' H',Rep K c Z σ' H'->GrS c.O σ H σ' H'->D.bk σ' H'
 |.ok (.ct Z)=>∀σ' H',Rep K c Z σ' H'->GrS c.O σ H σ' H'->D.ct σ' H'
 |.exc x Z=>∀σ' H',Rep K c Z σ' H'->GrS c.O σ H σ' H'->c.E x H'
 |.bad=>False
abbrev MS:=Env->R Fl
def DS(X:Cx)(c:Fc)(st:Stmt)(f:MS):Prop:=∃t,PS X st t/\∀Z σ H D,Rep X.K c Z σ H->WpS X.K c σ H D (f Z)->t D σ H
def DSs(X:Cx)(c:Fc)(st:List Stmt)(f:MS):Prop:=∃t,PSs X st t/\∀Z σ H D,Rep X.K c Z σ H->WpS X.K c σ H D (f Z)->t D σ H
theorem WpS.gr {K:Fr0} {c:Fc} {σ σ1:St} {H H1:Hp} {D:qes}:∀{r:R Fl},WpS K c σ H D r->GrS c.O σ H σ1 H1->WpS K c σ1 H1 D r
 |.ok (.nx Z),h,g=>λσ' H' hr hg=>h σ' H' hr (g.trans hg)
 |.ok (.rt d Z),h,g=>λv σ' H' hr hi hg=>h v σ' H' hr hi (g.trans hg)
 |.ok (.bk Z),h,g=>λσ' H' hr hg=>h σ' H' hr (g.trans hg)
 |.ok (.ct Z),h,g=>λσ' H' hr hg=>h σ' H' hr (g.trans hg)
 |.exc x Z,h,g=>λσ' H' hr hg=>h σ' H' hr (g.trans hg)
 |.bad,h,_=>h
def sbnd {α:Type} (f:M α) (k:α->MS):MS:=λZ=>match f Z with
 |.ok (a,Z')=>k a Z'
 |.exc x Z' => .exc x Z'
 |.bad => .bad
section
variable{K:Fr0}{c:Fc}{σ:St}{H:Hp}{D:qes}
theorem Wp.sbnd {f:M Sk.D} {k:Sk.D->MS} {Z:Env} {Q':VK} (h:WpS K c σ H D (sbnd f k Z)) (hQ:∀d Z' v H',Rep K c Z' σ H'->Is K (Cn c σ) H' d v->Gr c.O σ H H'->WpS K c σ H' D (k d Z')->Q' v H'):Wp K c σ H Q' (f Z):=by
 unfold Sk.sbnd at h
 cases e:f Z with
 |ok p=>rw[e]at h;exact λv H' hr hi hg=>hQ p.1 p.2 v H' hr hi hg (h.gr hg.s)
 |exc x Z'=>rw[e]at h;exact λH' hr hg=>h σ H' hr hg.s
 |bad=>rw[e]at h;exact h
theorem WpB.sbnd {f:M Bool} {k:Bool->MS} {Z:Env} {Q':Bool->Hp->Prop} (h:WpS K c σ H D (sbnd f k Z)) (hQ:∀d Z' H',Rep K c Z' σ H'->Gr c.O σ H H'->WpS K c σ H' D (k d Z')->Q' d H'):WpB K c σ H Q' (f Z):=by
 unfold Sk.sbnd at h
 cases e:f Z with
 |ok p=>rw[e]at h;exact λH' hr hg=>hQ p.1 p.2 H' hr hg (h.gr hg.s)
 |exc x Z'=>rw[e]at h;exact λH' hr hg=>h σ H' hr hg.s
 |bad=>rw[e]at h;exact h
theorem WpL.sbnd {f:M (List Sk.D)} {k:List Sk.D->MS} {Z:Env} {Q':List V->Hp->Prop} (h:WpS K c σ H D (sbnd f k Z)) (hQ:∀d Z' v H',Rep K c Z' σ H'->IsL K (Cn c σ) H' d v->Gr c.O σ H H'->WpS K c σ H' D (k d Z')->Q' v H'):WpL K c σ H Q' (f Z):=by
 unfold Sk.sbnd at h
 cases e:f Z with
 |ok p=>rw[e]at h;exact λv H' hr hi hg=>hQ p.1 p.2 v H' hr hi hg (h.gr hg.s)
 |exc x Z'=>rw[e]at h;exact λH' hr hg=>h σ H' hr hg.s
 |bad=>rw[e]at h;exact h
end
def qt (f g:MS):MS:=λZ=>match f Z with
 |.ok (.nx Z')=>g Z'
 |r=>r
theorem WpS.mono_nx {K:Fr0} {c:Fc} {σ:St} {H:Hp} {D:qes} {f g:MS} {Z:Env} {N:St->Hp->Prop} (h:WpS K c σ H D (qt f g Z)) (hN:∀Z' σ' H',Rep K c Z' σ' H'->GrS c.O σ H σ' H'->WpS K c σ' H' D (g Z')->N σ' H') :
  WpS K c σ H {D with nx:=N} (f Z):=by
 unfold qt at h
 cases e:f Z with
 |ok fl=>
  rw[e]at h
  cases fl with
  |nx Z'=>exact λσ' H' hr hg=>hN Z' σ' H' hr hg (h.gr hg)
  |rt d Z'=>exact h
  |bk Z'=>exact h
  |ct Z'=>exact h
 |exc x Z'=>rw[e]at h;exact h
 |bad=>rw[e]at h;exact h
section
variable{X:Cx}{c:Fc}{a b e:Expr}{pos:Pos}{st:Stmt}{sts:List Stmt}
theorem qi9:DSs X c [] (λZ => .ok (.nx Z)):=⟨_,qiP,λZ σ H D r h=>h σ H r .refl⟩
theorem ql {f:MS} (h:DS X c st f):DSs X c [st] f:=by
 obtain⟨t,p,w⟩:=h
 exact⟨t,qeC p,w⟩
theorem qj {f g:MS} (h:DS X c st f) (hr:DSs X c sts g):DSs X c (st::sts) (qt f g):=by
 obtain⟨t,p,w⟩:=h
 obtain⟨t2,p2,w2⟩:=hr
 exact⟨_,wx p p2,λZ σ H D r h=>w Z σ H _ r (h.mono_nx λZ' σ' H' r' g' h'=>w2 Z' σ' H' D r' h')⟩
def qZ(f:M D):MS:=sbnd f λd Z => .ok (.rt d Z)
theorem Is.cn{K:Fr0}{σ:St}{H:Hp}{d:D}{v:V}(h:Is K (Cn c σ) H d v):Is K c.B H d v:=Is.ext Ext.refl (λ_ h _=>h.1) h
theorem qK {f:M D} (h:DE X c e f):DS X c (.Return (some e) pos) (qZ f):=by
 obtain⟨t,p,w⟩:=h
 exact⟨_,qkZ p,λZ σ H D r h=>w Z σ H _ r (Wp.sbnd h λd Z1 v H1 r1 i1 g1 h1=>h1 v σ H1 r1 i1.cn .refl)⟩
def zt(f:M D):MS:=sbnd f λ_ Z => .ok (.nx Z)
theorem vG {f:M D} (h:DE X c e f) (hs:ycO e none pos.line X.env=pure false:=by rfl):DS X c (.Expr e pos) (zt f):=by
 obtain⟨t,p,w⟩:=h
 exact⟨_,qeD p hs,λZ σ H D r h=>w Z σ H _ r (Wp.sbnd h λd Z1 v H1 r1 i1 g1 h1=>h1 σ H1 r1 .refl)⟩
def sif(f:M Bool)(g k:MS):MS:=sbnd f λb=>if b then g else k
theorem jr {t:Expr} {s1 s2:List Stmt} {f:M Bool} {g k:MS} (ht:DT X c t f) (ha:DSs X c s1 g) (hb:DSs X c s2 k):DS X c (.If t s1 s2 pos) (sif f g k):=by
 obtain⟨tt,pt,wt⟩:=ht
 obtain⟨ta,pa,wa⟩:=ha
 obtain⟨tb,pb,wb⟩:=hb
 refine⟨_,qm4 pt pa pb,λZ σ H D rp h=>wt Z σ H _ rp (WpB.sbnd h λd Z1 H1 r1 g1 h1=>?_)⟩
 cases d with
 |true=>exact qkG (wa Z1 σ H1 D r1 (by simpa using h1))
 |false=>exact qkF (wb Z1 σ H1 D r1 (by simpa using h1))
theorem zB{α:Type}{l:List α}{i j:Nat}{v:α}(h:j≠i):(l.set i v)[j]? = l[j]? := List.getElem?_set_ne (yaU h)
theorem Cl.set {O:List Nat} {σ:St} {i:Nat} {v:Option V} (hi:i ∉ O) (a:Addr):Cl O (σ.set i v) a ↔ Cl O σ a:=by
 constructor
 ·intro h j hj
  have e:j≠i:=λe=>hi (e▸hj)
  have:=h j hj
  rw[zB e]at this
  exact this
 ·intro h j hj
  have e:j≠i:=λe=>hi (e▸hj)
  rw[zB e]
  exact h j hj
theorem Rep.set {K:Fr0} {Z:Env} {σ:St} {H:Hp} {i:Nat} {d:D} {v:V} (r:Rep K c Z σ H) (hi:i ∉ c.O) (h:Is K (Cn c σ) H d v):Rep K c (Z.set i (some d)) (σ.set i (some v)) H where
 len:=by rw[lS_,lS_];exact r.len
 val := λj e hj=>by
  have up:∀{d':D}{v':V},Is K (Cn c σ) H d' v'->Is K (Cn c (σ.set i (some v))) H d' v':=λh=>Is.ext Ext.refl (λa ha _=>⟨ha.1,(Cl.set hi a).mpr ha.2⟩) h
  by_cases e1:j=i
  ·subst e1
   have hl:j<Z.length:=by
    have:=(gI_.mp hj).1
    rwa [lS_]at this
   rw[List.getElem?_set_self hl]at hj
   cases hj
   refine⟨v,List.getElem?_set_self (by rw[<-r.len];exact hl),.inr ⟨hi,up h⟩⟩
  ·rw[zB e1]at hj
   obtain⟨w,h1,h2⟩:=r.val j e hj
   refine⟨w,by rw[zB e1];exact h1,?_⟩
   rcases h2 with⟨hj2,ds,a,xs,h3,h5,h6,h7⟩|⟨h3,h4⟩
   ·exact .inl ⟨hj2,ds,a,xs,h3,h5,h6,IsL.ext Ext.refl (λa ha _=>⟨ha.1,(Cl.set hi a).mpr ha.2⟩) h7⟩
   ·exact .inr ⟨h3,up h4⟩
 own:=λj hj w h=>by
  have e1:j≠i:=λe=>hi (e▸hj)
  rw[zB e1]at h
  exact r.own j hj w h
 inj:=λj k a hj hk h1 h2=>by
  have e1:j≠i:=λe=>hi (e▸hj)
  have e2:k≠i:=λe=>hi (e▸hk)
  rw[zB e1]at h1
  rw[zB e2]at h2
  exact r.inj j k a hj hk h1 h2
 b0:=r.b0
 kp:=r.kp
 dm:=r.dm
 pO:=r.pO
 ps:=λj hj=>by
  have e:j≠i:=λe=>hi (e▸r.pO j hj)
  rw[zB e];exact r.ps j hj
theorem GrS.set{O:List Nat}{σ:St}{H:Hp}{i:Nat}{v:Option V}(hi:i ∉ O):GrS O σ H (σ.set i v) H:=⟨Ext.refl,λb h _=>(Cl.set hi b).mpr h,λ_ h=>h⟩
def qY(i:Nat)(f:M D):MS:=sbnd f λd Z => .ok (.nx (Z.set i (some d)))
theorem qW {i:Nat} {x:Str} {pos':Pos} {f:M D} (hN:X.N.Nodup) (he:DE X c e f) (ho:i ∉ c.O:=by exact of_decide_eq_false rfl) (hi:X.N[i]? = some x:=by rfl) (hx:Loc X.env.scope x:=by first|exact ya0 rfl|exact yaJ rfl) (hs:ycO e (some (.Name x pos')) pos.line X.env=pure false:=by rfl) (hf:X.fn x=true\/X.env.scope.names.lookup x=some .local:=by first|exact .inl rfl|exact .inr rfl|assumption) :
  DS X c (.Assign [.Name x pos'] e pos) (qY i f):=by
 obtain⟨t,p,w⟩:=he
 refine⟨_,qhQ hN hi hx p hs hf,λZ σ H D r h=>w Z σ H _ r (Wp.sbnd h λd Z1 v H1 r1 i1 g1 h1=>?_)⟩
 exact h1 _ H1 (r1.set ho i1) (.set ho)
def DG (X:Cx) (c:Fc) (tg:Expr) (f:D->Env->Option Env):Prop:=∃g,PG X tg g/\∀Z σ H d v Z' (N:St->Hp->Prop),Rep X.K c Z σ H->Is X.K (Cn c σ) H d v->f d Z=some Z' ->
 (∀σ',Rep X.K c Z' σ' H->GrS c.O σ H σ' H->(∀j∈c.O,σ'[j]? = σ[j]?)->N σ' H)->g v σ H N
def qz(i:Nat):D->Env->Option Env:=λd Z=>some (Z.set i (some d))
theorem zE {i:Nat} {x:Str} (hN:X.N.Nodup) (ho:i ∉ c.O:=by exact of_decide_eq_false rfl) (hi:X.N[i]? = some x:=by rfl) (hx:Loc X.env.scope x:=by first|exact ya0 rfl|exact yaJ rfl) (hf:X.fn x=true\/X.env.scope.names.lookup x=some .local:=by first|exact .inl rfl|exact .inr rfl|assumption) {p:Pos}:DG X c (.Name x p) (qz i):=by
 refine⟨_,qiQ hN hi hx hf,λZ σ H d v Z' N r h e k=>?_⟩
 cases e
 exact k _ (r.set ho h) (.set ho) λj hj=>zB λe=>ho (e▸hj)
def DGs (X:Cx) (c:Fc) (tgs:List Expr) (f:List D->Env->Option Env):Prop:=∃g,PGs X tgs g/\∀Z σ H ds vs Z' (N:St->Hp->Prop),Rep X.K c Z σ H->IsL X.K (Cn c σ) H ds vs->f ds Z=some Z' ->
 (∀σ',Rep X.K c Z' σ' H->GrS c.O σ H σ' H->(∀j∈c.O,σ'[j]? = σ[j]?)->N σ' H)->g vs σ H N
def qap:List D->Env->Option Env
 | [],Z=>some Z
 |_,_=>none
def zp (f:D->Env->Option Env) (g:List D->Env->Option Env):List D->Env->Option Env
 |d::ds,Z=>(f d Z).bind (g ds)
 |_,_=>none
theorem qaS:DGs X c [] qap:=by
 refine⟨_,qeE,λZ σ H ds vs Z' N r h e k=>?_⟩
 cases ds with
 |nil=>
  cases e
  exact⟨h,k σ r .refl λ_ _=>rfl⟩
 |cons d ds=>cases e
theorem j8 {tg:Expr} {tgs:List Expr} {f:D->Env->Option Env} {g:List D->Env->Option Env} (h1:DG X c tg f) (h2:DGs X c tgs g)
  (hs:(ybd (tg::tgs) X.env).map (·.2)=ycs tg X.env::(ybd tgs X.env).map (·.2):=by rfl):DGs X c (tg::tgs) (zp f g):=by
 obtain⟨t1,p1,w1⟩:=h1
 obtain⟨t2,p2,w2⟩:=h2
 refine⟨_,qaL p1 p2 hs,λZ σ H ds vs Z' N r h e k=>?_⟩
 cases ds with
 |nil=>cases e
 | cons d ds=>
  obtain⟨v,ws,rfl,i1,i2⟩:=h
  have e':(f d Z).bind (g ds)=some Z':=e
  cases e1:f d Z with
  |none=>rw[e1]at e';cases e'
  |some Z1=>
   rw[e1]at e'
   exact⟨v,ws,rfl,w1 Z σ H d v Z1 _ r i1 e1 λσ1 r1 g1 o1=>w2 Z1 σ1 H ds ws Z' N r1 (g1.isL i2) e' λσ2 r2 g2 o2=>k σ2 r2 (g1.trans g2) λj hj=>(o2 j hj).trans (o1 j hj)⟩
def qaq (n:Nat) (g:List D->Env->Option Env):D->Env->Option Env
 |.tup ds,Z=>if ds.length=n then g ds Z else none
 |_,_=>none
theorem qc2 {es:List Expr} {k n:Nat} {p:Pos} {g:List D->Env->Option Env} (hc:X.calm=true) (h:DGs X c es g) (hn:(ybd es X.env).length=n:=by rfl) (hst:(ybd es X.env).findIdx? (·.1)=none:=by rfl):DG X c (.Tuple es k p) (qaq n g):=by
 obtain⟨t,p,w⟩:=h
 refine⟨_,qhP (n:=n) hc p hn hst,λZ σ H d v Z' N r h e q=>?_⟩
 cases d with
 | tup ds=>
  obtain⟨a,xs,rfl,ta,il⟩:=h
  have e':(if ds.length=n then g ds Z else none)=some Z':=e
  by_cases hl:ds.length=n
  ·rw[if_pos hl]at e'
   exact⟨a,xs,rfl,ta.sq,by rw[il.length];exact hl,w Z σ H ds xs Z' N r il e' q⟩
  ·rw[if_neg hl]at e';cases e'
 |_=>cases e
def qmO (f:M D) (g:D->Env->Option Env):MS:=sbnd f λd Z=>match g d Z with
 |some Z' => .ok (.nx Z')
 |none => .bad
theorem qlB {tg:Expr} {f:M D} {g:D->Env->Option Env} (he:DE X c e f) (hg:DG X c tg g) (hs:yci [tg] e pos.line X.env=pure false:=by rfl) (hw:ycj [tg] e X.env=pure none:=by rfl) (h1:(ybd [tg] X.env).map (·.2)=[ycs tg X.env]:=by rfl):DS X c (.Assign [tg] e pos) (qmO f g):=by
 obtain⟨t,p,w⟩:=he
 obtain⟨t2,p2,w2⟩:=hg
 refine⟨_,qeG p p2 hs hw h1,λZ σ H D r h=>w Z σ H _ r (Wp.sbnd h λd Z1 v H1 r1 i1 g1 h1=>?_)⟩
 cases e:g d Z1 with
 |none=>rw[e]at h1;exact h1.elim
 |some Z2=>
  rw[e]at h1
  exact w2 Z1 σ H1 d v Z2 _ r1 i1 e λσ' r2 g2 _=>h1 σ' H1 r2 g2
end
section
variable{K:Fr0}
def iiD (g:Int->Int->D):D->D->OD
 |.int i,.int j=>some (g i j)
 |_,_=>none
def qhV (C:Int->Int->Bool) (g:Int->Int->D):D->D->OD
 |.int i,.int j=>if C i j then some (g i j)else none
 |_,_=>none
theorem qaT {g:Int->Int->V} {gD:Int->Int->D} (hg:∀A H i j,Is K A H (gD i j) (g i j)):OpS K (iiD gD) (rI0 g):=by
 intro A H x y d v u Q hn ix iy e k
 cases x<;>cases y<;>simp only[iiD]at e<;>try (cases e;done)
 rename_i i j
 cases (yaA e)
 cases (show v=.int i from ix)
 cases (show u=.int j from iy)
 exact⟨i,j,rfl,rfl,k _ H (zX.refl H) (hg _ _ _ _)⟩
theorem qe3 {C:Int->Int->Prop} {CB:Int->Int->Bool} {g:Int->Int->V} {gD:Int->Int->D} (hC:∀i j,CB i j=true->C i j) (hg:∀A H i j,Is K A H (gD i j) (g i j)):OpS K (qhV CB gD) (rI C g):=by
 intro A H x y d v u Q hn ix iy e k
 cases x<;>cases y<;>simp only[qhV]at e<;>try (cases e;done)
 rename_i i j
 obtain⟨e1,e2⟩:=zD e
 subst e2
 cases (show v=.int i from ix)
 cases (show u=.int j from iy)
 exact⟨i,j,rfl,rfl,hC i j e1,k _ H (zX.refl H) (hg _ _ _ _)⟩
def qkH:D->D->OD:=iiD λi j => .int (i-j)
theorem qja:OpS K qkH (rI0 λi j => .int (i-j)):=qaT λ_ _ _ _=>rfl
def yk(i:Int):Bool:=decide (-(2 ^ 64)<i)&&decide (i<2 ^ 64)
theorem qbC {i:Int} (h:yk i=true) : -(2 ^ 64)<i/\i<2 ^ 64:=by
 unfold yk at h
 rw[yad]at h
 exact⟨of_decide_eq_true h.1,of_decide_eq_true h.2⟩
def qcm(i j:Int):Bool:=yk i||yk j
theorem qgJ {i j:Int} (h:qcm i j=true):qk5 i j:=by
 unfold qcm at h
 rw[yc2]at h
 rcases h with h|h
 ·exact .inl (qbC h)
 ·exact .inr (qbC h)
def qd0(i j:Int):Bool:=decide (0<j)&&decide (j<1606938044258990275541962092341162602522202993782792835301376)
theorem qc3 {i j:Int} (h:qd0 i j=true):qk4 i j:=by
 unfold qd0 at h
 rw[yad]at h
 exact⟨of_decide_eq_true h.1,of_decide_eq_true h.2⟩
def qbD:D->D->OD:=qhV qd0 λi j => .int (i/j)
theorem ve:OpS K qbD (rI qk4 λi j => .int (i/j)):=qe3 (λ_ _=>qc3) λ_ _ _ _=>rfl
def qgo:D->D->OD:=qhV (λ_ j=>decide (0<j)) λi j => .int (i%j)
theorem u3:OpS K qgo (rI (λ_ j=>0<j) λi j => .int (i%j)):=qe3 (λ_ _ h=>of_decide_eq_true h) λ_ _ _ _=>rfl
def ltD:D->D->OD:=iiD λi j => .bl (decide (i<j))
def gtD:D->D->OD:=iiD λi j => .bl (decide (j<i))
def geD:D->D->OD:=iiD λi j => .bl (decide (j<=i))
theorem qhW:OpS K ltD (rI0 λi j => .bl (decide (i<j))):=qaT λ_ _ _ _=>rfl
theorem qc4:OpS K gtD (rI0 λi j => .bl (decide (j<i))):=qaT λ_ _ _ _=>rfl
theorem qhX:OpS K geD (rI0 λi j => .bl (decide (j<=i))):=qaT λ_ _ _ _=>rfl
def sc2:D->D->Option Bool
 |.non,.non=>some true|.non,.int _=>some false|.int _,.non=>some false|.non,.bl _=>some false|.bl _,.non=>some false|.non,.str _=>some false|.str _,.non=>some false
 |.int i,.int j=>some (decide (i=j))|.bl i,.bl j=>some (decide (i=j))|.str i,.str j=>some (decide (i=j))
 |.int _,.str _=>some false|.str _,.int _=>some false|.bl _,.str _=>some false|.str _,.bl _=>some false
 |_,_=>none
def eqS(x y:D):OD:=(sc2 x y).map D.bl
def neS(x y:D):OD:=(sc2 x y).map λb=>D.bl (!b)
theorem qhY {A:Addr->Prop} {H:Hp} {x y:D} {v u:V} {b:Bool} (ix:Is K A H x v) (iy:Is K A H y u) (e:sc2 x y=some b):qnc v u=true/\decide (v=u)=b:=by
 cases x<;>cases y<;>simp only[sc2]at e<;>first
  |(cases e;done)
  |(cases ix;cases iy;cases e;exact⟨rfl,rfl⟩)
  |(cases ix;cases iy;cases e;exact⟨rfl,by simp⟩)
  |(cases ix;cases iy;cases e;exact⟨rfl,by rw[ycp];simp⟩)
theorem qjb:OpS K eqS rEq:=by
 intro A H x y d v u Q hn ix iy e k
 unfold eqS at e
 cases e1:sc2 x y with
 |none=>rw[e1]at e;cases e
 |some b=>
  rw[e1]at e
  cases e
  obtain⟨h1,h2⟩:=qhY ix iy e1
  exact⟨h1,by rw[h2];exact k _ H (zX.refl H) rfl⟩
theorem qe4:OpS K neS rNe:=by
 intro A H x y d v u Q hn ix iy e k
 unfold neS at e
 cases e1:sc2 x y with
 |none=>rw[e1]at e;cases e
 |some b=>
  rw[e1]at e
  cases e
  obtain⟨h1,h2⟩:=qhY ix iy e1
  exact⟨h1,by rw[h2];exact k _ H (zX.refl H) rfl⟩
def jZ:D->Bool
 |.non=>true
 |_=>false
theorem qc5 {A:Addr->Prop} {H:Hp} {x:D} {v:V} (ix:Is K A H x v):decide (v=V.non)=jZ x:=by
 cases x with
 |non=>cases ix;rfl
 |bl b=>cases ix;rfl
 |int i=>cases ix;rfl
 |str s=>cases ix;rfl
 |tup ds=>obtain⟨a,xs,rfl,_⟩:=ix;rfl
 |lst ds=>obtain⟨a,xs,rfl,_⟩:=ix;rfl
 |dic ds=>obtain⟨a,rfl,_⟩:=ix;rfl
 |fz ds=>obtain⟨a,rfl,_⟩:=ix;rfl
 |exc ds=>obtain⟨a,rfl,_⟩:=ix;rfl
 |exv ds k=>obtain⟨a,rfl,_⟩:=ix;rfl
def isN(x y:D):OD:=if jZ y then some (.bl (jZ x))else none
theorem vH:OpS K isN (λx y H Q=>y=.non/\Q (.bl (decide (x=.non))) H):=by
 intro A H x y d v u Q hn ix iy e k
 obtain⟨e1,e2⟩:=zD e
 subst e2
 have h:=qc5 iy
 rw[e1]at h
 refine⟨of_decide_eq_true h,?_⟩
 rw[qc5 ix]
 exact k _ H (zX.refl H) rfl
def ixD:D->D->OD
 |.tup ds,.int i=>atI ds i
 |.lst ds,.int i=>atI ds i
 |.fz ns,.int i=>(atI ns i).map D.int
 |_,_=>none
theorem IsL.atI {A:Addr->Prop} {H:Hp} {ds:List D} {xs:List V} {i:Int} {d:D} (h:IsL K A H ds xs) (e:L2.atI ds i=some d):∃v,L2.atI xs i=some v/\Is K A H d v:=by
 unfold L2.atI at e |-
 rw[h.length]
 cases e1:ixN ds.length i with
 |none=>rw[e1]at e;cases e
 |some j=>
  rw[e1]at e
  exact h.get e
theorem uj:OpS K ixD (λx y H Q=>qlm K x y H Q\/qln K x y H Q):=by
 intro A H x y d v u Q hn ix iy e k
 cases x<;>cases y<;>simp only[ixD]at e<;>try (cases e;done)
 ·rename_i ds i
  cases iy
  obtain⟨a,xs,rfl,ta,il⟩:=ix
  obtain⟨w,h1,h2⟩:=il.atI e
  exact .inr ⟨a,xs,i,w,rfl,rfl,ta.sq,h1,k w H (zX.refl H) h2⟩
 ·rename_i ds i
  cases iy
  obtain⟨a,xs,rfl,_,ta,il⟩:=ix
  obtain⟨w,h1,h2⟩:=il.atI e
  exact .inl ⟨a,xs,i,w,rfl,rfl,.inl (.inl ta),h1,k w H (zX.refl H) h2⟩
 ·rename_i ns i
  cases iy
  obtain⟨a,rfl,ta⟩:=ix
  cases e1:L2.atI ns i with
  |none=>rw[e1]at e;cases e
  | some m=>
   rw[e1]at e
   cases e
   have h1:L2.atI (ns.map V.int) i=some (V.int m):=by
    unfold L2.atI at e1 |-
    rw[lM_]
    cases e2:ixN ns.length i with
    |none=>rw[e2]at e1;cases e1
    |some j=>
     rw[e2]at e1
     have e3:ns[j]? = some m:=e1
     show(ns.map V.int)[j]? = some (V.int m)
     rw[gM_,e3];rfl
   exact .inl ⟨a,_,i,.int m,rfl,rfl,ta.sq,h1,k _ H (zX.refl H) rfl⟩
theorem IsL.inv1 {A:Addr->Prop} {H:Hp} {d:D} {vs:List V} (h:IsL K A H [d] vs):∃v,vs=[v]/\Is K A H d v:=by
 obtain⟨x,ys,e1,e2,e3⟩:=h
 have e3':ys=[]:=e3
 exact⟨x,by rw[e1,e3'],e2⟩
theorem IsL.inv2 {A:Addr->Prop} {H:Hp} {d d':D} {vs:List V} (h:IsL K A H [d,d'] vs):∃v w,vs=[v,w]/\Is K A H d v/\Is K A H d' w:=by
 obtain⟨x,ys,e1,e2,e3⟩:=h
 obtain⟨w,e4,e5⟩:=IsL.inv1 e3
 exact⟨x,w,by rw[e1,e4],e2,e5⟩
def qmP:List D->OD
 | [.int i]=>some (.int (if i<0 then -i else i))
 |_=>none
theorem qe5:vF K qmP (λxs H Q=>∃i,xs=[.int i]/\Q (.int (if i<0 then -i else i)) H):=by
 intro A H xs d vs Q hn h e k
 unfold qmP at e
 split at e
 ·rename_i i
  obtain⟨v,rfl,e2⟩:=IsL.inv1 h
  cases e2;cases e
  exact⟨i,rfl,k _ H (zX.refl H) rfl⟩
 ·cases e
def qjc:List D->OD
 | [.int i,.int j]=>some (.int (if j>i then j else i))
 |_=>none
def qjd:List D->OD
 | [.int i,.int j]=>some (.int (if j<i then j else i))
 |_=>none
theorem qe6:vF K qjc (λxs H Q=>∃i j,xs=[.int i,.int j]/\Q (.int (if j>i then j else i)) H):=by
 intro A H xs d vs Q hn h e k
 unfold qjc at e
 split at e
 ·rename_i i j
  obtain⟨v,w,rfl,e2,e3⟩:=IsL.inv2 h
  cases e2;cases e3;cases e
  exact⟨i,j,rfl,k _ H (zX.refl H) rfl⟩
 ·cases e
theorem qe7:vF K qjd (λxs H Q=>∃i j,xs=[.int i,.int j]/\Q (.int (if j<i then j else i)) H):=by
 intro A H xs d vs Q hn h e k
 unfold qjd at e
 split at e
 ·rename_i i j
  obtain⟨v,w,rfl,e2,e3⟩:=IsL.inv2 h
  cases e2;cases e3;cases e
  exact⟨i,j,rfl,k _ H (zX.refl H) rfl⟩
 ·cases e
def wV:List D->OD
 | [.int i,.int j]=>if qd0 i j then some (.tup [.int (i/j),.int (i%j)])else none
 |_=>none
theorem qbE:vF K wV (λxs H Q=>∃i j,xs=[.int i,.int j]/\qk4 i j/\∀p,H p=none->Q (.ref p) (upd H p (.tup [.int (i/j),.int (i%j)]))):=by
 intro A H xs d vs Q hn h e k
 unfold wV at e
 split at e
 ·rename_i i j
  obtain⟨v,w,rfl,e2,e3⟩:=IsL.inv2 h
  cases e2;cases e3
  obtain⟨e6,e7⟩:=zD e
  subst e7
  exact⟨i,j,rfl,qc3 e6,λp hp=>k _ _ (qw hp _) ⟨p,_,rfl,.inl qm,_,_,rfl,rfl,_,_,rfl,rfl,rfl⟩⟩
 ·cases e
def wW:List D->OD
 | [.int i]=>some (.int i)
 | [.bl b]=>some (.int (if b then 1 else 0))
 |_=>none
theorem qax:vF K wW (λxs H Q=>(∃i,xs=[.int i]/\Q (.int i) H)\/∃k,xs=[.bl k]/\Q (.int (if k then 1 else 0)) H):=by
 intro A H xs d vs Q hn h e k
 unfold wW at e
 split at e
 ·rename_i i
  obtain⟨v,rfl,e2⟩:=IsL.inv1 h
  cases e2;cases e
  exact .inl ⟨i,rfl,k _ H (zX.refl H) rfl⟩
 ·rename_i b
  obtain⟨v,rfl,e2⟩:=IsL.inv1 h
  cases e2;cases e
  exact .inr ⟨b,rfl,k _ H (zX.refl H) rfl⟩
 ·cases e
def jW:List D->OD
 | [.tup ds]=>some (.int ds.length)
 | [.lst ds]=>some (.int ds.length)
 | [.fz ns]=>some (.int ns.length)
 | [.str x]=>if qT x.length then some (.int x.length)else none
 |_=>none
def qnY(K:Fr0):List V->Hp->VK->Prop:=λxs H Q=>(∃p ys,xs=[.ref p]/\(SqL K H p ys\/SqT K H p ys)/\Q (.int ys.length) H)\/(∃z,xs=[.str z]/\z.length<=yap/\Q (.int z.length) H)
theorem z5{X:Cx}:jV X (.builtin "len") (qnY X.K):=jV.or qbx qby
theorem ji:vF K jW (qnY K):=by
 intro A H xs d vs Q hn h e k
 unfold jW at e
 split at e
 ·obtain⟨v,rfl,a,zs,rfl,ta,il⟩:=IsL.inv1 h
  cases e
  exact .inl ⟨a,zs,rfl,.inr ta.sq,by rw[il.length];exact k _ H (zX.refl H) rfl⟩
 ·obtain⟨v,rfl,a,zs,rfl,_,ta,il⟩:=IsL.inv1 h
  cases e
  exact .inl ⟨a,zs,rfl,.inl (.inl (.inl ta)),by rw[il.length];exact k _ H (zX.refl H) rfl⟩
 ·obtain⟨v,rfl,a,rfl,ta⟩:=IsL.inv1 h
  cases e
  exact .inl ⟨a,_,rfl,.inl ta.sq,by rw[lM_];exact k _ H (zX.refl H) rfl⟩
 ·rename_i z
  obtain⟨v,rfl,e2⟩:=IsL.inv1 h
  cases e2
  obtain⟨e4,e5⟩:=zD e
  subst e5
  exact .inr ⟨z,rfl,of_decide_eq_true e4,k _ H (zX.refl H) rfl⟩
 ·cases e
end
end L2.Sk
namespace L2.Sk
open PySem PySem.Spec PySem.Calls PyProof.Rows PySem.W
def qgp(h:Heap)(a D:Addr):Prop:=∃o,h.get? a=some o/\o.cls=.ref D
theorem qgp.looks {M:Model} {h:Heap} {a D:Addr} (I:qgp h a D):Looks M h (ye1 (.ref a)) (.ref D):=by
 obtain⟨o,h1,h2⟩:=I
 rw[<-h2]
 exact(Looks.ld h1).andThen .now
section
variable{prog:yai}{w:World}{A:yaj}{E:Value->yaa->Prop}{K:Frag}{h:Heap}{g:Array ycr}{d:Drawn}{t:Nat}{os:yff}{a D:Addr}
theorem qlC (hm:mroIn K D (.type "object")=some true) {tp:Value} {R:ycU->yaa->Prop} (X:K.In h) (I:qgp h a D) (hq:R (.ok (.ret (.ref D))) ⟨h,g,d,t,os⟩) :
  yb6 (model prog w) A (.call (.builtin "getset_descriptor.__get__") ⟨[.builtin "object.__class__",.ref a,tp],[]⟩) R ⟨h,g,d,t,os⟩:=by
 have L0:=I.looks (M:=model prog w)
 have L1:=looks_mroIn (M:=model prog w) X hm
 have hT5:(⟨h,g,d,t,os⟩:yaa).TypeIs (.builtin "object.__class__") "getset_descriptor":=ycR
 refine ybj F.slot_gs_get.plain F.entry_gs_get (F.slot_gs_get.check _ _ _ _ _ _ _ _ hT5 (F.args_gs_get _ _ _) ?_)
 have eo:".".intercalate ("object.__class__".cutAt '.').dropLast="object":=by decide +kernel
 repeat (any_goals (first|assumption|with_reducible refine L0.at ?_|with_reducible refine L1.at ?_|wp_step))
 rw[eo]
 refine L1.at ?_
 repeat (any_goals (first|assumption|with_reducible refine L0.at ?_|wp_step))
 refine⟨ydf _ (by decide +kernel),yd0 F.entry_object_class ?_⟩
 repeat (any_goals (first|assumption|with_reducible refine L0.at ?_|wp_step))
theorem qgK (ha:findIn K (.ref D) "__class__"=some (some (.builtin "object.__class__"))) (hm:mroIn K D (.type "object")=some true) {tk:Tok} {Q:Fin->yaa->Prop} (X:K.In h) (I:qgp h a D) (hq:Q (.done (.ret (.ref D))) ⟨h,g,d,t,os⟩) :
  wpAny (model prog w) A (yda.«object.__getattribute__» ⟨[.ref a,.str "__class__" tk],[]⟩) Q E ⟨h,g,d,t,os⟩:=by
 have L0:=I.looks (M:=model prog w)
 have L1:=looks_findIn (M:=model prog w) X ha
 have hT5:(⟨h,g,d,t,os⟩:yaa).TypeIs (.builtin "object.__class__") "getset_descriptor":=ycR
 have f5:=ycR
 have f6:=F.slot_gs_get.lookup
 have f7:=F.slot_gs_set.lookup
 repeat (any_goals (first|assumption|with_reducible refine L0.at ?_|with_reducible refine L1.at ?_|wp_step))
 refine qlC hm X I ?_
 repeat (any_goals (first|assumption|wp_step))
theorem qc6 (hb:Looks (model prog w) h (ye2 (.ref D) (.type "BaseException")) true) {nameV:Value} {Q:Unit->yaa->Prop} (I:qgp h a D) (hq:Q () ⟨h,g,d,t,os⟩):wpAny (model prog w) A (checkBuiltinCall "BaseException.__getattribute__" ⟨[.ref a,nameV],[]⟩) Q E ⟨h,g,d,t,os⟩:=by
 have hk:builtinKind "BaseException.__getattribute__"=some .slot:=by decide +kernel
 have hsplit:splitId "BaseException.__getattribute__"=some ("BaseException","__getattribute__"):=by decide +kernel
 have L0:=I.looks (M:=model prog w)
 have ha:=F.args_bexc_ga (.ref a) nameV
 simp only[checkBuiltinCall,hk,hsplit]
 refine yab ?_
 ·unfold yfD
  repeat (first|with_reducible refine L0.at ?_|with_reducible refine hb.at ?_|wp_step)
  exact hq
theorem qnj (FA:ye3 "ValueError") (hga:findIn K (.ref D) "__getattribute__"=some (some (.builtin "BaseException.__getattribute__"))) (hgt:findIn K (.ref D) "__getattr__"=some none) (ha:findIn K (.ref D) "__class__"=some (some (.builtin "object.__class__"))) (hm:mroIn K D (.type "object")=some true)
  (hb:Looks (model prog w) h (ye2 (.ref D) (.type "BaseException")) true) {tk:Tok} {fill expr:Bool} {Q:Value->yaa->Prop} (X:K.In h) (I:qgp h a D) (hq:Q (.ref D) ⟨h,g,d,t,os⟩) :
  wpAny (model prog w) A (getAttrBy (.ref a) (.str "__class__" tk) fill expr) Q E ⟨h,g,d,t,os⟩:=by
 have L0:=I.looks (M:=model prog w)
 have L1:=looks_findIn (M:=model prog w) X hga
 have L2:=looks_findIn (M:=model prog w) X hgt
 have f3:=FA.ga.bind (.ref a)
 have hx0:(expr&&ye4 (ybe "BaseException.__getattribute__"))=false:=by cases expr<;>rfl
 have hx2:(ybe "BaseException.__getattribute__"==ybe "object.__getattribute__")=false:=by decide +kernel
 have hx1:(ye4 (yam D)&&ybe "BaseException.__getattribute__"==ybe "object.__getattribute__")=false:=by rw[hx2];rfl
 repeat (any_goals (first|assumption|with_reducible refine L0.at ?_|with_reducible refine L1.at ?_|with_reducible refine L2.at ?_|wp_step))
 refine ybj FA.ga.plain F.entry_bexc_ga (qc6 hb I (qgK ha hm X I ?_))
 repeat (any_goals (first|assumption|wp_step))
theorem qje (FA:ye3 "ValueError") (hga:findIn K (.ref D) "__getattribute__"=some (some (.builtin "BaseException.__getattribute__"))) (hgt:findIn K (.ref D) "__getattr__"=some none) (ha:findIn K (.ref D) "__class__"=some (some (.builtin "object.__class__"))) (hm:mroIn K D (.type "object")=some true)
  (hb:Looks (model prog w) h (ye2 (.ref D) (.type "BaseException")) true) {Q:Option Value->yaa->Prop} (X:K.In h) (I:qgp h a D) (hq:Q (some (.ref D)) ⟨h,g,d,t+1,os⟩) :
  wpAny (model prog w) A (getAttr? (.ref a) "__class__") Q E ⟨h,g,d,t,os⟩:=by
 unfold getAttr? getAttrBy?
 repeat (any_goals (first|assumption|with_reducible apply qnj FA hga hgt ha hm hb X I|wp_step))
end
theorem qgL {K:Frag} {a D:Addr} (c:XK6 K D):KitX K (.ref a) (.ref D) (λh=>qgp h a D) where
 ty:=λ_ _ _ I=>I.looks
 it := λ_ _ X _=>by
  obtain⟨cdD,hcD⟩:=Option.isSome_iff_exists.mp c.is
  unfold clsIn at hcD
  split at hcD
  ·rename_i c' d' cd' sl' ho
   intro A' Q' E' s' k q
   unfold isType loadHead
   exact yab (wpAny_loadPart (k _ _ (X _ _ ho)) (yaq q))
  ·cases hcD
 ne := λh tp dd its n sl X htp=>by
  obtain⟨cdD,hcD⟩:=Option.isSome_iff_exists.mp c.is
  refine Bool.eq_false_iff.mpr λq=>?_
  have e:D=tp:=yeI (beq_iff_eq.mp q)
  subst e
  unfold clsIn at hcD
  split at hcD
  ·rename_i c' d' cd' sl' ho
   have z:=(X _ _ ho).symm.trans htp
   cases z
  ·cases hcD
 ca:=λ{prog w A E Q s} X p k=>by
  have I:=p
  obtain⟨h,g,d,t,os⟩:=s
  exact qje PySem.F.attrBase_ValueError.toExcAttrFacts c.ga c.gt c.cl c.ob (looks_subIn X c.be) X I k
theorem vI {X:Cx} {pins:List (Addr×Obj)} {σ:St} {H:Hp} {s:yaa} {A:yaj} {E:Value->yaa->Prop} {Q:Value->yaa->Prop} {a C:Addr} {c:Value} {b:Bool} (I:Inv X pins σ H s) (xc:XK6 X.K C) (hH:∃o vs,H a=some (.frz o (.own a))/\o.cls=.ref C/\o.data=.fields vs)
  (e:kitOne X.K (.ref C) c=some b) (h:∀tk,Q (.bool b) {s with toks:=tk}):wpAny (model X.prog X.w) A (call (.builtin "isinstance") [.ref a,c]) Q E s:=by
 obtain⟨o,vs,h1,h2,_⟩:=hH
 obtain⟨p,_⟩:=(show jf X.prog X.w H s.heap a (.frz o (.own a))from I.hok a _ h1)
 exact kia_one (qgL xc) I.kIn ⟨o,p,h2⟩ e (λz=>nomatch z) h
end L2.Sk
namespace L2.Sk
open PySem PySem.Spec PyProof.Rows
def tyD:D->String
 |.non=>"NoneType"
 |.bl _=>"bool"
 |.int _=>"int"
 |.str _=>"str"
 |.tup _=>"tuple"
 |.lst _=>"list"
 |.dic _=>"dict"
 |.fz _=>"list"
 |.exc _=>"exc"
 |.exv _ _=>"exc"
def wX(t T:String):Bool:=t==T||(t=="bool"&&T=="int")
def qcn:List String:=["NoneType","bool","int","str","tuple","list","dict"]
theorem qjf (d:D) (h:∀C,d ≠ .exc C) (h2:∀C k,d ≠ .exv C k):tyD d∈qcn:=by
 cases d<;>first|(simp[tyD,qcn];done)|exact absurd rfl (h _)|exact absurd rfl (h2 _ _)
structure qjg (K:Fr0) (T:String):Prop where
 ok:∀t∈qcn,yek K (.type t) (.type T)=some (wX t T)
 ex:T∈["int","bool","str","tuple","list","dict"]
 nx:wX "exc" T=false
theorem qe8 {K:Fr0}:qjg K "int":=⟨λt ht=>by
 simp only[qcn,yar,nN_,or_false]at ht
 rcases ht with rfl|rfl|rfl|rfl|rfl|rfl|rfl<;>kernel_rfl,by decide,by decide⟩
theorem qc7 {K:Fr0}:qjg K "bool":=⟨λt ht=>by
 simp only[qcn,yar,nN_,or_false]at ht
 rcases ht with rfl|rfl|rfl|rfl|rfl|rfl|rfl<;>kernel_rfl,by decide,by decide⟩
theorem qe9 {K:Fr0}:qjg K "str":=⟨λt ht=>by
 simp only[qcn,yar,nN_,or_false]at ht
 rcases ht with rfl|rfl|rfl|rfl|rfl|rfl|rfl<;>kernel_rfl,by decide,by decide⟩
theorem qbF {K:Fr0}:qjg K "tuple":=⟨λt ht=>by
 simp only[qcn,yar,nN_,or_false]at ht
 rcases ht with rfl|rfl|rfl|rfl|rfl|rfl|rfl<;>kernel_rfl,by decide,by decide⟩
section
variable{X:Cx}{pins:List (Addr×Obj)}{σ:St}{H:Hp}{s:yaa}{A:Addr->Prop}{E:Value->yaa->Prop}{Q:Value->yaa->Prop}
theorem qlD {d:D} {v:V} {u:Value} {T:String} (I:Inv X pins σ H s) (h:Is X.K A H d v) (rv:jh v u) (kt:qjg X.K T) (hQ:∀tk,Q (.bool (wX (tyD d) T)) {s with toks:=tk}) :
  wpAny (model X.prog X.w) X.A (call (.builtin "isinstance") [u,.type T]) Q E s:=by
 by_cases hx:∃C,d=.exc C
 ·obtain ⟨C,rfl⟩:=hx
  obtain⟨a,rfl,xa⟩:=h
  cases (show u=yam a from rv)
  have q:∀tk,Q (.bool false) {s with toks:=tk}:=λtk=>by
   have:=hQ tk
   rw[show tyD (.exc C)="exc" from rfl,kt.nx]at this
   exact this
  obtain⟨D0,h0,h1,h2⟩:=xa
  exact vI I h1 h2 (h1.no T kt.ex) q
 by_cases hx2:∃C k,d=.exv C k
 ·obtain ⟨C,k,rfl⟩:=hx2
  obtain⟨a,rfl,xa⟩:=h
  cases (show u=yam a from rv)
  have q:∀tk,Q (.bool false) {s with toks:=tk}:=λtk=>by
   have:=hQ tk
   rw[show tyD (.exv C k)="exc" from rfl,kt.nx]at this
   exact this
  obtain⟨D0,h0,h1,h2⟩:=xa.xc
  exact vI I h1 h2 (h1.no T kt.ex) q
 have e:=kt.ok (tyD d) (qjf d (λC hC=>hx ⟨C,hC⟩) λC k hC=>hx2 ⟨C,k,hC⟩)
 cases d with
 |exc C=>exact absurd ⟨C,rfl⟩ hx
 |exv C k=>exact absurd ⟨C,k,rfl⟩ hx2
 |non=>cases h;exact yJ I rv .non e hQ
 |bl b=>cases h;exact yJ I rv (.bl b) e hQ
 |int i=>cases h;exact yJ I rv (.int i) e hQ
 |str x=>cases h;exact yJ I rv (.str x) e hQ
 |tup ds=>
  obtain⟨a,xs,rfl,ta,il⟩:=h
  cases (show u=yam a from rv)
  obtain⟨its,r,p,z⟩:=I.tuple ta.sq
  obtain⟨o,h1,h2,_⟩:=p
  exact yaO yeT I.kIn ⟨o,h1,h2⟩ e (λz=>nomatch z) hQ
 |lst ds=>
  obtain⟨a,xs,rfl,hA,ta,il⟩:=h
  exact yJ I rv (.lst ta) e hQ
 |dic kvs=>
  obtain⟨a,rfl,hA,ta⟩:=h
  exact yJ I rv (.dK ta) e hQ
 |fz ns=>
  obtain⟨a,rfl,ta⟩:=h
  cases (show u=yam a from rv)
  obtain⟨its,r,p,z⟩:=I.list ta.sq
  obtain⟨o,h1,h2,_⟩:=p.isList
  exact yaO ydy I.kIn ⟨o,h1,h2⟩ e (λz=>nomatch z) hQ
end
def qbG(T:String)(f:M D):M D:=bnd f λd=>ret (.bl (wX (tyD d) T))
section
variable{X:Cx}{c:Fc}{a b e:Expr}{pos:Pos}
def qop(K:Fr0)(T:String):List V->Hp->VK->Prop:=λxs H Q=>∃v d A,xs=[v,.ty T]/\Is K A H d v/\Q (.bl (wX (tyD d) T)) H
theorem qgM {T:String} (kt:qjg X.K T):jV X (.builtin "isinstance") (qop X.K T):=by
 intro pins s σ H xs us Q I r h
 obtain⟨v,d,A,rfl,hi,q⟩:=h
 obtain⟨u,w,rfl,r1,r2⟩:=zk.two r
 cases (show w=ycz T from r2)
 exact qlD I hi r1 kt λtk=>⟨.bl _,H,I.tok tk,rfl,q⟩
theorem v5 {T:String} {x:Str} {p p2:Pos} {f:M D} (kt:qjg X.K T) (hg:Gl X "isinstance") (hm:X.mg "isinstance"=none) (hg2:Gl X x) (hm2:X.mg x=none) (hv2:yay x=some (.type T)) (ha:DE X c a f)
  (hv:yay "isinstance"=some (.builtin "isinstance"):=by first|rfl|exact PySem.boot_isinstance) (hn2:x≠"__name__":=by decide) (hdb2:(x==("__debug__":Str))=false:=by decide)
  (he:yac [a,.Name x p2] X.env=(false,eval a X.env)::yac [.Name x p2] X.env:=by rfl) (hpl:(yaz pos (yac [.Name x p2] X.env)).any (·.1)=false:=by rfl):DE X c (.Call (.Name "isinstance" p) [a,.Name x p2] [] pos) (qbG T f):=by
 obtain⟨t,pa,w⟩:=ha
 refine⟨_,vc (qgM kt) hg hm hv (ja pa (ja (qeB (v:=.ty T) hg2 hm2 hv2 rfl hn2 hdb2) uU (by rfl)) he) (by decide) (by decide) he hpl,λZ σ H Q r h=>w Z σ H _ r (Wp.bnd h λd Z1 v H1 r1 i1 g1 h1=>?_)⟩
 exact⟨v,d,_,rfl,i1,h1 _ H1 r1 rfl .refl⟩
end
def yx:List D->Option (List Bool)
 | []=>some []
 |.bl b::r=>(yx r).map (b::·)
 |_=>none
def qlE:List D->Option (List Int)
 | []=>some []
 |.int i::r=>(qlE r).map (i::·)
 |_=>none
theorem yU {K:Fr0} {A:Addr->Prop} {H:Hp}:∀{ds:List D}{xs:List V}{bs:List Bool},IsL K A H ds xs->yx ds=some bs->xs=bs.map V.bl
 | [],_,_,h,e=>by cases e;exact h
 | .bl b::r,_,bs,⟨x,ys,hx,h1,h2⟩,e=>by
  cases h1
  cases e1:yx r with
  |none=>simp[yx,e1]at e
  |some l=>
   simp[yx,e1]at e
   subst e
   rw[hx,yU h2 e1];rfl
 |.non::_,_,_,_,e=>by cases e
 |.int _::_,_,_,_,e=>by cases e
 |.str _::_,_,_,_,e=>by cases e
 |.tup _::_,_,_,_,e=>by cases e
 |.lst _::_,_,_,_,e=>by cases e
 |.dic _::_,_,_,_,e=>by cases e
 |.fz _::_,_,_,_,e=>by cases e
 |.exc _::_,_,_,_,e=>by cases e
 |.exv _ _::_,_,_,_,e=>by cases e
theorem qgN {bs:List Bool}:∀{us:List Value},zk (bs.map V.bl) us->LSm.BoolsAre us bs:=by
 induction bs with
 |nil=>intro us r;rw[ydO]at r;cases r;exact .nil
 | cons b bs ih=>
  intro us r
  rw[mC_]at r
  cases r with
  |cons r1 r2=>
   cases (show _=ybc b from r1)
   exact .cons b (ih r2)
section
variable{X:Cx}
theorem qc8 (hc:X.calm=true):jV X (.builtin "all") (λxs H Q=>∃(p:Addr)(bs:List Bool),xs=[.ref p]/\H p=some (.lst (bs.map V.bl))/\Q (.bl (bs.all id)) H):=by
 intro pins s σ H xs us Q I r h
 obtain⟨p,bs,rfl,hp,q⟩:=h
 obtain⟨u,rfl,ru⟩:=zk.one r
 cases ru
 obtain⟨its,rv,pl,hz⟩:=I.list (SqL.of hp)
 have hl:=pl.isList
 have hb:=qgN rv
 have hlt:p<s.heap.objs.size:=by obtain⟨_,e,_⟩:=hl;exact yag e
 refine call_all_walk (yb3 hl ?_)
 refine ⟨s.heap.objs.size,[s.heap.objs.size,p],[s.heap.objs.size],its.toArray.size,_,_,λi=>(bs[i]?).getD true,rfl,Walks.list (A:=X.A.in1) (I.ok.hd hc) _ p (yaw hlt) its.toArray,
  ⟨⟨_,Heap.get?_push_size _ rfl,rfl,rfl⟩,hl.push _⟩,λi v s' Q' E' hP hQ=>?_,λh' tk hk=>?_⟩
 ·obtain⟨b,e,rfl⟩:=hb.get i v (by simpa using hP)
  simp only[e,Option.getD_some]at hQ
  exact ybn hQ
 ·have e:((ya2 its.toArray.size).all λi=>(bs[i]?).getD true)=bs.all id:=by
   rw[sT_,hb.length];exact LSm.range_all bs
  rw[e]
  exact⟨.bl _,H,I.kept (LSm.kept_iter hk),rfl,q⟩
end
def qgq:List D->OD
 | [.lst ds]=>(yx ds).map λbs => .bl (bs.all id)
 |_=>none
section
variable{K:Fr0}
theorem qbH:vF K qgq (λxs H Q=>∃(p:Addr)(bs:List Bool),xs=[.ref p]/\H p=some (.lst (bs.map V.bl))/\Q (.bl (bs.all id)) H):=by
 intro A H xs d vs Q hn h e k
 unfold qgq at e
 split at e
 ·obtain⟨v,rfl,a,zs,rfl,_,ta,il⟩:=IsL.inv1 h
  obtain⟨bs,h1,h2⟩:=Option.map_eq_some_iff.mp e
  subst h2
  rw[yU il h1]at ta
  exact⟨a,bs,rfl,ta,k _ H (zX.refl H) rfl⟩
 ·cases e
end
section
variable{X:Cx}
def qhZ(K:Fr0):R2:=λx y H Q=>∃a b ys,x=.ref a/\y=.ref b/\SqT K H a []/\SqT K H b ys/\Q (.ref b) H
theorem qgO:OpR X (ya9 .Add) (qhZ X.K):=by
 intro pins s σ H x y v u Q I rx ry h
 obtain⟨a,b,ys,rfl,rfl,ha,hb,q⟩:=h
 cases rx
 cases ry
 obtain⟨its,r1,p1,_⟩:=I.tuple ha
 obtain⟨its2,r2,p2,_⟩:=I.tuple hb
 cases r1
 obtain⟨⟨cls,dd,data,sl⟩,ho,hc,n,hd⟩:=id p1
 obtain⟨⟨cls2,dd2,data2,sl2⟩,ho2,hc2,n2,hd2⟩:=id p2
 simp only at hc hd hc2 hd2
 subst hc hd hc2 hd2
 exact yeY ⟨_,ho,rfl⟩ ⟨_,ho2,rfl⟩ ydM yeH ycE ycA (ycu _ _)
   (tuple_addW0 a b [].toArray its2.toArray n n2 dd dd2 sl sl2 (by simp)) ⟨ho,ho2,⟨.ref b,H,I,rfl,q⟩⟩
def qlF(K:Fr0):R2:=λx y H Q=>(∃i j,x=.int i/\y=.int j/\Q (.int (i+j)) H)\/((∃i j,x=.str i/\y=.str j/\i.length+j.length<=yap/\Q (.str (i++j)) H)\/(qhZ K x y H Q\/(qlk K x y H Q\/qnU x y H Q)))
theorem qG:OpR X (ya9 .Add) (qlF X.K):=OpR.or qk6 (OpR.or qdS (OpR.or qgO (OpR.or qi0 qlt)))
end
def qP:D->D->OD
 |.int i,.int j=>some (.int (i+j))
 |.str x,.str y=>if qT (x.length+y.length)then some (.str (x++y))else none
 |.tup xs,.tup ys=>if qT (xs.length+ys.length)then some (.tup (xs++ys))else none
 |.lst xs,.lst ys=>if qT (xs.length+ys.length)then some (.lst (xs++ys))else none
 |_,_=>none
theorem qH {K:Fr0}:OpS K qP (qlF K):=by
 intro A H x y d v u Q hn ix iy e k
 cases x<;>cases y<;>simp only[qP]at e<;>try (cases e;done)
 ·rename_i i j
  cases ix;cases iy;cases e
  exact .inl ⟨i,j,rfl,rfl,k _ H (zX.refl H) rfl⟩
 ·rename_i i j
  cases ix;cases iy
  obtain⟨e1,e2⟩:=zD e
  subst e2
  exact .inr (.inl ⟨i,j,rfl,rfl,of_decide_eq_true e1,k _ H (zX.refl H) rfl⟩)
 ·rename_i ds es
  obtain⟨a,xs,rfl,ta,il⟩:=ix
  obtain⟨b,ys,rfl,tb,jl⟩:=iy
  obtain⟨e1,e2⟩:=zD e
  subst e2
  have hs:xs.length+ys.length<=yap:=by rw[il.length,jl.length];exact of_decide_eq_true e1
  refine .inr (.inr ?_)
  cases ds with
  |nil=>
   have hx:xs=[]:=il
   subst hx
   exact .inl ⟨a,b,ys,rfl,rfl,ta.sq,tb.sq,k _ H (zX.refl H) ⟨b,ys,rfl,tb,jl⟩⟩
  | cons d0 ds=>
   refine .inr (.inl ⟨a,b,xs,ys,rfl,rfl,ta.sq,tb.sq,?_,hs,λhy=>?_,λhy p hp=>?_⟩)
   ·obtain⟨x,zs,hx,_⟩:=il
    rw[hx];simp
   ·subst hy
    cases es with
    |nil=>rw[ya4]at k;exact k _ H (zX.refl H) ⟨a,xs,rfl,ta,il⟩
    |cons e0 es=>obtain⟨_,_,hx,_⟩:=jl;cases hx
   ·exact k _ _ (qw hp _) ⟨p,xs++ys,rfl,.inl qm,IsL.ext (Ext.of_same (qw hp _)) (λ_ h _=>h) (IsL.append il jl)⟩
 ·rename_i ds es
  obtain⟨a,xs,rfl,hA,ta,il⟩:=ix
  obtain⟨b,ys,rfl,hB,tb,jl⟩:=iy
  obtain⟨e1,e2⟩:=zD e
  subst e2
  have hs:xs.length+ys.length<=yap:=by rw[il.length,jl.length];exact of_decide_eq_true e1
  exact .inr (.inr (.inr (.inr ⟨a,b,xs,ys,rfl,rfl,ta,tb,hs,λp hp=>k _ _ (qw hp _) ⟨p,xs++ys,rfl,hn p hp,qm,IsL.ext (Ext.of_same (qw hp _)) (λ_ h _=>h) (IsL.append il jl)⟩⟩)))
section
variable{X:Cx}
def qnZ(K:Fr0):V->Option Int->Option Int->Hp->VK->Prop:=λx lo hi H Q=>∃a xs,x=.ref a/\SqT K H a xs/\(HT.sIx xs.length 0 lo=0/\HT.sIx xs.length xs.length hi=xs.length)/\Q (.ref a) H
theorem u4 {prog:yai} {w:World} {A:yaj} {E:Value->yaa->Prop} {s:yaa} {t sl:Addr} {items:Array Value} {vl vu:Value} {lo hi:Option Int} {Q:Value->yaa->Prop} (ht:IsTup s.heap t items) (hs:s.heap.IsSliceOf sl vl vu .none) (pl:ycY vl lo) (pu:ycY vu hi)
  (hw:HT.sIx items.size 0 lo=0/\HT.sIx items.size items.size hi=items.size) (h:Q (.ref t) s):wpAny (model prog w) A (yc9 (.ref t) (.ref sl)) Q E s:=by
 obtain⟨os,hos,hcs,hds⟩:=id hs
 have hTs:s.TypeIs (.ref sl) "slice":=⟨os,hos,hcs⟩
 unfold yc9
 try with_reducible refine ybp ?_
 first|refine yab (yaq ?_)|skip
 refine yab (yfl ht.typeIs (by decide) ?_)
 refine yab (wpAny_callSpecial?_slot (name:=ycv "__getitem__") ht.typeIs ybg
  (ycJ ybg ht.typeIs yeJ ?_ (yeZ _ _)))
 show wpAny _ _ (ydr (.ref t) >>= _) _ _ s
 refine yab (tupleItemsOf_ ht ?_)
 refine yab (ycw hTs ?_)
 rw[if_pos (by decide)]
 refine yab (HT.sliceApplied_gen hs pl pu ?_)
 have hyes:(((HT.sIx items.size 0 lo:Nat):Int)==0&&(1:Int)==1&&(HT.sIx items.size items.size hi-HT.sIx items.size 0 lo)==items.size)=true:=by
  rw[hw.1,hw.2];simp
 show wpAny _ _ (if(((HT.sIx items.size 0 lo:Nat):Int)==0&&(1:Int)==1&&(HT.sIx items.size items.size hi-HT.sIx items.size 0 lo)==items.size)=true then _ else _) _ _ s
 rw[if_pos hyes]
 refine yab (m:=ydt (.ref t)) ?_
 unfold ydt
 refine yab (ycw ht.typeIs ?_)
 refine yaq ?_
 rw[if_pos (by decide)]
 exact yab (yfB (yaq ⟨_,rfl,yaq h⟩))
theorem qgP:SlR X (qnZ X.K):=by
 intro pins s σ H x v vl vu lo hi sl Q I rx hs pl pu h
 obtain⟨a,xs,rfl,hx,hw,q⟩:=h
 cases rx
 obtain⟨its,r,ht,hz⟩:=I.tuple hx
 have hlen:its.toArray.size=xs.length:=by rw[sT_];exact r.length.symm
 refine⟨"tuple",_,PyProof.Rows.slot_tuple_getitem.lookup,ht.typeIs,?_⟩
 exact u4 ht hs pl pu (by rw[hlen];exact hw) ⟨.ref a,H,I,rfl,q⟩
theorem qlG:SlR X (λx lo hi H Q=>qnZ X.K x lo hi H Q\/qnT X.K x lo hi H Q):=SlR.or qgP qlj
end
def qfa(xs:List D)(lo hi:Option Int):List D:=(xs.drop (HT.sIx xs.length 0 lo)).take (HT.sIx xs.length xs.length hi-HT.sIx xs.length 0 lo)
section
variable{X:Cx}{c:Fc}{a b e:Expr}{pos p2:Pos}
def DO(X:Cx)(c:Fc)(e:Option Expr)(f:M (Option Int)):Prop:=∃t,PO X e t/\∀Z σ H Q,Rep X.K c Z σ H->(∀o Z',f Z=.ok (o,Z')->∀H',Rep X.K c Z' σ H'->Gr c.O σ H H'->Q o H')->(∀x Z',f Z=.exc x Z'->∀H',Rep X.K c Z' σ H'->Gr c.O σ H H'->c.E x H')->f Z ≠ .bad->t σ H Q
theorem yC:DO X c none (ret none):=⟨_,qiY,λZ σ H Q r h _ _=>h none Z rfl H r .refl⟩
def asI:D->Option Int
 |.int i=>some i
 |_=>none
def zu (f:M D):M (Option Int):=bnd f λd=>match d with
 |.int i=>ret (some i)
 |_=>λ_ => .bad
theorem yD {f:M D} (h:DE X c e f):DO X c (some e) (zu f):=by
 obtain⟨t,p,w⟩:=h
 refine⟨_,qiZ p,λZ σ H Q r h1 h2 h3=>w Z σ H _ r ?_⟩
 unfold zu bnd at h1 h2 h3
 cases e1:f Z with
 |ok q=>
  obtain⟨d,Z'⟩:=q
  rw[e1]at h1 h2 h3
  intro v H' r' i' g'
  cases d<;>simp only[ret]at h1 h2 h3<;>try (exact absurd rfl h3)
  rename_i i
  exact⟨i,i',h1 (some i) Z' rfl H' r' g'⟩
 |exc x Z'=>rw[e1]at h2;exact λH' r' g'=>h2 x Z' rfl H' r' g'
 |bad=>rw[e1]at h3;exact absurd rfl h3
end
def ym (X:Cx) (scope:Scope) (N':List Str) (fp:List Addr) (cl:List (Str×Addr)) (C:Addr) (s₀:yaa) (H₀:Hp) (pn:List (Addr×Obj)):Cx where
 prog:=X.prog
 w:=X.w
 K:=X.K
 mg:=X.mg
 base:=X.base
 A:=X.A
 N:=N'
 s₀:=s₀
 H₀:=H₀
 env:=compEnvC scope cl C X.env
 outer:=X.stack
 stack:=X.stack
 ex:=fp
 fn:=λ_=>false
 calm:=X.calm
 pn:=pn
 xe:=λ_ _=>False
def PF (X:Cx) (ifs:List Expr) (t:TT):Prop:=∀(pins:List (Addr×Obj))(s:yaa)(σ:St)(H:Hp)(Q:Bool->Hp->Prop),Inv X pins σ H s->t σ H Q ->
 wpAny (model X.prog X.w) X.A (forIn ifs true λc r=>if r=true then do let ok <-isTrue c X.env (eval c X.env);pure (ybk ok)else pure (ybk r)) (TP X pins σ Q) X.xe s
theorem qlH{X:Cx}:PF X [] (λ_ H Q=>Q true H):=λpins s σ H Q I h=>wpAny_tests_nil ⟨H,I,h⟩
theorem qlI{X:Cx}{e:Expr}{t:TT}(h:PT X e t):PF X [e] t:=λpins s σ H Q I hw=>wpAny_tests_one (h pins s σ H Q I hw)
structure uk (X:Cx) (scope:Scope) (N':List Str) (nt:Nat) (fr:List Nat):Prop where
 kind:scope.kind=.function
 nocell:∀y∈scope.names,y.2 ≠ .cell
 names:∀y∈scope.names,y.2=.local->scope.names.lookup y.1=some .local
 frees:∀y∈scope.names,y.2=.free->X.env.kindOf y.1=some .cell
 len:N'.length=nt+fr.length
 slot:∀i j,fr[i]? = some j->∃x,N'[nt+i]? = some x/\X.N[j]? = some x/\scope.names.lookup x=some .free
theorem vJ {env:yax}:∀(names:List (Str×ycI))(cs:List (Str×Addr)),(∀y∈names,y.2=.free->∃a,env.cells.lookup y.1=some a)->(∀n a,cs.lookup n=some a->env.cells.lookup n=some a) ->
  ∃ cl,(forIn names cs λx r=>match x with|(name,kind)=>if(kind==yaV)=true then do let a <-cellOf env name;pure (ybk ((name,a)::r))else pure (ybk r):Sem (List (Str×Addr)))=pure cl /\
   (∀n a,cl.lookup n=some a->env.cells.lookup n=some a)/\(∀n,(∃a,cs.lookup n=some a)->∃a,cl.lookup n=some a)/\∀y∈names,y.2=.free->∃a,cl.lookup y.1=some a
 | [],cs,_,h=>⟨cs,rfl,h,λ_ h=>h,λy hy=>by cases hy⟩
 | (n,k)::r,cs,hf,h=>by
  have hr:∀y∈r,y.2=.free->∃a,env.cells.lookup y.1=some a:=λy hy=>hf y (mM _ hy)
  rw[List.forIn_cons]
  by_cases hk:k=.free
  ·subst hk
   obtain⟨a,ha⟩:=hf (n,.free) mS_ rfl
   have ha':env.cells.lookup n=some a:=ha
   have hcell:cellOf env n=pure a:=by unfold cellOf;rw[ha']
   obtain ⟨cl,e1,e2,e3,e4⟩:=vJ r ((n,a)::cs) hr (λm b hm=>by
    rw[yaP]at hm
    cases e:m==n with
    |true=>rw[e]at hm;cases hm;rw[ycQ e];exact ha'
    |false=>rw[e]at hm;exact h m b hm)
   refine⟨cl,?_,e2,λm ⟨b,hm⟩=>e3 m ?_,λy hy hyf=>?_⟩
   ·show((if(yaV==yaV)=true then _ else _) >>= _)=_
    rw[if_pos (by rfl),hcell]
    exact e1
   ·rw[yaP]
    cases e:m==n with
    |true=>exact⟨a,rfl⟩
    |false=>exact⟨b,hm⟩
   ·rcases List.mem_cons.mp hy with rfl|hy
    ·exact e3 n ⟨a,by rw[yaP];simp⟩
    ·exact e4 y hy hyf
  ·have hb:(k==yaV)=false:=by simpa using hk
   obtain⟨cl,e1,e2,e3,e4⟩:=vJ r cs hr h
   refine⟨cl,?_,e2,e3,λy hy hyf=>?_⟩
   ·show((if(k==yaV)=true then _ else _) >>= _)=_
    rw[hb,if_neg yao]
    exact e1
   ·rcases List.mem_cons.mp hy with rfl|hy
    ·exact absurd hyf hk
    ·exact e4 y hy hyf
theorem qaU {env:yax} {scope:Scope} (hf:∀y∈scope.names,y.2=.free->∃a,env.cells.lookup y.1=some a) :
  ∃cl,closureFor scope env=pure cl/\(∀n a,cl.lookup n=some a->env.cells.lookup n=some a)/\∀y∈scope.names,y.2=.free->∃a,cl.lookup y.1=some a:=by
 obtain⟨cl,e1,e2,_,e4⟩:=vJ scope.names [] hf (λn a h=>by cases h)
 refine⟨cl,?_,e2,e4⟩
 unfold closureFor
 show(forIn scope.names [] _ >>= _)=_
 have e5:(forIn scope.names [] λx r=>match x with|(name,kind)=>if(kind==yaV)=true then do let a <-cellOf env name;pure (ybk ((name,a)::r))else pure (ybk r):Sem (List (Str×Addr)))=pure cl:=e1
 first
  |(rw[e5];rfl)
  |(simp only[bind_pure_comp,e5];rfl)
theorem yn {env:yax}:∀{names:List (Str×ycI)}{x:Str},names.lookup x=some .free->env.scope.kind=.function->env.kindOf x=some .cell ->
  (names.map λ(n,k)=>if(k==yaV&&env.scope.kind == .function&&env.kindOf n==some .cell) then(n,ycG) else(n,k)).lookup x=some .cell
 | [],_,h,_,_=>by simp at h
 | (n,k)::r,x,h,hk,hx=>by
  have ih := @yn env r x
  show yfu x ((if(k==yaV&&env.scope.kind == .function&&env.kindOf n==some .cell)=true then(n,ycG) else(n,k))::_)=_
  cases hxn:x==n with
  |true=>
   have e:x=n:=ycQ hxn
   subst e
   simp only[yaP,hxn]at h
   cases h
   rw[if_pos (by rw[hk,hx];rfl)]
   simp only[yaP,hxn]
  |false=>
   simp only[yaP,hxn]at h
   by_cases hc:(k==yaV&&env.scope.kind == .function&&env.kindOf n==some .cell)=true
   ·rw[if_pos hc];simp only[yaP,hxn];exact ih h hk hx
   ·rw[if_neg hc];simp only[yaP,hxn];exact ih h hk hx
theorem js {env:yax}:∀{names:List (Str×ycI)}{x:Str}{q:ycI},(names.map λ(n,k)=>if(k==yaV&&env.scope.kind == .function&&env.kindOf n==some .cell) then(n,ycG) else(n,k)).lookup x=some q ->
  q=.cell\/q=.free->(∀y∈names,y.2 ≠ .cell)->∃k,(x,k)∈names/\k=.free
 | [],_,_,h,_,_=>by simp at h
 | (n,k)::r,x,q,h,hq,hc=>by
  have ih := @js env r x q
  have h':yfu x ((if(k==yaV&&env.scope.kind == .function&&env.kindOf n==some .cell)=true then(n,ycG) else(n,k))::(r.map λ(n,k)=>if(k==yaV&&env.scope.kind == .function&&env.kindOf n==some .cell) then(n,ycG) else(n,k)))=some q:=h
  have hr:∀y∈r,y.2 ≠ .cell:=λy hy=>hc y (mM _ hy)
  by_cases hcd:(k==yaV&&env.scope.kind == .function&&env.kindOf n==some .cell)=true
  ·rw [if_pos hcd]at h'
   cases hxn:x==n with
   |true=>
    have e:x=n:=ycQ hxn
    subst e
    refine⟨k,mS_,?_⟩
    rw[yad,yad]at hcd
    exact ycQ hcd.1.1
   |false=>
    simp only[yaP,hxn]at h'
    obtain⟨k',m,e⟩:=ih h' hq hr
    exact⟨k',mM _ m,e⟩
  ·rw [if_neg hcd]at h'
   cases hxn:x==n with
   |true=>
    have e:x=n:=ycQ hxn
    subst e
    simp only[yaP,hxn]at h'
    cases h'
    rcases hq with rfl|rfl
    ·exact absurd rfl (hc (x,.cell) mS_)
    ·exact⟨.free,mS_,rfl⟩
   |false=>
    simp only[yaP,hxn]at h'
    obtain⟨k',m,e⟩:=ih h' hq hr
    exact⟨k',mM _ m,e⟩
def zl(nt:Nat)(fr:List Nat)(σ:St):St:=yan nt none++fr.map λj=>(σ[j]?).join
def qnk (X:Cx) (tg:Expr) (ifs:List Expr) (elt:Expr) (scope:Scope) (N':List Str) (wi:TI) (nt:Nat) (fr:List Nat):TE:=λσ H Q=>wi σ H λJ H1=>∀acc fp cl C s₀ H₀ pn,H1 acc=none ->
 ∃(g:TG)(tt:TT)(te:TE),PG (ym X scope N' fp cl C s₀ H₀ pn) tg g/\PF (ym X scope N' fp cl C s₀ H₀ pn) ifs tt/\PE (ym X scope N' fp cl C s₀ H₀ pn) elt te /\
 ∃W:Nat->Nat->St->Hp->Prop,(∃m,W 0 m (zl nt fr σ) (upd H1 acc (.lst []))) /\
 ∀ i m σ' H',W i m σ' H'->(J.stop i H'/\Q (.ref acc) H')\/(J.go i H'/\∀x H'',J.yld i H' x H''->g x σ' H'' λσ2 H2=>tt σ2 H2 λb H3=>
  if b=true then te σ2 H3 λy H4=>∃ys,H4 acc=some (.lst ys)/\ys.length<yap/\∃m',m'<m/\W (i+1) m' σ2 (upd H4 acc (.lst (ys++[y])))else ∃m',m'<m/\W (i+1) m' σ2 H3)
section
variable{X:Cx}{tg iter elt:Expr}{ifs:List Expr}{scope:Scope}{pos:Pos}{wi:TI}{N':List Str}{nt:Nat}{fr:List Nat}
theorem qco {prog:yai} {w:World} {A:yaj} {R:ycU->yaa->Prop} {s:yaa} {it acc:Value} {env:yax} (I:Nat->yaa->Prop)
  (turn : ∀n s,I n s->wpAny (model prog w) A (pyNext it) (λr sY=>match r with
   |none=>R (.ok .next) sY
   | some v=>wpAny (model prog w) A (yco tg it v) (λ_ s1'=>wpAny (model prog w) A (ycs tg env v) (λ_ sV=>
     wpAny (model prog w) A (forIn ifs true λc r=>if r=true then do let ok <-isTrue c env (eval c env);pure (ybk ok)else pure (ybk r)) (λok sJ=>
      if ok=true then wpAny (model prog w) A (eval elt env) (λx sQ=>
       wpAny (model prog w) A (call (.builtin "list.append") [acc,x]) (λ_ sK=>∃m,m<n/\I m sK) (λ_ _=>False) sQ) (λ_ _=>False) sJ
      else ∃m,m<n/\I m sJ) (λ_ _=>False) sV) (λ_ _=>False) s1') (λ_ _=>False) sY) (λ_ _=>False) s)
  (n:Nat) (h:I n s):yb6 (model prog w) A (.compLoop (.ListComp elt [⟨tg,iter,ifs,0⟩] scope pos) 0 it acc env) R s:=by
 refine codeAny_loop rfl I (λn s hI=>?_) n h
 show wpAny _ A ((compTurn (.ListComp elt [⟨tg,iter,ifs,0⟩] scope pos) 0 it acc env).onRaise (λx=>do yby x env;theTreesLotGoes x)) _ _ s
 refine wpAny_noted ?_
 rw[compTurn_list]
 refine yab (ya6 (yab (yaF (turn n s hI) (λr sY h₁=>?_) λ_ _ h'=>h'.elim)))
 cases r with
 |none=>exact yaq h₁
 | some v=>
  refine yab (yaF h₁ (λ_ s1' hK'=>?_) λ_ _ h'=>h'.elim)
  refine yab (yaF hK' (λ_ sV hG=>yab (yaF hG (λok sJ h₃=>?_) λ_ _ h'=>h'.elim)) λ_ _ h'=>h'.elim)
  cases ok with
  |false=>exact yaq ⟨rfl,h₃⟩
  |true=>
   exact yab (yab (yaF h₃ (λx sQ hX=>yab (yaF hX (λ_ sK hV=>yaq (yaq ⟨rfl,hV⟩)) λ_ _ h'=>h'.elim)) λ_ _ h'=>h'.elim))
theorem qd1 {pins:List (Addr×Obj)} {σ:St} {H:Hp} {s:yaa} {h₁:Heap} {tk:Nat} {fp:List Addr} {cl:List (Str×Addr)} (S:uk X scope N' nt fr) (I:Inv X pins σ H s) (hfp:∀b∈fp,qet X pins H b)
  (hex:∀b∈fp,∃o,s.heap.get? b=some o) (cl1:∀n a,cl.lookup n=some a->X.env.cells.lookup n=some a) (cl2:∀y∈scope.names,y.2=.free->∃a,cl.lookup y.1=some a)
  (hns:∃m,h₁.Ns s.heap.objs.size m) (old:∀b o,s.heap.get? b=some o->h₁.get? b=some o) :
  Inv (ym X scope N' fp cl s.heap.objs.size s H (X.pn++pins)) [] (zl nt fr σ) H {s with heap:=h₁,toks:=tk}:=by
 have stkB:∀b∈frs X.stack,b=X.env.locals\/b∈X.fs:=λb hb=>List.mem_cons.mp (I.stkSub b hb)
 have hC:∀b o,s.heap.get? b=some o->b≠s.heap.objs.size:=λb o e=>yaw (yag e)
 obtain⟨m,hn⟩:=hns
 refine ⟨⟨I.ok.mod,S.kind,I.ok.glob,I.ok.blt,yah _,λx y c h1 h2=>I.ok.inj x y c (cl1 x c h1) (cl1 y c h2),λx hx=>?_,λx c hx=>?_,I.ok.hd,I.ok.frames,.inl rfl,λb hb=>⟨?_,λx c hx=>(hfp b hb).2.2.2.2.1 x c (cl1 x c hx)⟩,I.bs,yaH I.ok.bsz I.sz,λb o e hb=>?_,λb hb hb2=>?_,I.stack,I.stkFree⟩,
  rfl,I.bare,Un.kept old,⟨m,hn,λi x v h1 h2 h3=>?_⟩,λx c hx=>?_,I.hok.fresh (yah _),λx c hx=>I.freeC x c (cl1 x c hx),λp hp=>?_,I.hok.kept old,?_⟩
 ·have hx':∃k,(x,k)∈scope.names/\k=.free:=by
   rcases hx with hx|hx
   ·exact js (env:=X.env) (q:=.cell) hx (.inl rfl) S.nocell
   ·exact js (env:=X.env) (q:=.free) hx (.inr rfl) S.nocell
  obtain⟨k,m,rfl⟩:=hx'
  exact cl2 (x,.free) m rfl
 ·have hx':false=true:=hx
  cases hx'
 ·obtain⟨o,e⟩:=hex b hb
  exact hC b o e
 ·obtain⟨f0,f1,f2,f3,f4,f5⟩:=hfp b hb
  rcases f3 with z|z
  ·exact I.ok.noex b o e z
  ·exact absurd (yat (yag e) (yaH I.ok.bsz z)) (ybC _)
 ·obtain⟨f0,f1,f2,f3,f4,f5⟩:=hfp b hb
  rcases stkB b hb2 with z|z
  ·exact f1 z
  ·exact f2 z
 ·-- names
  have hi:nt<=i:=by
   apply ycL
   intro hlt
   unfold zl at h2
   rw[List.getElem?_append_left (by simpa using hlt),List.getElem?_replicate]at h2
   split at h2<;>cases h2
  have h2':(fr.map λj=>(σ[j]?).join)[i-nt]? = some (some v):=by
   unfold zl at h2
   rw[List.getElem?_append_right (by simpa using hi),yaZ]at h2
   exact h2
  rw[gM_]at h2'
  cases ej:fr[i-nt]? with
  |none=>rw[ej]at h2';cases h2'
  | some j=>
   rw[ej]at h2'
   have hσ:(σ[j]?).join=some v:=by simpa using h2'
   have hσ':σ[j]? = some (some v):=by
    cases e:σ[j]? with
    |none=>rw[e]at hσ;cases hσ
    |some o=>
     rw[e]at hσ
     have:o=some v:=hσ
     rw[this]
   obtain⟨y,hy1,hy2,hy3⟩:=S.slot (i-nt) j ej
   have hii:nt+(i-nt)=i:=by omega
   rw[hii]at hy1
   have exy:y=x:=by
    have h1':N'[i]? = some x:=h1
    rw[h1']at hy1
    exact(yaA hy1).symm
   subst exy
   have hmem:(y,yaV)∈scope.names:=yaK hy3
   have hcellk:X.env.kindOf y=some .cell:=S.frees (y,.free) hmem rfl
   obtain⟨m0,hn0,hl0⟩:=I.loc
   obtain⟨u,ru,lk⟩:=hl0 j y v hy2 hσ' (.inr (.inl hcellk))
   refine⟨u,ru,.inr ⟨.inl (yn hy3 I.ok.kind hcellk),?_⟩⟩
   rcases lk with⟨k1,_⟩|⟨_,c,e,z⟩
   ·rw[hcellk]at k1;cases k1
   ·obtain⟨a,ea⟩:=cl2 (y,.free) hmem rfl
    have ea':=cl1 y a ea
    rw[e]at ea'
    cases ea'
    obtain⟨o,ho,hd⟩:=z
    exact⟨c,ea,o,old _ _ ho,hd⟩
 ·obtain⟨v,o,ho,hd⟩:=I.cell x c (cl1 x c hx)
  exact⟨v,o,old _ _ ho,hd⟩
 ·have hp':p∈X.pn++pins:=by
   rcases mA_.mp (show p∈(X.pn++pins)++[]from hp)with z|z
   ·exact z
   ·cases z
  obtain⟨e,n,ne,nf,d⟩:=I.pin p hp'
  refine⟨old _ _ e,n,hC _ _ e,λz=>?_,d⟩
  rcases stkB p.1 z with z|z
  ·exact ne z
  ·exact nf z
 ·show(zl nt fr σ).length=N'.length
  unfold zl
  rw[lA_,yaZ,lM_,S.len]
theorem qgQ {pins:List (Addr×Obj)} {σ σ':St} {H H':Hp} {s s':yaa} {h':Heap} {fp:List Addr} {cl:List (Str×Addr)} (I:Inv X pins σ H s) (hfp:∀b∈fp,qet X pins H b)
  (J:Inv (ym X scope N' fp cl s.heap.objs.size s H (X.pn++pins)) [] σ' H' s') (sb:yb4 s.heap.objs.size s'.heap h'):Inv X pins σ H' {s' with heap:=h' }:=by
 have hC:H' s.heap.objs.size=none:=J.free
 have u:=J.base
 have big:∀b o,s.heap.get? b=some o->b≠s.heap.objs.size:=λb o e=>yaw (yag e)
 have get':∀b,b≠s.heap.objs.size->h'.get? b=s'.heap.get? b:=λb hb=>sb.2 b hb
 have u2:Un (frs X.stack) fp H H' s.heap h' :=
  ⟨λb o e n hb hx=>(get' b (big b o e)).trans (u.keep b o e n hb hx),λb o e n hb hx=>by
   obtain⟨sl,q⟩:=u.slot b o e n hb hx
   exact⟨sl,(get' b (big b o e)).trans q⟩,u.free,λb o e hx=>by
   obtain⟨o',q⟩:=u.there b o e hx
   exact⟨o',(get' b (big b o e)).trans q⟩,u.tups,u.frzs,u.tbls⟩
 refine I.call' (s':={s' with heap:=h' }) (ch:=fp) J.os u2 (λb o e=>?_) J.bare (λb hb=>?_)
 ·refine(J.hok b o e).stay (λc v hc q=>?_) (λ_ q=>q) λ_ _ q=>q
  refine(get' c ?_).trans q
  rintro rfl
  rcases hc with hc|hc
  ·rw[<-hc,hC]at e;cases e
  ·rw[hC]at hc;cases hc
 ·obtain⟨f0,f1,f2,f3,f4,f5⟩:=hfp b hb
  exact⟨f3,f1,f4,f5⟩
theorem qjh (hc:X.calm=true) (hi:PI X tg iter wi) (S:uk X scope N' nt fr)
  (hs:∀x,ycB iter X.env x=pure x:=by intro _;rfl):PE X (.ListComp elt [⟨tg,iter,ifs,0⟩] scope pos) (qnk X tg ifs elt scope N' wi nt fr):=by
 intro pins s σ H Q I hw
 obtain⟨cl,hcl,cl1,cl2⟩:=qaU (env:=X.env) (scope:=scope) (λy hy hf=>I.ok.has y.1 (.inl (S.frees y hy hf)))
 rw[eval_ListComp]
 refine wpAny_comprehension_free (use:=none) rfl hs hcl S.kind S.names (thn (hi pins s σ H _ I hw) λv s1 h1=>thn h1 λitv s2 h2=>?_)
 obtain⟨it,fp,tn,J,H2,e,I2,T,st2,f2,hR⟩:=h2
 subst e
 have hacc:H2 s2.heap.objs.size=none:=I2.hok.fresh (yah _)
 refine yaX (wpAny_newFunctionEnv S.nocell (by intro y hy;simp at hy) (λh₁ hns1 hsb1=>?_) S.kind)
 dsimp only at hns1 hsb1 |-
 have I3:Inv X pins σ (upd H2 s2.heap.objs.size (.lst [])) {s2 with heap:=s2.heap.push {cls:=.type "list",dict:=none,data:=.seq ([]:List Value).toArray} } :=
  I2.lnew (t':=s2.toks) (its:=[]) .nil (yaN _)
 generalize hs3:({s2 with heap:=s2.heap.push {cls:=.type "list",dict:=none,data:=.seq ([]:List Value).toArray} }:yaa)=s3 at I3
 have hh3:s2.heap.push {cls:=.type "list",dict:=none,data:=.seq ([]:List Value).toArray}=s3.heap:=by rw[<-hs3]
 rw[hh3]at hns1 hsb1
 have old:∀b o,s3.heap.get? b=some o->h₁.get? b=some o:=λb o q=>hsb1.extBut b o (yaw (yag q)) (Heap.get?_push_of_some _ q)
 have objs2:∀b∈fp,∃o,s2.heap.get? b=some o:=λb hb=>by
  obtain⟨o,q,_⟩:=T.obj 0 _ st2 b hb
  exact⟨o,q⟩
 have keep23:∀b o,s2.heap.get? b=some o->s3.heap.get? b=some o:=λb o q=>by rw[<-hh3];exact Heap.get?_push_of_some _ q
 have fpne:∀b∈fp,b≠s2.heap.objs.size:=λb hb=>by
  obtain⟨o,q⟩:=objs2 b hb
  exact yaw (yag q)
 have f3:∀b∈fp,qet X pins (upd H2 s2.heap.objs.size (.lst [])) b:=λb hb=>⟨by rw[qu (fpne b hb)];exact(f2 b hb).1,(f2 b hb).2⟩
 have J0:Inv (ym X scope N' fp cl s3.heap.objs.size s3 (upd H2 s2.heap.objs.size (.lst [])) (X.pn++pins)) [] (zl nt fr σ) (upd H2 s2.heap.objs.size (.lst [])) {s3 with heap:=h₁,toks:=s3.toks} :=
  qd1 S I3 f3 (λb hb=>(objs2 b hb).imp λo q=>keep23 b o q) cl1 cl2 ⟨_,hns1⟩ old
 obtain⟨g,tt,te,hg,hf,he,W,⟨m0,w0⟩,turn⟩:=hR s2.heap.objs.size fp cl s3.heap.objs.size s3 (upd H2 s2.heap.objs.size (.lst [])) (X.pn++pins) hacc
 have T0:tn 0 h₁:=T.keep 0 _ _ st2 λb hb o q=>old b o (keep23 b o q)
 have s3e:∀tk:Nat,({s2 with heap:=h₁,toks:=tk}:yaa)={s3 with heap:=h₁,toks:=tk}:=λtk=>by rw[<-hs3]
 have loop:∀tk:Nat,yb6 (model X.prog X.w) X.A (.compLoop (.ListComp elt [⟨tg,iter,ifs,0⟩] scope pos) 0 (.ref it) (.ref s2.heap.objs.size) (compEnvC scope cl s3.heap.objs.size X.env))
   (compPost (model X.prog X.w) X.A X.xe none (EP X pins σ Q) (.ref s2.heap.objs.size) s3.heap.objs.size) {s3 with heap:=h₁,toks:=tk}:=λtk=>by
  have stat:∀{H':Hp},(∀b∈fp,H' b=none)->∀b∈fp,qet (ym X scope N' fp cl s3.heap.objs.size s3 (upd H2 s2.heap.objs.size (.lst [])) (X.pn++pins)) [] H' b:=λ{H'} hn b hb=>by
   obtain⟨o,q⟩:=objs2 b hb
   have hbC:b≠s3.heap.objs.size:=yaw (yag (keep23 b o q))
   refine⟨hn b hb,hbC,λz=>?_,.inl hb,λx c hx=>(f2 b hb).2.2.2.2.1 x c (cl1 x c hx),λp hp=>?_⟩
   ·rcases List.mem_cons.mp (I2.stkSub b z)with z|z
    ·exact(f2 b hb).2.1 z
    ·exact(f2 b hb).2.2.1 z
   ·have hp':p∈X.pn++pins:=by
     rcases mA_.mp (show p∈(X.pn++pins)++[]from hp)with z|z
     ·exact z
     ·cases z
    exact(f2 b hb).2.2.2.2.2 p hp'
  have fr0:∀b∈fp,upd H2 s2.heap.objs.size (.lst []) b=none:=λb hb=>(f3 b hb).1
  refine qco (λn s'=>∃i σ' H',Inv (ym X scope N' fp cl s3.heap.objs.size s3 (upd H2 s2.heap.objs.size (.lst [])) (X.pn++pins)) [] σ' H' s'/\tn i s'.heap/\(∀b∈fp,H' b=none)/\W i n σ' H') ?_ m0
   ⟨0,zl nt fr σ,_,J0.tok tk,T0,fr0,w0⟩
  rintro n s4 ⟨i,σ4,H4,J4,st4,fr4,w4⟩
  rcases turn i n σ4 H4 w4 with⟨stop,qn⟩|⟨go,step⟩
  ·refine thn (T.done (ym X scope N' fp cl s3.heap.objs.size s3 (upd H2 s2.heap.objs.size (.lst [])) (X.pn++pins)) rfl rfl rfl hc i [] s4 σ4 H4 _ J4 (stat fr4) st4 stop) λr s5 ⟨hr,J5⟩=>?_
   subst hr
   obtain⟨m5,n5,_⟩:=J5.loc
   refine⟨m5,n5,λh' sb=>⟨.ref s2.heap.objs.size,H4,qgQ I3 f3 J5 sb,rfl,qn⟩⟩
  ·refine thn (T.item (ym X scope N' fp cl s3.heap.objs.size s3 (upd H2 s2.heap.objs.size (.lst [])) (X.pn++pins)) rfl rfl rfl hc i [] s4 σ4 H4 _ J4 (stat fr4) st4 go) λr s5 ⟨u,hr,h5⟩=>?_
   subst hr
   refine thn h5 λ_ s6 ⟨x,H6,J6,r6,y6,st6,fr6⟩=>?_
   have J6':=J6.pinned (stat fr6) (T.obj _ _ st6)
   have again:∀{σ7:St}{H7:Hp}{s7:yaa},Inv (ym X scope N' fp cl s3.heap.objs.size s3 (upd H2 s2.heap.objs.size (.lst [])) (X.pn++pins)) ([]++qbq fp s6.heap) σ7 H7 s7->(∃m',m'<n/\W (i+1) m' σ7 H7) ->
     ∃m,m<n/\∃i σ' H',Inv (ym X scope N' fp cl s3.heap.objs.size s3 (upd H2 s2.heap.objs.size (.lst [])) (X.pn++pins)) [] σ' H' s7/\tn i s7.heap/\(∀b∈fp,H' b=none)/\W i m σ' H':=λ{σ7 H7 s7} I7 hm=>by
    obtain⟨m',hm,w7⟩:=hm
    refine⟨m',hm,i+1,σ7,H7,I7.unpinned,T.keep _ _ _ st6 λb hb o q=>(I7.pin (b,o) (mr_ _ (mr_ _ (uF hb q)))).1,λb hb=>?_,w7⟩
    obtain⟨o,q,d⟩:=T.obj _ _ st6 b hb
    exact(I7.pin (b,o) (mr_ _ (mr_ _ (uF hb q)))).2.1
   refine thn (hg _ s6 σ4 H6 x u _ J6' r6 (step x H6 y6)) λ_ s7 ⟨σ7,H7,J7,q7⟩=>?_
   refine thn (hf _ s7 σ7 H7 _ J7 q7) λok s8 ⟨H8,J8,q8⟩=>?_
   cases ok with
   |false=>
    rw[if_neg yao]at q8 |-
    exact again J8 q8
   |true=>
    rw[if_pos rfl]at q8 |-
    refine thn (he _ s8 σ7 H8 _ J8 q8) λz s9 ⟨y,H9,J9,r9,ys,hys,hz,hm⟩=>?_
    refine thn (qbA _ s9 σ7 H9 (.ref s2.heap.objs.size) [y] (.ref s2.heap.objs.size) [z] (λ_ H'=>H'=upd H9 s2.heap.objs.size (.lst (ys++[y]))) J9 rfl (.cons r9 .nil) ⟨_,ys,y,rfl,rfl,hys,hz,rfl⟩) λ_ s10 ⟨_,H10,J10,_,e10⟩=>?_
    subst e10
    exact again J10 hm
 have zV:∀tk:Nat,yb6 (model X.prog X.w) X.A (.compStart (.ListComp elt [⟨tg,iter,ifs,0⟩] scope pos) 0 (.ref it) (.ref s2.heap.objs.size) (compEnvC scope cl s3.heap.objs.size X.env))
   (compPost (model X.prog X.w) X.A X.xe none (EP X pins σ Q) (.ref s2.heap.objs.size) s3.heap.objs.size) {s3 with heap:=h₁,toks:=tk}:=λtk=>
  codeAny_compStart_list (loop tk) (T.self X.A 0 _ _ _ T0 (loop tk))
 have fin:=zV (s2.toks+([]:List (Str×Value)).length)
 rw[<-s3e]at fin
 rw[<-hh3]at fin
 rw[hh3]at fin |-
 exact fin
end
structure qgr (K:Fr0) (A:Addr->Prop) (H:Hp) (ds:List D) (J:It):Prop where
 go:∀H' i d,Ext A H H'->ds[i]? = some d->J.go i H'
 yl:∀H' i d x H'',Ext A H H'->ds[i]? = some d->J.yld i H' x H''->zX H' H''/\Is K A H'' d x
 stop:∀H',Ext A H H'->J.stop ds.length H'
def CnT(c:Fc)(σ:St)(H:Hp)(a:Addr):Prop:=Cn c σ a/\(H a).isSome=true
def WpI (K:Fr0) (c:Fc) (σ:St) (H:Hp) (Q:It->Hp->Prop):R (List D×Env)->Prop
 |.ok (ds,Z)=>∀J H',Rep K c Z σ H'->qgr K (CnT c σ H') H' ds J->Gr c.O σ H H'->Q J H'
 |.exc x Z=>∀H',Rep K c Z σ H'->Gr c.O σ H H'->c.E x H'
 |.bad=>False
def DI(X:Cx)(c:Fc)(tg it:Expr)(f:M (List D)):Prop:=∃w,PI X tg it w/\∀Z σ H Q,Rep X.K c Z σ H->WpI X.K c σ H Q (f Z)->w σ H Q
section
variable{X:Cx}{c:Fc}{tg a b e:Expr}{pos:Pos}
def qoq(K:Fr0)(tl:TE):TI:=λσ H R=>tl σ H λx H1=>(∃a,x=.ref a/\(∃xs,SqL K H1 a xs)/\R (Itl K a) H1)\/(∃a,x=.ref a/\(∃xs,SqT K H1 a xs)/\R (Itt K a) H1)
theorem qlJ {tl:TE} (hl:PE X e tl):PI X tg e (qoq X.K tl):=by
 intro pins s σ H R I h
 refine thn (hl pins s σ H _ I h) λv s1 ⟨x,H1,I1,r1,q1⟩=>?_
 rcases q1 with⟨a,e,⟨xs,hq⟩,q⟩|⟨a,e,⟨xs,hq⟩,q⟩
 ·subst e
  cases r1
  obtain⟨its,rv,p,hz⟩:=I1.list hq
  refine yb3 p.isList ?_
  refine⟨s1.heap.objs.size,[s1.heap.objs.size],_,_,H1,rfl,I1.kept (t':=s1.toks) λb o e=>Heap.get?_push_of_some _ e,qeH a _,⟨_,Heap.get?_push_size _ rfl,rfl,rfl⟩,λb hb=>?_,q⟩
  have e:b=s1.heap.objs.size:=by simpa using hb
  subst e
  exact I1.fpOk (yah _) (I1.hok.fresh (yah _))
 ·subst e
  cases r1
  obtain⟨its,rv,p,hz⟩:=I1.tuple hq
  refine ycx (show s1.heap.IsTuple a its.toArray from p) ?_
  refine⟨s1.heap.objs.size,[s1.heap.objs.size],_,_,H1,rfl,I1.kept (t':=s1.toks) λb o e=>Heap.get?_push_of_some _ e,qdQ a _,⟨_,Heap.get?_push_size _ rfl,rfl,rfl⟩,λb hb=>?_,q⟩
  have e:b=s1.heap.objs.size:=by simpa using hb
  subst e
  exact I1.fpOk (yah _) (I1.hok.fresh (yah _))
def qmQ:D->Option (List D)
 |.tup ds=>some ds
 |.lst ds=>some ds
 |.fz ns=>some (ns.map .int)
 |_=>none
theorem qc9 {K:Fr0} {A:Addr->Prop} {H:Hp}:∀ns:List Int,IsL K A H (ns.map .int) (ns.map V.int)
 | []=>rfl
 |n::ns=>⟨.int n,ns.map V.int,rfl,rfl,qc9 ns⟩
theorem qfb {K:Fr0} {A:Addr->Prop} {H:Hp} {ds:List D} {xs:List V} {a:Addr} (hs:∀H',Ext A H H'->SqL K H' a xs) (il:IsL K A H ds xs):qgr K A H ds (Itl K a) where
 go:=λH' i d ex hd=>by
  obtain⟨x,h1,h2⟩:=il.get hd
  exact⟨xs,x,hs H' ex,h1⟩
 yl:=λH' i d x H'' ex hd y=>by
  obtain⟨e,y⟩:=y
  subst e
  obtain⟨x',h1,h2⟩:=il.get hd
  have h3:=y xs (hs _ ex)
  rw[h1]at h3
  cases h3
  exact⟨zX.refl _,Is.ext ex (λ_ h _=>h) h2⟩
 stop:=λH' ex=>⟨xs,hs H' ex,by rw[il.length];exact yah _⟩
theorem qlK {K:Fr0} {A:Addr->Prop} {H:Hp} {ds:List D} {xs:List V} {a:Addr} (hs:qao K H a xs) (il:IsL K A H ds xs):qgr K A H ds (Itt K a) where
 go:=λH' i d ex hd=>by
  obtain⟨x,h1,h2⟩:=il.get hd
  exact⟨xs,x,(hs.elim (λh => .inl (ex.tup _ _ h)) .inr:qao K H' a xs).sq,h1⟩
 yl:=λH' i d x H'' ex hd y=>by
  obtain⟨e,y⟩:=y
  subst e
  obtain⟨x',h1,h2⟩:=il.get hd
  have h3:=y xs (hs.elim (λh => .inl (ex.tup _ _ h)) .inr:qao K _ a xs).sq
  rw[h1]at h3
  cases h3
  exact⟨zX.refl _,Is.ext ex (λ_ h _=>h) h2⟩
 stop:=λH' ex=>⟨xs,(hs.elim (λh => .inl (ex.tup _ _ h)) .inr:qao K H' a xs).sq,by rw[il.length];exact yah _⟩
def qbn(f:M D):M (List D):=bnd f λd=>lift (qmQ d)
theorem vf {K:Fr0} {σ:St} {H:Hp} {Q:It->Hp->Prop} {o:Option (List D)} {Z:Env} (h:WpI K c σ H Q (lift o Z)):∃ds,o=some ds/\∀J H',Rep K c Z σ H'->qgr K (CnT c σ H') H' ds J->Gr c.O σ H H'->Q J H':=by
 cases o with
 |none=>exact h.elim
 |some d=>exact⟨d,rfl,h⟩
theorem WpI.gr {K:Fr0} {σ:St} {H H1:Hp} {Q:It->Hp->Prop}:∀{r:R (List D×Env)},WpI K c σ H Q r->Gr c.O σ H H1->WpI K c σ H1 Q r
 |.ok (d,Z),h,g=>λv H' hr hi hg=>h v H' hr hi (g.trans hg)
 |.exc x Z,h,g=>λH' hr hg=>h H' hr (g.trans hg)
 |.bad,h,_=>h
theorem Wp.bndI {K:Fr0} {σ:St} {H:Hp} {Q:It->Hp->Prop} {f:M D} {k:D->M (List D)} {Z:Env} {Q':VK} (h:WpI K c σ H Q (Sk.bnd f k Z)) (hQ:∀d Z' v H',Rep K c Z' σ H'->Is K (Cn c σ) H' d v->Gr c.O σ H H'->WpI K c σ H' Q (k d Z')->Q' v H'):Wp K c σ H Q' (f Z):=by
 unfold Sk.bnd at h
 cases e:f Z with
 |ok p=>rw[e]at h;exact λv H' hr hi hg=>hQ p.1 p.2 v H' hr hi hg (h.gr hg)
 |exc x Z'=>rw[e]at h;exact h
 |bad=>rw[e]at h;exact h
theorem WpL.bndI {K:Fr0} {σ:St} {H:Hp} {Q:It->Hp->Prop} {f:M (List D)} {k:List D->M (List D)} {Z:Env} {Q':List V->Hp->Prop} (h:WpI K c σ H Q (Sk.bnd f k Z)) (hQ:∀d Z' v H',Rep K c Z' σ H'->IsL K (Cn c σ) H' d v->Gr c.O σ H H'->WpI K c σ H' Q (k d Z')->Q' v H'):WpL K c σ H Q' (f Z):=by
 unfold Sk.bnd at h
 cases e:f Z with
 |ok p=>rw[e]at h;exact λv H' hr hi hg=>hQ p.1 p.2 v H' hr hi hg (h.gr hg)
 |exc x Z'=>rw[e]at h;exact h
 |bad=>rw[e]at h;exact h
theorem Is.tr{K:Fr0}{A:Addr->Prop}{H:Hp}{d:D}{v:V}(h:Is K A H d v):Is K (λa=>A a/\(H a).isSome=true) H d v:=Is.ext Ext.refl (λa h1 h2=>⟨h1,h2⟩) h
theorem qda {f:M D} (h:DE X c e f):DI X c tg e (qbn f):=by
 obtain⟨t,p,w⟩:=h
 refine⟨_,qlJ p,λZ σ H Q r h=>w Z σ H _ r (Wp.bndI h λd Z1 v H1 r1 i1 g1 h1=>?_)⟩
 obtain⟨ds,e,h2⟩:=vf h1
 have i2:Is X.K (CnT c σ H1) H1 d v:=i1.tr
 cases d<;>simp only[qmQ]at e<;>try (cases e;done)
 ·cases e
  obtain⟨a,xs,rfl,ta,il⟩:=i2
  exact .inr ⟨a,rfl,⟨xs,ta.sq⟩,h2 _ H1 r1 (qlK ta il) .refl⟩
 ·cases e
  obtain⟨a,xs,rfl,hA,ta,il⟩:=i2
  exact .inl ⟨a,rfl,⟨xs,.inl (.inl ta)⟩,h2 _ H1 r1 (qfb (λH' ex => .inl (.inl (ex.at_ _ _ hA ta))) il) .refl⟩
 ·cases e
  obtain⟨a,rfl,ta⟩:=i2
  exact .inl ⟨a,rfl,⟨_,ta.sq⟩,h2 _ H1 r1 (qfb (λH' ex=>(ta.elim (λ⟨o,h⟩ => .inl ⟨o,ex.frz _ _ _ h⟩) .inr:qlw X.K H' a _).sq) (qc9 _)) .refl⟩
def qcf(lo:Int)(n:Nat):List D:=(ya2 n).map λi => .int (lo+(i:Nat))
theorem qlL {K:Fr0} {A:Addr->Prop} {H:Hp} (lo:Int) (n:Nat):qgr K A H (qcf lo n) (Itr lo n) where
 go:=λH' i d ex hd=>by
  have:i<(qcf lo n).length:=(gI_.mp hd).1
  show i<n
  simpa [qcf] using this
 yl := λH' i d x H'' ex hd y=>by
  obtain⟨e,y⟩:=y
  subst e
  subst y
  refine⟨zX.refl _,?_⟩
  unfold qcf at hd
  rw[gM_]at hd
  cases e2:(ya2 n)[i]? with
  |none=>rw[e2]at hd;cases hd
  | some j=>
   rw[e2]at hd
   have hj:j=i:=by
    have:=(gI_.mp e2).2
    simpa using this.symm
   subst hj
   cases hd
   rfl
 stop:=λH' ex=>by show n<=(qcf lo n).length;simp[qcf]
def qh0:List D->Option (List D)
 | [.int j]=>if decide (-(2 ^ 62)<=j)&&decide (j<2 ^ 62)then some (qcf 0 j.toNat)else none
 |_=>none
def u5(f:M (List D)):M (List D):=bnd f λds=>lift (qh0 ds)
theorem vg {f:M (List D)} {p:Pos} (hg:Gl X "range") (hm:X.mg "range"=none) (ha:DA X c [a] f) (hs:yac [a] X.env=[(false,eval a X.env)]:=by rfl):DI X c tg (.Call (.Name "range" p) [a] [] pos) (u5 f):=by
 obtain⟨t,p,w⟩:=ha
 refine⟨_,qeI hg hm p hs,λZ σ H Q r h=>w Z σ H _ r (WpL.bndI h λds Z1 vs H1 r1 i1 g1 h1=>?_)⟩
 obtain⟨es,e,h2⟩:=vf h1
 unfold qh0 at e
 split at e
 ·rename_i j
  obtain⟨v,rfl,e2⟩:=IsL.inv1 i1
  cases e2
  by_cases hb:(decide (-(2 ^ 62)<=j)&&decide (j<2 ^ 62))=true
  ·rw[if_pos hb]at e
   cases e
   rw[yad]at hb
   exact⟨j,rfl,of_decide_eq_true hb.1,of_decide_eq_true hb.2,h2 _ H1 r1 (qlL 0 _) .refl⟩
  ·rw[if_neg hb]at e
   cases e
 ·cases e
def zL (g:D->Env->Option Env) (b:MS):List D->MS
 | [],Z => .ok (.nx Z)
 | d::ds,Z=>match g d Z with
  |none => .bad
  |some Z1=>match b Z1 with
   |.ok (.nx Z2)=>zL g b ds Z2
   |.ok (.ct Z2)=>zL g b ds Z2
   |.ok (.bk Z2) => .ok (.nx Z2)
   |.ok (.rt r Z2) => .ok (.rt r Z2)
   |.exc x Z2 => .exc x Z2
   |.bad => .bad
def qay(f:M (List D))(g:D->Env->Option Env)(b:MS):MS:=sbnd f λds=>zL g b ds
theorem WpI.sbnd {K:Fr0} {σ:St} {H:Hp} {D':qes} {f:M (List D)} {k:List D->MS} {Z:Env} {Q':It->Hp->Prop} (h:WpS K c σ H D' (Sk.sbnd f k Z))
  (hQ:∀ds Z' J H',Rep K c Z' σ H'->qgr K (CnT c σ H') H' ds J->Gr c.O σ H H'->WpS K c σ H' D' (k ds Z')->Q' J H'):WpI K c σ H Q' (f Z):=by
 unfold Sk.sbnd at h
 cases e:f Z with
 |ok p=>rw[e]at h;exact λv H' hr hi hg=>hQ p.1 p.2 v H' hr hi hg (h.gr hg.s)
 |exc x Z'=>rw[e]at h;exact λH' hr hg=>h σ H' hr hg.s
 |bad=>rw[e]at h;exact h
theorem GrS.extT{σ σ':St}{H H':Hp}(g:GrS c.O σ H σ' H'):Ext (CnT c σ H) H H':=⟨g.ext.tup,g.ext.frz,λb o hb h=>g.ext.at_ b o hb.1.2 h⟩
theorem GrS.cnT{σ σ':St}{H H':Hp}(g:GrS c.O σ H σ' H'){a:Addr}(h:CnT c σ H a):Cn c σ' a:=⟨h.1.1,g.cl a h.1.2 h.2⟩
theorem qaz{α:Type}{l:List α}{i:Nat}(h:i<l.length):l.drop i=l[i]::l.drop (i+1):=List.drop_eq_getElem_cons h
theorem v6 {it:Expr} {body:List Stmt} {f:M (List D)} {g:D->Env->Option Env} {b:MS} (hp:ycP (model X.prog X.w) X.A X.env X.xe) (hc:X.calm=true) (hi:DI X c tg it f) (hg:DG X c tg g) (hb:DSs X c body b)
  (hs:∀x,ycB it X.env x=pure x:=by intro _;rfl):DS X c (.For tg it body [] pos) (qay f g b):=by
 obtain⟨wi,pi,wI⟩:=hi
 obtain⟨tg',pg,wg⟩:=hg
 obtain⟨tb,pb,wb⟩:=hb
 refine⟨_,qk3 hp hc pi pg pb hs,λZ σ H D' r h=>wI Z σ H _ r (WpI.sbnd h λds Z1 J H1 r1 iok g1 h1=>?_)⟩
 refine⟨λi m σ' H'=>m=ds.length-i/\i<=ds.length/\∃Z',Rep X.K c Z' σ' H'/\GrS c.O σ H1 σ' H'/\WpS X.K c σ' H' D' (zL g b (ds.drop i) Z'),⟨ds.length,by simp,yaN _,Z1,r1,.refl,by simpa using h1⟩,?_⟩
 rintro i m σ' H' ⟨rfl,hi,Z',r',gs,w⟩
 by_cases hlt:i<ds.length
 ·refine .inr ⟨iok.go H' i ds[i] gs.extT (by simp[hlt]),λσ2 H2=>∃Z2,Rep X.K c Z2 σ2 H2/\GrS c.O σ H1 σ2 H2/\WpS X.K c σ2 H2 D' (zL g b (ds.drop (i+1)) Z2),λσ2 H2 n=>⟨ds.length-(i+1),by omega,rfl,hlt,n⟩,λx H'' y=>?_⟩
  obtain⟨sm,ix⟩:=iok.yl H' i ds[i] x H'' gs.extT (by simp[hlt]) y
  rw[qaz hlt]at w
  unfold zL at w
  have gs2:GrS c.O σ H1 σ' H'':=gs.trans (Gr.of_same sm).s
  have ix2:Is X.K (Cn c σ') H'' ds[i] x:=Is.ext Ext.refl (λa ha _=>gs2.cnT ha) ix
  cases e1:g ds[i] Z' with
  |none=>simp only[e1]at w;exact w.elim
  | some Z2=>
   simp only[e1]at w
   refine wg Z' σ' H'' ds[i] x Z2 _ (r'.same sm) ix2 e1 λσ2 r2 g2 _=>wb Z2 σ2 H'' _ r2 ?_
   have w2:=w.gr ((Gr.of_same sm).s.trans g2)
   have gs3:GrS c.O σ H1 σ2 H'':=gs2.trans g2
   cases e2:b Z2 with
   |ok fl=>
    cases fl with
    |nx Z3=>simp only[e2]at w2;exact λσ3 H3 r3 g3=>⟨Z3,r3,gs3.trans g3,w2.gr g3⟩
    |ct Z3=>simp only[e2]at w2;exact λσ3 H3 r3 g3=>⟨Z3,r3,gs3.trans g3,w2.gr g3⟩
    |bk Z3=>simp only[e2]at w2;exact w2
    |rt d Z3=>simp only[e2]at w2;exact w2
   |exc x Z3=>simp only[e2]at w2;exact w2
   |bad=>simp only[e2]at w2;exact w2
 ·have hie:i=ds.length:=by omega
  subst hie
  rw[yd9 (yah _)]at w
  exact .inl ⟨iok.stop H' gs.extT,w σ' H' r' .refl⟩
end
def cin (B0:Addr->Prop) (H1:Hp) (O' J':List Nat) (Io':Addr->Prop) (acc:Addr) (S':Nat->Option (Option V)):Fc where
 J:=J'
 O:=O'
 P:=O'
 B:=λa=>B0 a/\a≠acc
 H0:=upd H1 acc (.lst [])
 Io:=λa=>Io' a\/a=acc
 E:=λ_ _=>False
 S:=S'
def z6 (g:D->Env->Option Env) (t:M Bool) (e:M D):List D->List D->Env->R (List D×Env)
 | [],acc,Z => .ok (acc,Z)
 | d :: ds,acc,Z=>match g d Z with
  |none => .bad
  | some Z1=>match t Z1 with
   |.ok (true,Z2)=>match e Z2 with
    |.ok (y,Z3)=>if qT (acc.length+1)then z6 g t e ds (acc++[y]) Z3 else .bad
    |_ => .bad
   |.ok (false,Z2)=>z6 g t e ds acc Z2
   |_ => .bad
def yK(nt:Nat)(fr:List Nat)(Z:Env):Env:=yan nt none++fr.map λj=>(Z[j]?).join
def qkI (fo:Option (Nat×Nat)) (Ze Z:Env):Env:=match fo with
 |none=>Z
 |some (i,j)=>Z.set j (Ze[i]?).join
def yL (nt:Nat) (fr:List Nat) (fo:Option (Nat×Nat)) (f:M (List D)) (g:D->Env->Option Env) (t:M Bool) (e:M D):M D:=bnd f λds Z=>match z6 g t e ds [] (yK nt fr Z) with
 |.ok (ys,Ze) => .ok (.lst ys,qkI fo Ze Z)
 |_ => .bad
def DF(X:Cx)(c:Fc)(ifs:List Expr)(f:M Bool):Prop:=∃t,PF X ifs t/\∀Z σ H Q,Rep X.K c Z σ H->WpB X.K c σ H Q (f Z)->t σ H Q
def foO (fo:Option (Nat×Nat)):List Nat:=match fo with
 |none=>[]
 |some (i,_)=>[i]
def foJ (c:Fc) (fo:Option (Nat×Nat)):List Nat:=match fo with
 |none=>[]
 |some (i,j)=>if c.J.contains j then [i]else []
section
variable{X:Cx}{c:Fc}{tg a b e:Expr}{pos:Pos}
theorem qdb:DF X c [] (ret true):=⟨_,qlH,λZ σ H Q r h=>h H r .refl⟩
theorem qlM {f:M Bool} (h:DT X c e f):DF X c [e] f:=by
 obtain⟨t,p,w⟩:=h
 exact⟨_,qlI p,w⟩
theorem WpI.bnd {K:Fr0} {σ:St} {H:Hp} {Q:VK} {f:M (List D)} {k:List D->M D} {Z:Env} {Q':It->Hp->Prop} (h:Wp K c σ H Q (Sk.bnd f k Z))
  (hQ:∀ds Z' J H',Rep K c Z' σ H'->qgr K (CnT c σ H') H' ds J->Gr c.O σ H H'->Wp K c σ H' Q (k ds Z')->Q' J H'):WpI K c σ H Q' (f Z):=by
 unfold Sk.bnd at h
 cases e:f Z with
 |ok p=>rw[e]at h;exact λv H' hr hi hg=>hQ p.1 p.2 v H' hr hi hg (h.gr hg)
 |exc x Z'=>rw[e]at h;exact h
 |bad=>rw[e]at h;exact h
theorem Rep.grow {K:Fr0} {B0:Addr->Prop} {H1:Hp} {O' J':List Nat} {Io':Addr->Prop} {acc:Addr} {S':Nat->Option (Option V)} {Z:Env} {σ:St} {H:Hp} {xs ys:List V} (r:Rep K (cin B0 H1 O' J' Io' acc S') Z σ H) (h:H acc=some (.lst xs)) (ho:∀j∈O',σ[j]? ≠ some (some (.ref acc))) :
  Rep K (cin B0 H1 O' J' Io' acc S') Z σ (upd H acc (.lst ys)):=by
 have ext:Ext (λa=>a≠acc) H (upd H acc (.lst ys)):=⟨λb zs hb=>by rw[qu (vb hb h (by intro z;cases z))];exact hb,λb o u hb=>by rw[qu (vb hb h (by intro z;cases z))];exact hb,λb o hb hq=>by rw[qu hb];exact hq⟩
 have cnext:Ext (Cn (cin B0 H1 O' J' Io' acc S') σ) H (upd H acc (.lst ys)):=⟨ext.tup,ext.frz,λb o hb hq=>ext.at_ b o hb.1.2 hq⟩
 refine⟨r.len,λi d hd=>?_,λj hj v hv=>?_,r.inj,r.b0,λb o hb hio=>?_,λb hb=>?_,r.pO,r.ps⟩
 ·obtain ⟨v,h1,h2⟩:=r.val i d hd
  refine⟨v,h1,?_⟩
  rcases h2 with⟨hi,ds,a,zs,h3,h5,h6,h7⟩|⟨hi,h3⟩
  ·subst h5
   have ne:a≠acc:=λe=>ho i hi (by rw[h1,e])
   exact .inl ⟨hi,ds,a,zs,h3,rfl,by rw[qu ne];exact h6,IsL.ext cnext (λ_ h _=>h) h7⟩
  ·exact .inr ⟨hi,Is.ext cnext (λ_ h _=>h) h3⟩
 ·obtain⟨a,zs,h1,h2,h3⟩:=r.own j hj v hv
  subst h1
  have ne:a≠acc:=λe=>ho j hj (by rw[hv,e])
  exact⟨a,zs,rfl,by rw[qu ne];exact h2,h3⟩
 ·have ne:b≠acc:=λe=>hio (.inr e)
  rw[qu ne]
  exact r.kp b o hb hio
 ·by_cases e:b=acc
  ·subst e;rw[qm]at hb;cases hb
  ·rw[qu e]at hb;exact r.dm b hb
theorem wY {α:Type} {o:Option (Option α)} {a:α} (h:o.join=some a):o=some (some a):=by
 cases o with
 |none=>cases h
 |some x=>have:x=some a:=h;rw[this]
theorem qnl {K:Fr0} {c:Fc} {i j:Nat} {t:Tg} {d:D} {ds:List D} (h:qdY K c.J j t d ds):qdY K (foJ c (some (i,j))) i t d ds:=by
 cases t with
 |l=>exact h
 |d C dx l=>
  obtain⟨h1,h2,h3⟩:=h
  refine⟨h1,?_,h3⟩
  unfold foJ
  simp[h2]
theorem qlN {K:Fr0} {c:Fc} {i j:Nat} {t:Tg} {d:D} {ds:List D} (h:qdY K (foJ c (some (i,j))) i t d ds):qdY K c.J j t d ds:=by
 cases t with
 |l=>exact h
 |d C dx l=>
  obtain⟨h1,h2,h3⟩:=h
  refine⟨h1,?_,h3⟩
  unfold foJ at h2
  simp only at h2
  split at h2
  ·rename_i hc;simpa using hc
  ·cases h2
def qkJ (c:Fc) (nt:Nat) (fr:List Nat) (fo:Option (Nat×Nat)):Prop:=match fo with
 |none=>∀j∈fr,j ∉ c.O
 |some (i,j)=>j∈c.O/\nt<=i/\fr[i-nt]? = some j/\∀k j',fr[k]? = some j'->nt+k≠i->j' ∉ c.O
def qd2 (σ:St) (fo:Option (Nat×Nat)) (a:Addr):Prop:=match fo with
 |none=>False
 |some (_,j)=>σ[j]? = some (some (.ref a))
theorem vK {nt:Nat} {fr:List Nat} {σ:St} {k j:Nat} (h:fr[k]? = some j):(zl nt fr σ)[nt+k]? = some (σ[j]?).join:=by
 unfold zl
 rw[List.getElem?_append_right (by simp),yaZ,gM_,show nt+k-nt=k by omega,h]
 rfl
theorem qd3 {nt:Nat} {fr:List Nat} {Z:Env} {i:Nat} {d:D} (hd:(yK nt fr Z)[i]? = some (some d)):∃k j,i=nt+k/\fr[k]? = some j/\Z[j]? = some (some d):=by
 have hi:nt<=i:=by
  apply ycL
  intro hlt
  unfold yK at hd
  rw[List.getElem?_append_left (by simpa using hlt),List.getElem?_replicate]at hd
  split at hd<;>cases hd
 unfold yK at hd
 rw[List.getElem?_append_right (by simpa using hi),yaZ,gM_]at hd
 cases ej:fr[i-nt]? with
 |none=>rw[ej]at hd;cases hd
 |some j=>
  rw[ej]at hd
  exact⟨i-nt,j,by omega,ej,wY (by simpa using hd)⟩
theorem uG {nt:Nat} {fr:List Nat} {σ:St} {i:Nat} {d:V} (hd:(zl nt fr σ)[i]? = some (some d)):∃k j,i=nt+k/\fr[k]? = some j/\σ[j]? = some (some d):=by
 have hi:nt<=i:=by
  apply ycL
  intro hlt
  unfold zl at hd
  rw[List.getElem?_append_left (by simpa using hlt),List.getElem?_replicate]at hd
  split at hd<;>cases hd
 unfold zl at hd
 rw[List.getElem?_append_right (by simpa using hi),yaZ,gM_]at hd
 cases ej:fr[i-nt]? with
 |none=>rw[ej]at hd;cases hd
 |some j=>
  rw[ej]at hd
  exact⟨i-nt,j,by omega,ej,wY (by simpa using hd)⟩
theorem Rep.entry {K:Fr0} {nt:Nat} {fr:List Nat} {fo:Option (Nat×Nat)} {acc:Addr} {Z:Env} {σ:St} {H:Hp} (r:Rep K c Z σ H) (hn:H acc=none) (hfo:qkJ c nt fr fo) :
  Rep K (cin (Cn c σ) H (foO fo) (foJ c fo) (qd2 σ fo) acc λj=>(zl nt fr σ)[j]?) (yK nt fr Z) (zl nt fr σ) (upd H acc (.lst [])):=by
 have sm:zX H (upd H acc (.lst [])):=qw hn _
 have ownI:∀i∈foO fo,∀v,(zl nt fr σ)[i]? = some (some v)->∃j,fo=some (i,j)/\j∈c.O/\σ[j]? = some (some v):=λi hi v hv=>by
  cases fo with
  |none=>cases hi
  |some p=>
   obtain⟨i',j'⟩:=p
   have e:i=i':=by simpa [foO] using hi
   subst e
   obtain⟨h1,h2,h3,h4⟩:=hfo
   obtain⟨k,j,e1,e2,e3⟩:=uG hv
   have hk:k=i-nt:=by omega
   subst hk
   rw[h3]at e2
   cases e2
   exact⟨j',rfl,h1,e3⟩
 have clI:∀a,Cl c.O σ a->Cl (foO fo) (zl nt fr σ) a:=λa ha i hi e=>by
  obtain⟨j,_,hj,e2⟩:=ownI i hi _ e
  exact ha j hj e2
 refine⟨by simp[yK,zl],λi d hd=>?_,λi hi v hv=>?_,λi j a hi hj h1 h2=>?_,⟨λa ha=>?_,λq P pos eP=>?_⟩,λb o hb hio=>?_,λb hb=>?_,λ_ h=>h,λ_ _=>rfl⟩
 ·obtain ⟨k,j,e1,e2,e3⟩:=qd3 hd
  subst e1
  by_cases hO:nt+k∈foO fo
  ·obtain ⟨v,hv⟩:∃v,σ[j]? = some (some v):=by
    obtain⟨v,h1,_⟩:=r.val j d e3
    exact⟨v,h1⟩
   have hc:(zl nt fr σ)[nt+k]? = some (some v):=by rw[vK e2,hv];rfl
   obtain⟨j',f1,f2,f3⟩:=ownI _ hO v hc
   subst f1
   obtain⟨g1,g2,g3,g4⟩:=hfo
   rw[show nt+k-nt=k by omega,e2]at g3
   cases g3
   obtain⟨ds,a,xs,h1,h3,h4,h5⟩:=r.getO g1 e3
   rw[hv]at h3
   cases h3
   exact⟨.ref a,hc,.inl ⟨hO,ds,a,xs,qnl h1,rfl,sm _ _ h4,IsL.ext (Ext.of_same sm) (λb hb hs=>⟨⟨hb,λe=>by subst e;rw[hn]at hs;cases hs⟩,clI b hb.2⟩) h5⟩⟩
  ·have hj:j ∉ c.O:=by
    cases fo with
    |none=>exact hfo j (ybF e2)
    |some p=>
     obtain⟨i',j'⟩:=p
     exact hfo.2.2.2 k j e2 (λe=>hO (by simp[foO,e]))
   obtain⟨v,h1,h2⟩:=r.get hj e3
   refine⟨v,by rw[vK e2,h1];rfl,.inr ⟨hO,?_⟩⟩
   refine Is.ext (Ext.of_same sm) (λa ha hs=>⟨⟨ha,λe=>?_⟩,clI a ha.2⟩) h2
   subst e;rw[hn]at hs;cases hs
 ·obtain⟨j,f1,f2,f3⟩:=ownI i hi v hv
  obtain⟨a,xs,h1,h2,h3⟩:=r.own j f2 v f3
  subst h1 f1
  exact⟨a,xs,rfl,sm _ _ h2,.inr ⟨hi,.inl f3⟩⟩
 ·cases fo with
  |none=>cases hi
  |some p=>
   obtain⟨i',j'⟩:=p
   have e:i=i':=by simpa [foO,cin] using hi
   have e2:j=i':=by simpa [foO,cin] using hj
   rw[e,e2]
 ·have ha':upd H acc (.lst []) a=none:=ha
  by_cases e:a=acc
  ·subst e;rw[qm]at ha';cases ha'
  ·rw[qu e]at ha';exact⟨r.new ha',e⟩
 ·have hP:=(r.tb q P pos eP).1
  refine⟨sm _ _ hP,λz=>?_⟩
  rcases z with z|z
  ·cases fo with
   |none=>exact z
   |some p=>
    obtain⟨b,xs,e1,e2,_⟩:=r.own _ hfo.1 _ z
    cases e1
    rw[hP]at e2;exact qi7 (yaA e2).symm
  ·rw[z,hn]at hP;cases hP
 ·exact hb
 ·exact hb
theorem Rep.leave {K:Fr0} {nt:Nat} {fr:List Nat} {fo:Option (Nat×Nat)} {acc:Addr} {Z Ze:Env} {σ σe:St} {H H':Hp} (r:Rep K c Z σ H) (hn:H acc=none) (hfo:qkJ c nt fr fo) (hf:∀i j,fo=some (i,j)->σe[i]? = (zl nt fr σ)[i]?)
  (q:Rep K (cin (Cn c σ) H (foO fo) (foJ c fo) (qd2 σ fo) acc λj=>(zl nt fr σ)[j]?) Ze σe H'):Rep K c (qkI fo Ze Z) σ H'/\Gr c.O σ H H':=by
 have kp:∀b o,H b=some o->¬qd2 σ fo b->H' b=some o:=λb o hb hio=>q.kp b o (by show upd H acc (.lst []) b=some o;rw[qu (qL hb hn)];exact hb) λz=>z.elim hio λe=>absurd e (qL hb hn)
 have clean:∀b,Cl c.O σ b->¬qd2 σ fo b:=λb hb hio=>by
  cases fo with
  |none=>exact hio
  |some p=>exact hb p.2 hfo.1 hio
 have dom:∀b,H' b=none->H b=none:=λb hb=>by
  have:=q.dm b hb
  by_cases e:b=acc
  ·subst e;exact hn
  ·have this:upd H acc (.lst []) b=none:=this
   rw[qu e]at this;exact this
 have notT:∀b xs,H b=some (.tup xs)->¬qd2 σ fo b:=λb xs hb hio=>by
  cases fo with
  |none=>exact hio
  |some p=>
   obtain⟨a,ys,e1,e2,_⟩:=r.own p.2 hfo.1 _ hio
   cases e1;rw[hb]at e2;exact qeZ (yaA e2).symm
 have notF:∀b o u,H b=some (.frz o u)->¬qd2 σ fo b:=λb o u hb hio=>by
  cases fo with
  |none=>exact hio
  |some p=>
   obtain⟨a,ys,e1,e2,_⟩:=r.own p.2 hfo.1 _ hio
   cases e1;rw[hb]at e2;exact qe0 (yaA e2).symm
 have gr:Gr c.O σ H H':=⟨⟨λb xs hb=>kp b _ hb (notT b xs hb),λb o u hb=>kp b _ hb (notF b o u hb),λb o hc hb=>kp b o hb (clean b hc)⟩,dom⟩
 refine⟨⟨?_,λk d hd=>?_,λj hj v hv=>?_,r.inj,r.b0,λb o hb hio=>?_,λb hb=>r.dm b (dom b hb),r.pO,r.ps⟩,gr⟩
 ·cases fo with
  |none=>exact r.len
  |some p=>show(Z.set _ _).length=_;rw[lS_];exact r.len
 ·-- an old slot,or the one that came qkI
  have oldSlot:Z[k]? = some (some d)->(∀i,fo≠some (i,k))->∃v,σ[k]? = some (some v)/\((k∈c.O/\∃(ds:List D)(a:Addr)(xs:Tg×List V),qdY K c.J k xs.1 d ds/\v=.ref a/\H' a=some (lab xs)/\IsL K (Cn c σ) H' ds xs.2)\/(k ∉ c.O/\Is K (Cn c σ) H' d v)):=λhk hne=>by
   obtain⟨v,h1,h2⟩:=r.val k d hk
   refine⟨v,h1,?_⟩
   rcases h2 with⟨hi,ds,a,xs,h3,h5,h6,h7⟩|⟨hi,h3⟩
   ·subst h5
    refine .inl ⟨hi,ds,a,xs,h3,rfl,kp a _ h6 (λhio=>?_),gr.isL h7⟩
    cases fo with
    |none=>exact hio
    |some p=>
     obtain⟨i',j'⟩:=p
     have e:=r.inj k j' a hi hfo.1 h1 hio
     exact hne i' (by rw[e])
   ·exact .inr ⟨hi,gr.is h3⟩
  cases fo with
  |none=>exact oldSlot hd (λi e=>by cases e)
  | some p=>
   obtain⟨i',j'⟩:=p
   have hd':(Z.set j' (Ze[i']?).join)[k]? = some (some d):=hd
   by_cases e:k=j'
   ·subst e
    have hl:k<Z.length:=by
     have:=(gI_.mp hd').1
     rwa [lS_]at this
    rw[List.getElem?_set_self hl]at hd'
    have he:Ze[i']? = some (some d):=wY (yaA hd')
    obtain⟨ds,a,xs,h1,h3,h4,h5⟩:=q.getO (show i'∈foO (some (i',k)) by simp[foO]) he
    have h3':=hf i' k rfl
    rw[h3]at h3'
    obtain⟨k2,j2,e1,e2,e3⟩:=uG h3'.symm
    have hk2:k2=i'-nt:=by omega
    subst hk2
    rw[hfo.2.2.1]at e2
    cases e2
    exact⟨.ref a,e3,.inl ⟨hfo.1,ds,a,xs,qlN h1,rfl,h4,IsL.ext Ext.refl (λb hb _=>hb.1.1) h5⟩⟩
   ·rw[zB e]at hd'
    exact oldSlot hd' (λi e2=>e (by cases e2;rfl))
 ·obtain ⟨a,xs,h1,h2,h3⟩:=r.own j hj v hv
  subst h1
  by_cases hio:qd2 σ fo a
  ·cases fo with
   |none=>exact hio.elim
   | some p=>
    obtain⟨i',j'⟩:=p
    have hc:(zl nt fr σ)[i']? = some (some (.ref a)):=by
     have:=vK (σ:=σ) (nt:=nt) hfo.2.2.1
     rw[show nt+(i'-nt)=i' by have:=hfo.2.1;omega]at this
     rw[this]
     have hio':σ[j']? = some (some (.ref a)):=hio
     rw[hio'];rfl
    have h3':=hf i' j' rfl
    rw[hc]at h3'
    obtain⟨a',ys,e1,e2,_⟩:=q.own i' (by simp[foO,cin]) _ h3'
    cases e1
    exact⟨a,ys,rfl,e2,h3⟩
  ·exact⟨a,xs,rfl,kp a _ h2 hio,h3⟩
 ·by_cases hio2:qd2 σ fo b
  ·cases fo with
   |none=>exact hio2.elim
   |some p=>
    obtain⟨a,ys,e1,e2,e3⟩:=r.own p.2 hfo.1 _ hio2
    cases e1
    rcases e3 with e3|e3
    ·rw[hb]at e3;cases e3
    ·exact absurd e3.2 hio
  ·exact kp b o (r.kp b o hb hio) hio2
theorem wZ {it elt:Expr} {ifs:List Expr} {scope:Scope} {N':List Str} {nt:Nat} {fr:List Nat} {fo:Option (Nat×Nat)} {f:M (List D)} {g:D->Env->Option Env} {t:M Bool} {k:M D} (hc:X.calm=true) (hi:DI X c tg it f) (S:uk X scope N' nt fr)
  (hfo:qkJ c nt fr fo)
  (hb:∀fp cl C s₀ H₀ pn B0 H1 Io' acc S',DG (ym X scope N' fp cl C s₀ H₀ pn) (cin B0 H1 (foO fo) (foJ c fo) Io' acc S') tg g/\DF (ym X scope N' fp cl C s₀ H₀ pn) (cin B0 H1 (foO fo) (foJ c fo) Io' acc S') ifs t/\DE (ym X scope N' fp cl C s₀ H₀ pn) (cin B0 H1 (foO fo) (foJ c fo) Io' acc S') elt k)
  (hs:∀x,ycB it X.env x=pure x:=by intro _;rfl):DE X c (.ListComp elt [⟨tg,it,ifs,0⟩] scope pos) (yL nt fr fo f g t k):=by
 obtain⟨wi,pi,wI⟩:=hi
 refine⟨_,qjh hc pi S hs,λZ σ H Q r h=>wI Z σ H _ r (WpI.bnd h λds Z1 J H1 r1 iok g1 h1=>?_)⟩
 intro acc fp cl C s₀ H₀ pn hn
 obtain⟨⟨tg',pg,wg⟩,⟨tt,pt,wt⟩,⟨te,pe,we⟩⟩:=hb fp cl C s₀ H₀ pn (Cn c σ) H1 (qd2 σ fo) acc λj=>(zl nt fr σ)[j]?
 refine⟨tg',tt,te,pg,pt,pe,?_⟩
 cases ew:z6 g t k ds [] (yK nt fr Z1) with
 |exc x Z'=>rw[ew]at h1;exact h1.elim
 |bad=>rw[ew]at h1;exact h1.elim
 | ok p =>
  rw[ew]at h1
  obtain⟨ys,Ze⟩:=p
  have h1:∀v H',Rep X.K c (qkI fo Ze Z1) σ H'->Is X.K (Cn c σ) H' (.lst ys) v->Gr c.O σ H1 H'->Q v H':=h1
  have accO:∀j∈foO fo,(zl nt fr σ)[j]? ≠ some (some (.ref acc)):=λj hj e=>by
   have r0:=r1.entry (acc:=acc) hn hfo
   cases fo with
   |none=>cases hj
   |some p=>
    obtain⟨i',j'⟩:=p
    have e2:j=i':=by simpa [foO] using hj
    subst e2
    obtain⟨k2,j2,e1,e2,e3⟩:=uG e
    have hk2:k2=j-nt:=by omega
    subst hk2
    rw[hfo.2.2.1]at e2
    cases e2
    obtain⟨a,us,e4,e5,_⟩:=r1.own j' hfo.1 _ e3
    cases e4;rw[hn]at e5;cases e5
  refine ⟨λi m σ' H'=>m=ds.length-i/\i<=ds.length/\∃Z' zs xs,Rep X.K (cin (Cn c σ) H1 (foO fo) (foJ c fo) (qd2 σ fo) acc λj=>(zl nt fr σ)[j]?) Z' σ' H'/\(∀j∈foO fo,σ'[j]? = (zl nt fr σ)[j]?)/\H' acc=some (.lst xs)/\IsL X.K (Cn (cin (Cn c σ) H1 (foO fo) (foJ c fo) (qd2 σ fo) acc λj=>(zl nt fr σ)[j]?) σ') H' zs xs/\z6 g t k (ds.drop i) zs Z'=.ok (ys,Ze),
   ⟨ds.length,by simp,yaN _,yK nt fr Z1,[],[],r1.entry hn hfo,λ_ _=>rfl,qm,rfl,by simpa using ew⟩,?_⟩
  rintro i m σ' H' ⟨rfl,hi,Z',zs,xs,r',so,ha,iz,w⟩
  obtain⟨_,gr⟩:=r1.leave hn hfo (λi j e=>so i (by rw[e];simp[foO])) r'
  have ex:Ext (CnT c σ H1) H1 H':=⟨gr.ext.tup,gr.ext.frz,λb o hb hq=>gr.ext.at_ b o hb.1.2 hq⟩
  have accC:∀τ:St,(∀j∈foO fo,τ[j]? = (zl nt fr σ)[j]?)->Cl (foO fo) τ acc:=λτ hτ j hj e=>accO j hj (by rw[<-hτ j hj];exact e)
  by_cases hlt:i<ds.length
  ·refine .inr ⟨iok.go H' i ds[i] ex (by simp[hlt]),λx H'' y=>?_⟩
   obtain⟨sm,ix⟩:=iok.yl H' i ds[i] x H'' ex (by simp[hlt]) y
   rw[qaz hlt]at w
   unfold z6 at w
   have ix2:Is X.K (Cn (cin (Cn c σ) H1 (foO fo) (foJ c fo) (qd2 σ fo) acc λj=>(zl nt fr σ)[j]?) σ') H'' ds[i] x:=Is.ext Ext.refl (λa ha _=>⟨⟨ha.1,λe=>by
    have:=ha.2
    rw [e,hn]at this;cases this⟩,λj hj e=>by
     rw[so j hj]at e
     cases fo with
     |none=>cases hj
     |some p=>
      obtain⟨i',j'⟩:=p
      have e2:j=i':=by simpa [foO,cin] using hj
      subst e2
      obtain⟨k2,j2,e1,e2,e3⟩:=uG e
      have hk2:k2=j-nt:=by omega
      subst hk2
      rw[hfo.2.2.1]at e2
      cases e2
      exact ha.1.2 j' hfo.1 e3⟩) ix
   cases e1:g ds[i] Z' with
   |none=>simp only[e1]at w;cases w
   | some Z2=>
    simp only[e1]at w
    refine wg Z' σ' H'' ds[i] x Z2 _ (r'.same sm) ix2 e1 λσ2 r2 g2 o2=>?_
    have so2:∀j∈foO fo,σ2[j]? = (zl nt fr σ)[j]? := λj hj=>(o2 j hj).trans (so j hj)
    have ha2:H'' acc=some (.lst xs):=sm _ _ ha
    have iz2:=g2.isL (IsL.ext (Ext.of_same sm) (λ_ h _=>h) iz)
    cases e2:t Z2 with
    |exc x Z3=>simp only[e2]at w;cases w
    |bad=>simp only[e2]at w;cases w
    | ok p2=>
     obtain⟨bb,Z3⟩:=p2
     refine wt Z2 σ2 H'' _ r2 ?_
     rw[e2]
     intro H3 r3 g3
     have ha3:H3 acc=some (.lst xs):=g3.ext.at_ _ _ (accC σ2 so2) ha2
     have iz3:=g3.isL iz2
     cases bb with
     |false=>
      rw[if_neg yao]
      simp only[e2]at w
      exact⟨ds.length-(i+1),by omega,rfl,hlt,Z3,zs,xs,r3,so2,ha3,iz3,w⟩
     | true=>
      rw[if_pos rfl]
      simp only[e2]at w
      cases e3:k Z3 with
      |exc x Z4=>simp only[e3]at w;cases w
      |bad=>simp only[e3]at w;cases w
      | ok p3=>
       obtain⟨d4,Z4⟩:=p3
       simp only[e3]at w
       refine we Z3 σ2 H3 _ r3 ?_
       rw[e3]
       intro y4 H4 r4 i4 g4
       have ha4:H4 acc=some (.lst xs):=g4.ext.at_ _ _ (accC σ2 so2) ha3
       have hsz:qT (zs.length+1)=true:=by
        cases e5:qT (zs.length+1) with
        |true=>rfl
        |false=>rw[e5]at w;simp at w
       rw[if_pos hsz]at w
       have hsz':zs.length+1<=yap:=of_decide_eq_true hsz
       have r5:=r4.grow (ys:=xs++[y4]) ha4 (λj hj e=>accC σ2 so2 j hj e)
       have ext5:Ext (Cn (cin (Cn c σ) H1 (foO fo) (foJ c fo) (qd2 σ fo) acc λj=>(zl nt fr σ)[j]?) σ2) H4 (upd H4 acc (.lst (xs++[y4]))):=⟨λb us hb=>by rw[qu (vb hb ha4 (by intro z;cases z))];exact hb,λb o u hb=>by rw[qu (vb hb ha4 (by intro z;cases z))];exact hb,λb o hb hq=>by rw[qu hb.1.2];exact hq⟩
       refine⟨xs,ha4,by rw[iz3.length];omega,ds.length-(i+1),by omega,rfl,hlt,Z4,zs++[d4],xs++[y4],r5,so2,qm,?_,w⟩
       exact IsL.append (IsL.ext ext5 (λ_ h _=>h) (g4.isL iz3)) (IsL.one (Is.ext ext5 (λ_ h _=>h) i4))
  ·have hie:i=ds.length:=by omega
   subst hie
   rw[yd9 (yah _)]at w
   unfold z6 at w
   cases w
   obtain⟨r6,g6⟩:=r1.leave hn hfo (λi j e=>so i (by rw[e];simp[foO])) r'
   exact .inl ⟨iok.stop H' ex,h1 _ H' r6 ⟨acc,xs,rfl,r1.new hn,ha,IsL.ext Ext.refl (λa ha hs=>ha.1.1) iz⟩ g6⟩
end
theorem Rep.ioT {K:Fr0} {c:Fc} {Z:Env} {σ:St} {H H':Hp} {i:Nat} {a:Addr} {d0:D} {bs:List D} {xs:Tg×List V} (r:Rep K c Z σ H) (hi:i∈c.O) (hs:σ[i]? = some (some (.ref a))) (kp:∀b o,b≠a->H b=some o->H' b=some o)
  (ha:H' a=some (lab xs)) (him:qdY K c.J i xs.1 d0 bs) (il:IsL K (Cn c σ) H' bs xs.2) (dm:∀b,H' b=none->H b=none):Rep K c (Z.set i (some d0)) σ H'/\Gr c.O σ H H':=by
 obtain⟨a',xs0,e0,h0,hown⟩:=r.own i hi _ hs
 cases e0
 have gr:Gr c.O σ H H':=⟨⟨λb us hb=>kp b _ (vb hb h0 (yaU qeZ)) hb,λb o u hb=>kp b _ (vb hb h0 (yaU qe0)) hb,λb o hc hb=>kp b o (λe=>hc i hi (by rw[hs,e])) hb⟩,dm⟩
 refine⟨⟨by rw[lS_];exact r.len,λk d hk=>?_,λj hj v hv=>?_,r.inj,r.b0,λb o hb hio=>?_,λb hb=>r.dm b (dm b hb),r.pO,r.ps⟩,gr⟩
 ·by_cases e:k=i
  ·subst e
   have hl:k<Z.length:=by
    have:=(gI_.mp hk).1
    rwa [lS_]at this
   rw[List.getElem?_set_self hl]at hk
   cases hk
   exact⟨.ref a,hs,.inl ⟨hi,bs,a,xs,him,rfl,ha,il⟩⟩
  ·rw [zB e]at hk
   obtain⟨v,h1,h2⟩:=r.val k d hk
   refine⟨v,h1,?_⟩
   rcases h2 with⟨hk2,ds,b,ys,h3,h5,h6,h7⟩|⟨hk2,h3⟩
   ·subst h5
    have ne:b≠a:=λe2=>e (r.inj k i a hk2 hi (by rw[h1,e2]) hs)
    exact .inl ⟨hk2,ds,b,ys,h3,rfl,kp b _ ne h6,gr.isL h7⟩
   ·exact .inr ⟨hk2,gr.is h3⟩
 ·obtain⟨b,ys,h1,h2,h3⟩:=r.own j hj v hv
  subst h1
  by_cases e:b=a
  ·subst e;exact⟨b,xs,rfl,ha,h3⟩
  ·exact⟨b,ys,rfl,kp b _ e h2,h3⟩
 ·have ne:b≠a:=λe=>by
   subst e
   rcases hown with z|z
   ·rw[hb]at z;cases z
   ·exact hio z.2
  exact kp b o ne (r.kp b o hb hio)
theorem Rep.io {K:Fr0} {c:Fc} {Z:Env} {σ:St} {H H':Hp} {i:Nat} {a:Addr} {bs:List D} {xs:List V} (r:Rep K c Z σ H) (hi:i∈c.O) (hs:σ[i]? = some (some (.ref a))) (kp:∀b o,b≠a->H b=some o->H' b=some o)
  (ha:H' a=some (.lst xs)) (him:True) (il:IsL K (Cn c σ) H' bs xs) (dm:∀b,H' b=none->H b=none):Rep K c (Z.set i (some (.lst bs))) σ H'/\Gr c.O σ H H' :=
 r.ioT (xs:=(.l,xs)) hi hs kp ha rfl il dm
def zW (i:Nat) (Z:Env):Option (List D):=match Z[i]? with
 |some (some (.lst ds))=>some ds
 |_=>none
theorem qfc {i:Nat} {Z:Env} {ds:List D} (h:zW i Z=some ds):Z[i]? = some (some (.lst ds)):=by
 unfold zW at h
 split at h
 ·rename_i e;cases h;exact e
 ·cases h
theorem Rep.getLO {K:Fr0} {c:Fc} {Z:Env} {σ:St} {H:Hp} (r:Rep K c Z σ H) {i:Nat} {ds:List D} (hi:i∈c.O) (h:zW i Z=some ds) :
  ∃a xs,True/\σ[i]? = some (some (.ref a))/\H a=some (.lst xs)/\IsL K (Cn c σ) H ds xs:=by
 obtain⟨ds',a,xs,h1,h3,h4,h5⟩:=r.getOL hi (qfc h)
 cases h1
 exact⟨a,xs,trivial,h3,h4,h5⟩
theorem zd{H:Hp}{a b:Addr}{o u:HO}(h:b≠a)(hb:H b=some o):upd H a u b=some o:=by rw[qu h];exact hb
theorem yo {H:Hp} {a b:Addr} {u:HO} (h:upd H a u b=none):H b=none:=by
 by_cases e:b=a
 ·subst e;rw[qm]at h;cases h
 ·rw[qu e]at h;exact h
section
variable{X:Cx}{c:Fc}{a b e:Expr}{pos:Pos}
def qB (i:Nat) (f:M D):M D:=λZ=>match zW i Z with
 |none => .bad
 |some _=>(bnd f λd Z=>match zW i Z with
  |some ds=>if imm d&&qT (ds.length+1)then .ok (.non,Z.set i (some (.lst (ds++[d]))))else .bad
  |none => .bad) Z
theorem ul {i:Nat} {x:Str} {p1 apos:Pos} {f:M D} (he:DE X c e f) (ho:i∈c.O:=by exact of_decide_eq_true rfl) (hN:X.N[i]? = some x:=by rfl) (hv:Vis X.env.scope x:=by first|exact ya0 rfl|exact yaJ (ya0 rfl)|exact yaJ (yaJ rfl)) (hd:(x==("__debug__":Str))=false:=by decide) (hcd:(x==("__classdict__":Str))=false:=by decide)
  (hbase:ybq (.Name x p1) "append" X.env (eval (.Name x p1) X.env)=eval (.Name x p1) X.env:=by rfl)
  (hfew:((yaz pos (yac [e] X.env)).all (λx => !x.1)&&(ycK pos (yb2 [] X.env)).all (λx=>x.1.isSome)
   && decide ([e].length+([]:List ybQ).length+(if([]:List ybQ).isEmpty then 0 else 1)<30))=true:=by rfl)
  (hline:(apos.endLine==pos.line)=true:=by rfl) (hs:yac [e] X.env=(false,eval e X.env)::yac [] X.env:=by rfl) (hplain:(yaz pos (yac [] X.env)).any (·.1)=false:=by rfl) :
  DE X c (.Call (.Attribute (.Name x p1) "append" apos) [e] [] pos) (qB i f):=by
 obtain⟨t,p,w⟩:=he
 refine⟨_,qi2 ydT PySem.F.slot_list_append PySem.F.type_list_append qbA (yI hN hv hd hcd) (ja p uU hs) hbase hfew hline hs hplain,λZ σ H Q r h=>?_⟩
 unfold qB at h
 cases e0:zW i Z with
 |none=>rw[e0]at h;exact h.elim
 | some ds0=>
  simp only[e0]at h
  obtain⟨l,xs0,_,hl,hH,_⟩:=r.getLO ho e0
  refine⟨.ref l,hl,.inl ⟨rfl,xs0,.inl (.inl hH)⟩,w Z σ H _ r (Wp.bnd h λd Z1 v H1 r1 i1 g1 h1=>?_)⟩
  cases e1:zW i Z1 with
  |none=>simp only[e1]at h1;exact h1.elim
  | some ds=>
   simp only[e1]at h1
   by_cases hb:(imm d&&qT (ds.length+1))=true
   ·rw [if_pos hb]at h1
    rw[yad]at hb
    obtain⟨l',xs,him,hl',hH',il⟩:=r1.getLO ho e1
    rw[hl]at hl'
    cases hl'
    have hsz:ds.length+1<=yap:=of_decide_eq_true hb.2
    have ext:Ext (Cn c σ) H1 (upd H1 l (.lst (xs++[v]))):=⟨λb us hb=>zd (vb hb hH' (by intro z;cases z)) hb,λb o u hb=>zd (vb hb hH' (by intro z;cases z)) hb,λb o hb hq=>zd (λe=>hb.2 i ho (by rw[hl,e])) hq⟩
    obtain ⟨r2,g2⟩:=r1.io (H':=upd H1 l (.lst (xs++[v]))) (bs:=ds++[d]) ho hl (λb o hb ho=>zd hb ho) qm trivial
     (IsL.append (IsL.ext ext (λ_ h _=>h) il) (IsL.one (Is.ext ext (λ_ h _=>h) i1))) (λb hb=>yo hb)
    exact⟨l,xs,v,rfl,rfl,hH',by rw[il.length];omega,h1 _ _ r2 rfl g2⟩
   ·rw[if_neg hb]at h1;exact h1.elim
def qgR (i:Nat) (k f:M D):MS:=sbnd f λd Z=>match zW i Z with
 |none => .bad
 | some _=>(sbnd k λj Z=>match j,zW i Z with
  |.int n,some ds=>match ixN ds.length n with
   |some q=>if imm d then .ok (.nx (Z.set i (some (.lst (ds.set q d)))))else .bad
   |none => .bad
  |_,_ => .bad) Z
theorem qji {i:Nat} {x:Str} {p1 p2:Pos} {ke:Expr} {f k:M D} (he:DE X c e f) (hk:DE X c ke k) (ho:i∈c.O:=by exact of_decide_eq_true rfl) (hN:X.N[i]? = some x:=by rfl) (hv:Vis X.env.scope x:=by first|exact ya0 rfl|exact yaJ (ya0 rfl)|exact yaJ (yaJ rfl)) (hd:(x==("__debug__":Str))=false:=by decide) (hcd:(x==("__classdict__":Str))=false:=by decide)
  (ha:∀v,ycs (.Subscript (.Name x p1) ke p2) X.env v=(do
   let ov <-ybr [v] (eval (.Name x p1) X.env)
   let iv <-ybr [v,ov] (eval ke X.env)
   yc7 p2
   ybr [v,ov,iv] (yfd ov iv v)
   release [v,ov,iv] []):=by intro _;rfl)
  (hs:yci [.Subscript (.Name x p1) ke p2] e pos.line X.env=pure false:=by rfl) (hw:ycj [.Subscript (.Name x p1) ke p2] e X.env=pure none:=by rfl) (h1:(ybd [.Subscript (.Name x p1) ke p2] X.env).map (·.2)=[ycs (.Subscript (.Name x p1) ke p2) X.env]:=by rfl) :
  DS X c (.Assign [.Subscript (.Name x p1) ke p2] e pos) (qgR i k f):=by
 obtain⟨t,p,w⟩:=he
 obtain⟨tk,pk,wk⟩:=hk
 refine⟨_,qeG p (qeF (yI hN hv hd hcd) pk qaM ha) hs hw h1,λZ σ H D r h=>w Z σ H _ r (Wp.sbnd h λd Z1 v H1 r1 i1 g1 h1=>?_)⟩
 cases e0:zW i Z1 with
 |none=>simp only[e0]at h1;exact h1.elim
 | some ds0=>
  simp only[e0]at h1
  obtain⟨l,xs0,_,hl,hH,_⟩:=r1.getLO ho e0
  refine⟨.ref l,hl,wk Z1 σ H1 _ r1 (Wp.sbnd h1 λj Z2 u H2 r2 i2 g2 h2=>?_)⟩
  cases j with
  | int n=>
   cases e1:zW i Z2 with
   |none=>simp only[e1]at h2;exact h2.elim
   | some ds=>
    simp only[e1]at h2
    cases e2:ixN ds.length n with
    |none=>simp only[e2]at h2;exact h2.elim
    | some q=>
     simp only[e2]at h2
     by_cases hb:imm d=true
     ·rw [if_pos hb]at h2
      obtain⟨l',xs,him,hl',hH',il⟩:=r2.getLO ho e1
      rw[hl]at hl'
      cases hl'
      cases i2
      have i3:=g2.is i1
      have ext:Ext (Cn c σ) H2 (upd H2 l (.lst (xs.set q v))):=⟨λb us hb=>zd (vb hb hH' (by intro z;cases z)) hb,λb o u hb=>zd (vb hb hH' (by intro z;cases z)) hb,λb o hb hq=>zd (λe=>hb.2 i ho (by rw[hl,e])) hq⟩
      obtain ⟨r3,g3⟩:=r2.io (H':=upd H2 l (.lst (xs.set q v))) (bs:=ds.set q d) ho hl (λb o hb ho=>zd hb ho) qm trivial
       (IsL.set (Is.ext ext (λ_ h _=>h) i3) q (IsL.ext ext (λ_ h _=>h) il)) (λb hb=>yo hb)
      exact⟨l,xs,n,q,rfl,rfl,hH',by rw[il.length];exact e2,h2 σ _ r3 g3.s⟩
     ·rw[if_neg hb]at h2;exact h2.elim
  |_=>exact h2.elim
theorem qfd {p q:Tg×List V} (h:lab p=lab q):p=q:=by
 obtain⟨t,xs⟩:=p
 obtain⟨u,ys⟩:=q
 cases t<;>cases u<;>(first|(cases h;done)|(cases h;rfl))
theorem qfe {K:Fr0} {J:List Nat} {i:Nat} {p q:Tg×List V} {d:D} {ds es:List D} (h1:qdY K J i p.1 d ds) (h2:qdY K J i q.1 d es) (e:p=q):ds=es/\p=q:=by
 subst e
 refine⟨?_,rfl⟩
 obtain⟨t,xs⟩:=p
 cases t with
 |l=>
  have a1:d=.lst ds:=h1
  have a2:d=.lst es:=h2
  rw[a1]at a2;exact D.lst.inj a2
 |d C dx l=>
  have a1:d=.tup ds:=h1.1
  have a2:d=.tup es:=h2.1
  rw[a1]at a2;exact D.tup.inj a2
structure qff (K:Fr0) (c:Fc) (Z:Env) (σ:St) (H:Hp) (a:Addr):Prop where
 val:∀i d v,Z[i]? = some (some d)->i ∉ c.O->σ[i]? = some (some v)->Is K (λb=>Cn c σ b/\b≠a) H d v
 cont:∀i d ds b (xs:Tg×List V),Z[i]? = some (some d)->i∈c.O->σ[i]? = some (some (.ref b))->qdY K c.J i xs.1 d ds->H b=some (lab xs)->IsL K (Cn c σ) H ds xs.2->IsL K (λb=>Cn c σ b/\b≠a) H ds xs.2
 own:∀j∈c.O,σ[j]? ≠ some (some (.ref a))
 new:c.H0 a=none
theorem Is.fresh{K:Fr0}{A:Addr->Prop}{H:Hp}{d:D}{v:V}{a:Addr}(h:Is K A H d v)(hn:H a=none):Is K (λb=>A b/\b≠a) H d v:=Is.ext Ext.refl (λb h1 h2=>⟨h1,λe=>by rw[e,hn]at h2;cases h2⟩) h
theorem Rep.apart {K:Fr0} {Z:Env} {σ:St} {H:Hp} {a:Addr} {o:HO} (r:Rep K c Z σ H) (hn:H a=none):qff K c Z σ (upd H a o) a where
 val:=λi d v h1 h2 h3=>by
  obtain⟨w,h4,h5⟩:=r.get h2 h1
  rw[h3]at h4
  cases h4
  exact Is.ext (Ext.of_same (qw hn _)) (λ_ h _=>h) (h5.fresh hn)
 cont:=λi d ds b xs h1 h2 h3 ht h4 _=>by
  obtain⟨ds',a',ys,e1,e2,e3,e4⟩:=r.getO h2 h1
  rw[h3]at e2
  cases e2
  have:=qw hn o _ _ e3
  rw[h4]at this
  obtain⟨z1,z2⟩:=qfe ht e1 (qfd (yaA this))
  subst z1 z2
  exact IsL.ext (Ext.of_same (qw hn _)) (λb hb hs=>⟨hb,λe=>by rw[e,hn]at hs;cases hs⟩) e4
 own:=λj hj e=>(r.new hn).2 j hj e
 new:=r.dm a hn
theorem Rep.apart_same {K:Fr0} {Z:Env} {σ:St} {H H':Hp} {a:Addr} (r:Rep K c Z σ H) (hn:H a=none) (sm:zX H H'):qff K c Z σ H' a where
 val:=λi d v h1 h2 h3=>by
  obtain⟨w,h4,h5⟩:=r.get h2 h1
  rw[h3]at h4
  cases h4
  exact Is.ext (Ext.of_same sm) (λ_ h _=>h) (h5.fresh hn)
 cont:=λi d ds b xs h1 h2 h3 ht h4 _=>by
  obtain⟨ds',a',ys,e1,e2,e3,e4⟩:=r.getO h2 h1
  rw[h3]at e2
  cases e2
  have:=sm _ _ e3
  rw[h4]at this
  obtain⟨z1,z2⟩:=qfe ht e1 (qfd (yaA this))
  subst z1 z2
  exact IsL.ext (Ext.of_same sm) (λb hb hs=>⟨hb,λe=>by rw[e,hn]at hs;cases hs⟩) e4
 own:=λj hj e=>(r.new hn).2 j hj e
 new:=r.dm a hn
def WpN (K:Fr0) (c:Fc) (σ:St) (H:Hp) (Q:VK):R (List D×Env)->Prop
 |.ok (ds,Z)=>∀a xs H',H a=none->Rep K c Z σ H'->qff K c Z σ H' a->H' a=some (.lst xs)->True->IsL K (λb=>Cn c σ b/\b≠a) H' ds xs->Gr c.O σ H H'->Q (.ref a) H'
 |.exc x Z=>∀H',Rep K c Z σ H'->Gr c.O σ H H'->c.E x H'
 |.bad=>False
def DN(X:Cx)(c:Fc)(e:Expr)(f:M (List D)):Prop:=∃t,PE X e t/\∀Z σ H Q,Rep X.K c Z σ H->WpN X.K c σ H Q (f Z)->t σ H Q
theorem WpN.gr {K:Fr0} {σ:St} {H H1:Hp} {Q:VK}:∀{r:R (List D×Env)},WpN K c σ H Q r->Gr c.O σ H H1->WpN K c σ H1 Q r
 |.ok (d,Z),h,g=>λa xs H' hn h1 h2 h3 h4 h5 hg=>h a xs H' (g.dom a hn) h1 h2 h3 h4 h5 (g.trans hg)
 |.exc x Z,h,g=>λH' hr hg=>h H' hr (g.trans hg)
 |.bad,h,_=>h
theorem WpL.bndN {K:Fr0} {σ:St} {H:Hp} {Q:VK} {f:M (List D)} {k:List D->M (List D)} {Z:Env} {Q':List V->Hp->Prop} (h:WpN K c σ H Q (Sk.bnd f k Z)) (hQ:∀d Z' v H',Rep K c Z' σ H'->IsL K (Cn c σ) H' d v->Gr c.O σ H H'->WpN K c σ H' Q (k d Z')->Q' v H'):WpL K c σ H Q' (f Z):=by
 unfold Sk.bnd at h
 cases e:f Z with
 |ok p=>rw[e]at h;exact λv H' hr hi hg=>hQ p.1 p.2 v H' hr hi hg (h.gr hg)
 |exc x Z'=>rw[e]at h;exact h
 |bad=>rw[e]at h;exact h
def qfg(f:M (List D)):M (List D):=bnd f λds=>lift (if immL ds&&qT ds.length then some ds else none)
theorem qbI {es:List Expr} {f:M (List D)} (h:DA X c es f):DN X c (.List es pos) (qfg f):=by
 obtain⟨t,p,w⟩:=h
 refine⟨_,qhS p,λZ σ H Q r h=>w Z σ H _ r (WpL.bndN h λds Z1 vs H1 r1 i1 g1 h1=>?_)⟩
 by_cases hb:(immL ds&&qT ds.length)=true
 ·rw[if_pos hb]at h1
  rw[yad]at hb
  refine⟨by rw[i1.length];exact of_decide_eq_true hb.2,λp hp=>?_⟩
  exact h1 p vs _ hp (r1.laid hp _) (r1.apart hp) qm trivial (IsL.ext (Ext.of_same (qw hp _)) (λb h hs=>⟨h,λe=>by rw[e,hp]at hs;cases hs⟩) i1) (.of_same (qw hp _))
 ·rw[if_neg hb]at h1;exact h1.elim
theorem Cl.setO {O:List Nat} {σ:St} {i:Nat} {a b:Addr} (h:Cl O σ b) (hb:b≠a):Cl O (σ.set i (some (.ref a))) b:=λj hj e=>by
 by_cases hji:j=i
 ·subst hji
  have hl:j<σ.length:=by
   have:=(gI_.mp e).1
   rwa [lS_]at this
  rw[List.getElem?_set_self hl]at e
  cases e
  exact hb rfl
 ·rw[zB hji]at e
  exact h j hj e
theorem Rep.setOT {K:Fr0} {Z:Env} {σ:St} {H:Hp} {i:Nat} {a:Addr} {d0:D} {ds:List D} {xs:Tg×List V} (r:Rep K c Z σ H) (hi:i∈c.O) (hP:i ∉ c.P) (ap:qff K c Z σ H a) (ha:H a=some (lab xs)) (him:qdY K c.J i xs.1 d0 ds) (il:IsL K (λb=>Cn c σ b/\b≠a) H ds xs.2) :
  Rep K c (Z.set i (some d0)) (σ.set i (some (.ref a))) H where
 len:=by rw[lS_,lS_];exact r.len
 val := λj e hj=>by
  by_cases e1:j=i
  ·subst e1
   have hl:j<Z.length:=by
    have:=(gI_.mp hj).1
    rwa [lS_]at this
   rw[List.getElem?_set_self hl]at hj
   cases hj
   exact⟨.ref a,List.getElem?_set_self (by rw[<-r.len];exact hl),.inl ⟨hi,ds,a,xs,him,rfl,ha,IsL.ext Ext.refl (λb hb _=>⟨hb.1.1,hb.1.2.setO hb.2⟩) il⟩⟩
  ·rw [zB e1]at hj
   obtain⟨w,h1,h2⟩:=r.val j e hj
   refine⟨w,by rw[zB e1];exact h1,?_⟩
   rcases h2 with⟨g1,ds',b',xs',g3,g5,g6,g7⟩|⟨h3,h4⟩
   ·subst g5
    exact .inl ⟨g1,ds',b',xs',g3,rfl,g6,IsL.ext Ext.refl (λb hb _=>⟨hb.1.1,hb.1.2.setO hb.2⟩) (ap.cont j e ds' b' xs' hj g1 h1 g3 g6 g7)⟩
   ·exact .inr ⟨h3,Is.ext Ext.refl (λb hb _=>⟨hb.1.1,hb.1.2.setO hb.2⟩) (ap.val j e w hj h3 h1)⟩
 own := λj hj w h=>by
  by_cases e1:j=i
  ·subst e1
   have hl:j<σ.length:=by
    have:=(gI_.mp h).1
    rwa [lS_]at this
   rw[List.getElem?_set_self hl]at h
   cases h
   exact⟨a,xs,rfl,ha,.inl ap.new⟩
  ·rw[zB e1]at h
   exact r.own j hj w h
 inj := λj k b hj hk h1 h2=>by
  by_cases e1:j=i
  ·by_cases e2:k=i
   ·rw[e1,e2]
   ·subst e1
    have hl:j<σ.length:=by
     have:=(gI_.mp h1).1
     rwa [lS_]at this
    rw[List.getElem?_set_self hl]at h1
    cases h1
    rw[zB e2]at h2
    exact absurd h2 (ap.own k hk)
  ·by_cases e2:k=i
   ·subst e2
    have hl:k<σ.length:=by
     have:=(gI_.mp h2).1
     rwa [lS_]at this
    rw[List.getElem?_set_self hl]at h2
    cases h2
    rw[zB e1]at h1
    exact absurd h1 (ap.own j hj)
   ·rw[zB e1]at h1
    rw[zB e2]at h2
    exact r.inj j k b hj hk h1 h2
 b0:=r.b0
 kp:=r.kp
 dm:=r.dm
 pO:=r.pO
 ps:=λj hj=>by
  have e:j≠i:=λe=>hP (e▸hj)
  rw[zB e];exact r.ps j hj
theorem Rep.setO {K:Fr0} {Z:Env} {σ:St} {H:Hp} {i:Nat} {a:Addr} {ds:List D} {xs:List V} (r:Rep K c Z σ H) (hi:i∈c.O) (hP:i ∉ c.P) (ap:qff K c Z σ H a) (ha:H a=some (.lst xs)) (him:True) (il:IsL K (λb=>Cn c σ b/\b≠a) H ds xs) :
  Rep K c (Z.set i (some (.lst ds))) (σ.set i (some (.ref a))) H:=r.setOT (xs:=(.l,xs)) hi hP ap ha rfl il
def yE(i:Nat)(f:M (List D)):MS:=sbnd f λds Z => .ok (.nx (Z.set i (some (.lst ds))))
theorem u6 {i:Nat} {x:Str} {pos':Pos} {f:M (List D)} (hN:X.N.Nodup) (he:DN X c e f) (ho:i∈c.O:=by exact of_decide_eq_true rfl) (hP:i ∉ c.P:=by exact of_decide_eq_false rfl) (hi:X.N[i]? = some x:=by rfl) (hx:Loc X.env.scope x:=by first|exact ya0 rfl|exact yaJ rfl) (hs:ycO e (some (.Name x pos')) pos.line X.env=pure false:=by rfl) (hf:X.fn x=true\/X.env.scope.names.lookup x=some .local:=by first|exact .inl rfl|exact .inr rfl|assumption) :
  DS X c (.Assign [.Name x pos'] e pos) (yE i f):=by
 obtain⟨t,p,w⟩:=he
 refine⟨_,qhQ hN hi hx p hs hf,λZ σ H D r h=>w Z σ H _ r ?_⟩
 unfold yE sbnd at h
 cases ef:f Z with
 |bad=>rw[ef]at h;exact h
 |exc z Z'=>rw[ef]at h;exact λH' hr hg=>h σ H' hr hg.s
 |ok q=>
  rw[ef]at h
  intro a xs H' hn r' ap ha him il g'
  exact h _ H' (r'.setO ho hP ap ha him il) ⟨g'.ext,λb hb hs=>hb.setO (λe=>by rw[e,hn]at hs;exact absurd hs (by simp)),g'.dom⟩
def qbJ (i:Nat):M D:=λZ=>match zW i Z with
 |some ds => .ok (.int ds.length,Z)
 |none => .bad
theorem qjj {i:Nat} {x:Str} {p p1:Pos} (hg:Gl X "len") (hm:X.mg "len"=none) (ho:i∈c.O:=by exact of_decide_eq_true rfl) (hN:X.N[i]? = some x:=by rfl) (hv:Vis X.env.scope x:=by first|exact ya0 rfl|exact yaJ (ya0 rfl)|exact yaJ (yaJ rfl)) (hd:(x==("__debug__":Str))=false:=by decide) (hcd:(x==("__classdict__":Str))=false:=by decide) :
  DE X c (.Call (.Name "len" p) [.Name x p1] [] pos) (qbJ i):=by
 refine⟨_,vc z5 hg hm PySem.boot_len (ja (yI hN hv hd hcd) uU),λZ σ H Q r h=>?_⟩
 unfold qbJ at h
 cases e0:zW i Z with
 |none=>simp only[e0]at h;exact h.elim
 |some ds=>
  simp only[e0]at h
  obtain⟨l,xs,him,hl,hH,il⟩:=r.getLO ho e0
  exact⟨.ref l,hl,.inl ⟨l,xs,rfl,.inl (.inl (.inl hH)),by rw[il.length];exact h _ H r rfl .refl⟩⟩
def qcp (i:Nat):M D:=λZ=>match zW i Z with
 |some ds => .ok (.tup ds,Z)
 |none => .bad
theorem qcq {i:Nat} {x:Str} {p p1:Pos} (hg:Gl X "tuple") (hm:X.mg "tuple"=none) (hb:yay "tuple"=some (.type "tuple"):=by first|rfl|exact PySem.boot_tuple) (ho:i∈c.O:=by exact of_decide_eq_true rfl) (hN:X.N[i]? = some x:=by rfl) (hv:Vis X.env.scope x:=by first|exact ya0 rfl|exact yaJ (ya0 rfl)|exact yaJ (yaJ rfl)) (hd:(x==("__debug__":Str))=false:=by decide) (hcd:(x==("__classdict__":Str))=false:=by decide) :
  DE X c (.Call (.Name "tuple" p) [.Name x p1] [] pos) (qcp i):=by
 refine⟨_,wP qaP hg hm hb (ja (yI hN hv hd hcd) uU),λZ σ H Q r h=>?_⟩
 unfold qcp at h
 cases e0:zW i Z with
 |none=>simp only[e0]at h;exact h.elim
 |some ds=>
  simp only[e0]at h
  obtain⟨l,xs,him,hl,hH,il⟩:=r.getLO ho e0
  refine⟨.ref l,hl,l,xs,rfl,.inl ⟨.inl (.inl hH),λp hp=>h _ _ (r.laid hp _) ⟨p,xs,rfl,.inl qm,?_⟩ (.of_same (qw hp _))⟩⟩
  exact IsL.ext (Ext.of_same (qw hp _)) (λ_ h _=>h) il
def qbK (i:Nat) (g:M D):M D:=λZ=>match zW i Z with
 |none => .bad
 | some _=>(bnd g λk Z=>match k,zW i Z with
  |.int n,some ds=>match atI ds n with
   |some d => .ok (d,Z)
   |none => .bad
  |_,_ => .bad) Z
theorem qdc {i:Nat} {x:Str} {p1:Pos} {g:M D} (hb:DE X c b g) (hs:qcj b:=by intro _ _;rfl) (ho:i∈c.O:=by exact of_decide_eq_true rfl) (hN:X.N[i]? = some x:=by rfl) (hv:Vis X.env.scope x:=by first|exact ya0 rfl|exact yaJ (ya0 rfl)|exact yaJ (yaJ rfl)) (hd:(x==("__debug__":Str))=false:=by decide) (hcd:(x==("__classdict__":Str))=false:=by decide) :
  DE X c (.Subscript (.Name x p1) b pos) (qbK i g):=by
 obtain⟨tb,pb,wb⟩:=hb
 refine⟨_,qll qeV (yI hN hv hd hcd) pb hs,λZ σ H Q r h=>?_⟩
 unfold qbK at h
 cases e0:zW i Z with
 |none=>simp only[e0]at h;exact h.elim
 | some ds0=>
  simp only[e0]at h
  obtain⟨l,xs0,_,hl,hH,_⟩:=r.getLO ho e0
  refine⟨.ref l,hl,wb Z σ H _ r (Wp.bnd h λk Z1 v H1 r1 i1 g1 h1=>?_)⟩
  cases k with
  | int n=>
   cases e1:zW i Z1 with
   |none=>simp only[e1]at h1;exact h1.elim
   | some ds=>
    simp only[e1]at h1
    cases e2:atI ds n with
    |none=>simp only[e2]at h1;exact h1.elim
    |some d=>
     simp only[e2]at h1
     obtain⟨l',xs,him,hl',hH',il⟩:=r1.getLO ho e1
     rw[hl]at hl'
     cases hl'
     cases i1
     obtain⟨w,h3,h4⟩:=il.atI e2
     exact⟨l,xs,n,w,rfl,rfl,.inl (.inl hH'),h3,h1 w H1 r1 h4 .refl⟩
  |_=>exact h1.elim
end
def cfn (O P:List Nat) (A:Addr->Prop) (H:Hp) (Io:Addr->Prop) (E:Exn->Hp->Prop) (S:Nat->Option (Option V)):Fc where
 O:=O
 P:=P
 B:=λa=>A a\/H a=none
 H0:=H
 Io:=Io
 E:=E
 S:=S
def j9(n:Nat)(ds:List D):Env:=ds.map some++yan (n-ds.length) none
def spD (K:Fr0) (F:List D->R D):Sp:=λvs H Q _=>∃ds A,IsL K A H ds vs/\qaQ K H/\match F ds with
 |.ok d=>∀v H',zX H H'->Is K (λa=>A a\/H a=none) H' d v->Q v H'
 |_=>False
def qdd (K:Fr0) (F:List D->List D->R (D×List D)):Sp:=λvs H Q _=>∃(bs ds:List D)(A:Addr->Prop)(a:Addr)(xs vs':List V),vs=.ref a::vs'/\H a=some (.lst xs)/\qaQ K H/\IsL K A H bs xs/\¬A a/\IsL K A H ds vs'/\match F bs ds with
 |.ok (d,bs')=>∀v H' xs',(∀b o,b≠a->H b=some o->H' b=some o)->(∀b,H' b=none->H b=none)->H' a=some (.lst xs')->True->IsL K (λb=>A b\/H b=none) H' bs' xs'->Is K (λb=>A b\/H b=none) H' d v->Q v H'
 |_=>False
def dfn (n p:Nat) (body:MS) (ds:List D):R D:=if ds.length=p then match body (j9 n ds) with
 |.ok (.rt d _) => .ok d
 |.ok (.nx _) => .ok .non
 |_ => .bad else .bad
def u7 (n p:Nat) (body:MS) (bs ds:List D):R (D×List D):=if ds.length+1=p then match body (j9 n (.lst bs::ds)) with
 |.ok (.rt d Z)=>match zW 0 Z with
  |some bs' => .ok (d,bs')
  |none => .bad
 |.ok (.nx Z)=>match zW 0 Z with
  |some bs' => .ok (.non,bs')
  |none => .bad
 |_ => .bad else .bad
theorem vh {N:List Str} {vs:List V} {i:Nat} {v:V} (h:(zV N vs)[i]? = some (some v)):vs[i]? = some v:=by
 unfold zV at h
 by_cases hi:i<vs.length
 ·rw[List.getElem?_append_left (by simpa using hi),gM_]at h
  cases e:vs[i]? with
  |none=>rw[e]at h;cases h
  |some w=>rw[e]at h;cases h;rfl
 ·rw[List.getElem?_append_right (by simpa using hi),List.getElem?_replicate]at h
  split at h<;>cases h
theorem wz {N:List Str} {vs:List V} {i:Nat} {v:V} (h:vs[i]? = some v):(zV N vs)[i]? = some (some v):=by
 unfold zV
 have hi:i<vs.length:=(gI_.mp h).1
 rw[List.getElem?_append_left (by simpa using hi),gM_,h];rfl
theorem qbL {n:Nat} {ds:List D} {i:Nat} {d:D} (h:(j9 n ds)[i]? = some (some d)):ds[i]? = some d:=by
 unfold j9 at h
 by_cases hi:i<ds.length
 ·rw[List.getElem?_append_left (by simpa using hi),gM_]at h
  cases e:ds[i]? with
  |none=>rw[e]at h;cases h
  |some w=>rw[e]at h;cases h;rfl
 ·rw[List.getElem?_append_right (by simpa using hi),List.getElem?_replicate]at h
  split at h<;>cases h
theorem w5 {K:Fr0} {N:List Str} {O:List Nat} {A:Addr->Prop} {H:Hp} {E:Exn->Hp->Prop} {ds:List D} {vs:List V} (il:IsL K A H ds vs) (tb:qaQ K H) (hO:∀i∈O,ds.length<=i) :
  Rep K (cfn O [] A H (λ_=>False) E λ_=>none) (j9 N.length ds) (zV N vs) H where
 len:=by unfold j9 zV;simp[il.length]
 val:=λi d h=>by
  have h1:=qbL h
  obtain⟨v,h2,h3⟩:=il.get h1
  have hi:i ∉ O:=λz=>by
   have:=(gI_.mp h1).1
   have:=hO i z
   omega
  refine⟨v,wz h2,.inr ⟨hi,Is.ext Ext.refl (λa ha _=>⟨.inl ha,λj hj e=>?_⟩) h3⟩⟩
  have:=(gI_.mp (vh e)).1
  have:=hO j hj
  rw[il.length]at *
  omega
 own:=λj hj v h=>by
  have:=(gI_.mp (vh h)).1
  have:=hO j hj
  rw[il.length]at *
  omega
 inj:=λi j a hi hj h1 h2=>by
  have:=(gI_.mp (vh h1)).1
  have:=hO i hi
  rw[il.length]at *
  omega
 b0:=⟨λa h => .inr h,tb⟩
 kp:=λb o h _=>h
 dm:=λb h=>h
 pO:=λj hj=>by cases hj
 ps:=λj hj=>by cases hj
section
variable{P:yai}{w:World}{K:yae}{mg:Str->Option Value}{base:Heap}
theorem zZ {x qual:Str} {st:Stmt} {f:Addr} {fd:yaD} {N ps:List Str} {k:Nat} {O:List Nat} {body:MS} (F:Fun K x qual st f fd) (S:qF N ps (qh st)) (hO:∀i∈O,ps.length<=i)
  (hb:∀(cdv:Value)(A:yaj)(outer:List yax)(s:yaa)(H:Hp)(E:XK)(B:Addr->Prop),yv k (A.deeper (yaW qual (qh st) s.heap.objs.size f cdv)) ->
   DSs (qch CX0 P w K mg base N qual (qh st) f cdv A outer s H E).nox (cfn O [] B H (λ_=>False) (λ_ _=>False) λ_=>none) (qE st) body) :
  uY P w K mg base CX0 (k+1) f fd ps (spD K (dfn N.length ps.length body)):=by
 refine F.ok S (λvs H Q E h=>?_) (λcdv A outer s H vs Q E hr h=>?_)
 ·obtain⟨ds,B,il,_,h⟩:=h
  unfold dfn at h
  by_cases e:ds.length=ps.length
  ·rw[il.length];exact e
  ·rw[if_neg e]at h;exact h.elim
 ·obtain ⟨ds,B,il,tb,h⟩:=h
  obtain⟨t,p,wt⟩:=hb cdv A outer s H E B hr
  refine⟨t,p,?_⟩
  unfold dfn at h
  by_cases e:ds.length=ps.length
  ·rw [if_pos e]at h
   refine wt (j9 N.length ds) (zV N vs) H _ (w5 il tb (λi hi=>by rw[e];exact hO i hi)) ?_
   have same:∀{Z:Env}{σ:St}{H':Hp},Rep K (cfn O [] B H (λ_=>False) (λ_ _=>False) λ_=>none) Z σ H'->zX H H':=λr b o hb=>r.kp b o hb λz=>z
   cases eb:body (j9 N.length ds) with
   |bad=>rw[eb]at h;exact h.elim
   |exc z Z=>rw[eb]at h;exact h.elim
   |ok fl=>
    rw[eb]at h
    cases fl with
    |nx Z=>exact λσ' H' r' _=>h .non H' (same r') rfl
    |rt d Z=>exact λv σ' H' r' i' _=>h v H' (same r') i'
    |bk Z=>exact h.elim
    |ct Z=>exact h.elim
  ·rw[if_neg e]at h;exact h.elim
theorem qfh {x qual:Str} {st:Stmt} {f:Addr} {fd:yaD} {N ps:List Str} {k:Nat} {O:List Nat} {body:MS} (F:Fun K x qual st f fd) (S:qF N ps (qh st)) (hO:∀i∈O,i=0\/ps.length<=i) (h0:0∈O)
  (hb:∀(cdv:Value)(A:yaj)(outer:List yax)(s:yaa)(H:Hp)(E:XK)(B Io:Addr->Prop)(S:Nat->Option (Option V)),yv k (A.deeper (yaW qual (qh st) s.heap.objs.size f cdv)) ->
   DSs (qch CX0 P w K mg base N qual (qh st) f cdv A outer s H E).nox (cfn O [0] B H Io (λ_ _=>False) S) (qE st) body) :
  uY P w K mg base CX0 (k+1) f fd ps (qdd K (u7 N.length ps.length body)):=by
 refine F.ok S (λvs H Q E h=>?_) (λcdv A outer s H vs Q E hr h=>?_)
 ·obtain⟨bs,ds,B,a,xs,vs',rfl,ha,him,ib,nA,il,h⟩:=h
  unfold u7 at h
  by_cases e:ds.length+1=ps.length
  ·rw[lC_,il.length];exact e
  ·rw[if_neg e]at h;exact h.elim
 ·obtain ⟨bs,ds,B,a,xs,vs',rfl,ha,him,ib,nA,il,h⟩:=h
  obtain⟨t,p,wt⟩:=hb cdv A outer s H E B (λb=>b=a) (λj=>(zV N (.ref a::vs'))[j]?) hr
  refine⟨t,p,?_⟩
  unfold u7 at h
  by_cases e:ds.length+1=ps.length
  ·rw [if_pos e]at h
   have only:∀j∈O,∀v,(zV N (.ref a::vs'))[j]? = some (some v)->j=0/\v=.ref a:=λj hj v hv=>by
    have h1:=vh hv
    rcases hO j hj with z|z
    ·subst z;cases h1;exact⟨rfl,rfl⟩
    ·have:=(gI_.mp h1).1
     rw[lC_,il.length]at this
     omega
   have r0:Rep K (cfn O [0] B H (λb=>b=a) (λ_ _=>False) λj=>(zV N (.ref a::vs'))[j]?) (j9 N.length (.lst bs::ds)) (zV N (.ref a::vs')) H:=by
    refine⟨by unfold j9 zV;simp[il.length],λi d hd=>?_,λj hj v hv=>?_,λi j b hi hj h1 h2=>?_,⟨λb hb => .inr hb,λq P pos eP=>⟨(him q P pos eP).1,λz=>by have:=(him q P pos eP).1;rw[z,ha]at this;cases this⟩⟩,λb o hb _=>hb,λb hb=>hb,λj hj=>?_,λ_ _=>rfl⟩
    ·have h1:=qbL hd
     cases i with
     |zero=>
      cases h1
      exact⟨.ref a,wz rfl,.inl ⟨h0,bs,a,(.l,xs),rfl,rfl,ha,IsL.ext Ext.refl (λb hb _=>⟨.inl hb,λj hj e2=>by obtain⟨_,e3⟩:=only j hj _ e2;cases e3;exact nA hb⟩) ib⟩⟩
     | succ i=>
      have h1':ds[i]? = some d:=by simpa using h1
      obtain⟨v,h2,h3⟩:=il.get h1'
      have hi:i+1 ∉ O:=λz=>by
       have h4:=(gI_.mp h1').1
       rcases hO _ z with q|q
       ·cases q
       ·omega
      refine⟨v,wz (by simpa using h2),.inr ⟨hi,Is.ext Ext.refl (λb hb _=>⟨.inl hb,λj hj e2=>?_⟩) h3⟩⟩
      obtain⟨_,e3⟩:=only j hj _ e2
      cases e3
      exact nA hb
    ·obtain⟨rfl,rfl⟩:=only j hj v hv
     exact⟨a,(.l,xs),rfl,ha,.inr ⟨by simp[cfn],rfl⟩⟩
    ·rw[(only i hi _ h1).1,(only j hj _ h2).1]
    ·have:j=0:=by simpa [cfn] using hj
     rw[this];exact h0
   refine wt _ _ H _ r0 ?_
   have fin:∀{Z:Env}{σ:St}{H':Hp}{bs':List D},Rep K (cfn O [0] B H (λb=>b=a) (λ_ _=>False) λj=>(zV N (.ref a::vs'))[j]?) Z σ H'->zW 0 Z=some bs' ->
     ∃xs',H' a=some (.lst xs')/\True/\IsL K (λb=>B b\/H b=none) H' bs' xs':=λ{Z σ H' bs'} r e1=>by
    obtain⟨l,ys,h1,h2,h3,h4⟩:=r.getLO h0 e1
    have h5:=r.ps 0 (by simp[cfn])
    have h6:(cfn O [0] B H (λb=>b=a) (λ_ _=>False) λj=>(zV N (.ref a::vs'))[j]?).S 0=some (some (.ref a)):=wz rfl
    rw[h2,h6]at h5
    cases h5
    exact⟨ys,h3,h1,IsL.ext Ext.refl (λb hb _=>hb.1) h4⟩
   have kps:∀{Z:Env}{σ:St}{H':Hp},Rep K (cfn O [0] B H (λb=>b=a) (λ_ _=>False) λj=>(zV N (.ref a::vs'))[j]?) Z σ H'->∀b o,b≠a->H b=some o->H' b=some o:=λr b o hb ho=>r.kp b o ho hb
   cases eb:body (j9 N.length (.lst bs::ds)) with
   |bad=>rw[eb]at h;exact h.elim
   |exc z Z=>rw[eb]at h;exact h.elim
   | ok fl=>
    rw[eb]at h
    cases fl with
    | nx Z=>
     cases eg:zW 0 Z with
     |none=>simp only[eg]at h
     | some bs'=>
      simp only[eg]at h
      exact λσ' H' r' _=>by
       obtain⟨xs',h1,h2,h3⟩:=fin r' eg
       exact h .non H' xs' (kps r') (λb hb=>r'.dm b hb) h1 h2 h3 rfl
    | rt d Z=>
     cases eg:zW 0 Z with
     |none=>simp only[eg]at h
     | some bs'=>
      simp only[eg]at h
      exact λv σ' H' r' i' _=>by
       obtain⟨xs',h1,h2,h3⟩:=fin r' eg
       exact h v H' xs' (kps r') (λb hb=>r'.dm b hb) h1 h2 h3 i'
    |bk Z=>exact h.elim
    |ct Z=>exact h.elim
  ·rw[if_neg e]at h;exact h.elim
end
section
variable{X:Cx}{c:Fc}{a b e:Expr}{pos:Pos}
def qf (F:List D->R D) (g:M (List D)):M D:=bnd g λds Z=>match F ds with
 |.ok d => .ok (d,Z)
 |_ => .bad
theorem qjk {k:Nat} {f:Addr} {fd:yaD} {ps:List Str} {F:List D->R D} {x:Str} {p:Pos} {es:List Expr} {g:M (List D)} (G:uY X.prog X.w X.K X.mg X.base CX0 k f fd ps (spD X.K F)) (hr:yv k X.A) (hg:Gl X x) (hm:X.mg x=some (.ref f)) (hk:yal X.K (.ref f)=true) (hb:yT X.K fd ps [])
  (ha:DA X c (e::es) g) (hd:(x==("__debug__":Str))=false:=by decide) (he:yac (e::es) X.env=(false,eval e X.env)::yac es X.env:=by rfl) (hpl:(yaz pos (yac es X.env)).any (·.1)=false:=by rfl):DE X c (.Call (.Name x p) (e::es) [] pos) (qf F g):=by
 obtain⟨t,pa,w⟩:=ha
 refine⟨_,wM G hr hg hm hk hb .nil qi6 pa hd he hpl,λZ σ H Q r h=>w Z σ H _ r (WpL.bnd h λds Z1 vs H1 r1 i1 g1 h1=>?_)⟩
 rw[ya4]
 refine⟨ds,Cn c σ,i1,r1.tb,?_⟩
 cases ef:F ds with
 |bad=>simp only[ef]at h1;exact h1.elim
 |exc z Z'=>simp only[ef]at h1;exact h1.elim
 |ok d=>
  simp only[ef]at h1
  exact λv H' sm i=>h1 v H' (r1.same sm) (Is.ext Ext.refl (λa ha _=>ha.elim id r1.new) i) (.of_same sm)
def qo (F:List D->List D->R (D×List D)) (i:Nat) (g:M (List D)):M D:=λZ=>match zW i Z with
 |none => .bad
 | some _=>(bnd g λds Z=>match zW i Z with
  |none => .bad
  |some bs=>match F bs ds with
   |.ok (d,bs') => .ok (d,Z.set i (some (.lst bs')))
   |_ => .bad) Z
theorem qfi {k i:Nat} {f:Addr} {fd:yaD} {ps:List Str} {F:List D->List D->R (D×List D)} {x y:Str} {p p1:Pos} {es:List Expr} {g:M (List D)} (G:uY X.prog X.w X.K X.mg X.base CX0 k f fd ps (qdd X.K F)) (hr:yv k X.A) (hg:Gl X x) (hm:X.mg x=some (.ref f)) (hk:yal X.K (.ref f)=true) (hb:yT X.K fd ps [])
  (ha:DA X c es g) (ho:i∈c.O:=by exact of_decide_eq_true rfl) (hN:X.N[i]? = some y:=by rfl) (hv:Vis X.env.scope y:=by first|exact ya0 rfl|exact yaJ (ya0 rfl)|exact yaJ (yaJ rfl)) (hdy:(y==("__debug__":Str))=false:=by decide) (hcd:(y==("__classdict__":Str))=false:=by decide)
  (hd:(x==("__debug__":Str))=false:=by decide) (he:yac (.Name y p1::es) X.env=(false,eval (.Name y p1) X.env)::yac es X.env:=by rfl) (hpl:(yaz pos (yac es X.env)).any (·.1)=false:=by rfl):DE X c (.Call (.Name x p) (.Name y p1::es) [] pos) (qo F i g):=by
 obtain⟨t,pa,w⟩:=ha
 refine⟨_,wM G hr hg hm hk hb .nil qi6 (ja (yI hN hv hdy hcd) pa he) hd he hpl,λZ σ H Q r h=>?_⟩
 unfold qo at h
 cases e0:zW i Z with
 |none=>simp only[e0]at h;exact h.elim
 | some ds0=>
  simp only[e0]at h
  obtain⟨l,xs0,_,hl,hH,_⟩:=r.getLO ho e0
  refine⟨.ref l,hl,w Z σ H _ r (WpL.bnd h λds Z1 vs H1 r1 i1 g1 h1=>?_)⟩
  show qdd X.K F (.ref l::vs++[]) H1 Q E0
  rw[ya4]
  cases e1:zW i Z1 with
  |none=>simp only[e1]at h1;exact h1.elim
  | some bs=>
   simp only[e1]at h1
   obtain⟨l',xs,him,hl',hH',il⟩:=r1.getLO ho e1
   rw[hl]at hl'
   cases hl'
   refine⟨bs,ds,Cn c σ,l,xs,vs,rfl,hH',r1.tb,il,λhc=>hc.2 i ho hl,i1,?_⟩
   cases ef:F bs ds with
   |bad=>simp only[ef]at h1;exact h1.elim
   |exc z Z'=>simp only[ef]at h1;exact h1.elim
   |ok q=>
    obtain⟨d,bs'⟩:=q
    simp only[ef]at h1
    intro v H' xs' kp dm ha2 him2 il2 i2
    obtain⟨r2,g2⟩:=r1.io (bs:=bs') ho hl kp ha2 him2 (IsL.ext Ext.refl (λa ha _=>ha.elim id r1.new) il2) dm
    exact h1 v H' r2 (Is.ext Ext.refl (λa ha _=>ha.elim id r1.new) i2) g2
end
def qgS:Key->PyData
 |.inl i => .int i
 |.inr x => .str x
mutual
def zI:D->PyData
 |.non => .none
 |.bl b => .bool b
 |.int i => .int i
 |.str x => .str x
 |.tup ds => .tuple (toPDs ds)
 |.lst ds => .list (toPDs ds)
 |.dic kvs => .dict (kvs.map λp=>(qgS p.1,.int p.2))
 |.fz ns => .list (ns.map .int)
 |.exc _ => .dict [(.int (2 ^ 2000),.none)]
 |.exv _ _ => .dict [(.int (2 ^ 2000),.none)]
def toPDs:List D->List PyData
 | []=>[]
 |d::ds=>zI d::toPDs ds
end
mutual
def noL:D->Bool
 |.tup ds=>noLs ds
 |.lst _=>false
 |.fz _=>false
 |_=>true
def noLs:List D->Bool
 | []=>true
 |d::ds=>noL d&&noLs ds
end
mutual
def noX:D->Bool
 |.tup ds=>noXs ds
 |.lst ds=>noXs ds
 |.exc _=>false
 |.exv _ _=>false
 |_=>true
def noXs:List D->Bool
 | []=>true
 |d::ds=>noX d&&noXs ds
end
mutual
theorem qh1:∀{d:D},(zI d).showable=true->noX d=true
 |.non,_=>rfl
 |.bl _,_=>rfl
 |.int _,_=>rfl
 |.str _,_=>rfl
 |.tup ds,h=>by unfold noX;exact noXs_sh (by simpa [zI,yd1] using h)
 |.lst ds,h=>by unfold noX;exact noXs_sh (by simpa [zI,yd1] using h)
 |.dic _,_=>rfl
 |.fz _,_=>rfl
 |.exc _,h=>by
  have e:(yea [(.int (2 ^ 2000),.none)]).showable=false:=by decide +kernel
  rw[show zI (.exc _)=yea [(.int (2 ^ 2000),.none)]from rfl,e]at h
  cases h
 |.exv _ _,h=>by
  have e:(yea [(.int (2 ^ 2000),.none)]).showable=false:=by decide +kernel
  rw[show zI (.exv _ _)=yea [(.int (2 ^ 2000),.none)]from rfl,e]at h
  cases h
theorem noXs_sh:∀{ds:List D},ybZ (toPDs ds)=true->noXs ds=true
 | [],_=>rfl
 |d::ds,h=>by
  have h':(zI d).showable=true/\ybZ (toPDs ds)=true:=by simpa [toPDs,ybZ] using h
  unfold noXs
  rw[qh1 h'.1,noXs_sh h'.2];rfl
end
mutual
theorem qfj:∀{d:D},(zI d).canLay0=true->noX d=true
 |.non,_=>rfl
 |.bl _,_=>rfl
 |.int _,_=>rfl
 |.str _,_=>rfl
 |.tup ds,h=>by unfold noX;exact noXs_lay (by simpa [zI,ybs] using h)
 |.lst ds,h=>by unfold noX;exact noXs_lay (by simpa [zI,ybs] using h)
 |.dic _,_=>rfl
 |.fz _,_=>rfl
 |.exc _,h=>by simp[zI,ybs]at h
 |.exv _ _,h=>by simp[zI,ybs]at h
theorem noXs_lay:∀{ds:List D},ya3 (toPDs ds)=true->noXs ds=true
 | [],_=>rfl
 |d::ds,h=>by
  have h':(zI d).canLay0=true/\ya3 (toPDs ds)=true:=by simpa [toPDs,ya3] using h
  unfold noXs
  rw[qfj h'.1,noXs_lay h'.2];rfl
end
theorem vi {h:Heap}:∀{ns:List Int}{us:List Value},zk (ns.map V.int) us->∃as,yfy h us (ns.map .int) as
 | [],us,r=>by
  rw[ydO]at r;cases r;exact⟨[],.nil⟩
 | n::ns,us,r=>by
  rw[mC_]at r
  cases r with
  |cons r1 r2=>
   obtain⟨t,e⟩:=r1
   subst e
   obtain⟨as,q⟩:=vi (ns:=ns) r2
   exact⟨[]++as,.cons (.int n t) q⟩
theorem qcr{α:Type}{x:α}{l l':List α}(h1:x ∉ l)(h2:x ∉ l'):x ∉ l++l':=λh=>(mA_.mp h).elim h1 h2
theorem w6 {P:yai} {w:World} {h:Heap}:∀{kvs:List (Key×Int)}{es:List DictEntry}{vs:List (Key×Value)},KV (kvs.map λp=>(p.1,V.int p.2)) vs->Pairs (wE P w) es vs ->
  yfy h (es.map (·.key)) ((kvs.map λp=>(qgS p.1,PyData.int p.2)).map (·.1)) []/\yfy h (es.map (·.val)) ((kvs.map λp=>(qgS p.1,PyData.int p.2)).map (·.2)) []
 | [],es,vs,r,p=>by
  have r':KV ([]:List (Key×V)) vs:=r
  unfold KV at r'
  cases r'
  cases p
  exact⟨.nil,.nil⟩
 | (k,i)::kvs,es,vs,r,p=>by
  have r':KV ((k,V.int i)::kvs.map λp=>(p.1,V.int p.2)) vs:=r
  unfold KV at r'
  cases r' with
  | cons r1 r2=>
   cases p with
   | cons p1 p2 p3=>
    obtain⟨q1,q2⟩:=w6 (h:=h) (kvs:=kvs) r2 p3
    obtain⟨e1,t,e2⟩:=r1
    have hk:∀{e:DictEntry}{kv:Key×Value},k=kv.1->(wE P w).is kv.1 e.key=true->Reads h e.key (qgS k) []:=λ{e kv} hk hi=>by
     subst hk
     rcases zr hi with⟨i,t,e1,e2⟩|⟨x,t,e1,e2⟩
     ·rw[e1,e2];exact .int i t
     ·rw[e1,e2];exact .str x t
    refine⟨.cons (as:=[]) (bs:=[]) (hk e1 p1) q1,.cons (as:=[]) (bs:=[]) ?_ q2⟩
    show Reads h _ (.int i) []
    dsimp only
    rw[p2,e2]
    exact .int i t
section
variable{X:Cx}{pins:List (Addr×Obj)}{σ:St}{H:Hp}{s:yaa}{A:Addr->Prop}
mutual
theorem jI (I:Inv X pins σ H s):∀{d:D}{v:V}{u:Value},noX d=true->Is X.K A H d v->jh v u->∃as,Reads s.heap u (zI d) as/\(noL d=true->ycd ∉ as)
 |.non,_,_,_,h,r=>by cases h;cases r;exact⟨[],.none,by simp⟩
 |.bl b,_,_,_,h,r=>by cases h;cases r;exact⟨[],.bool b,by simp⟩
 |.int i,_,_,_,h,r=>by cases h;obtain⟨t,rfl⟩:=r;exact⟨[],.int i t,by simp⟩
 |.str x,_,_,_,h,r=>by cases h;obtain⟨t,rfl⟩:=r;exact⟨[],.str x t,by simp⟩
 |.tup ds,_,_,nx,⟨a,xs,hv,ta,il⟩,r=>by
  subst hv
  cases r
  obtain⟨its,rv,p,_⟩:=I.tuple ta.sq
  obtain⟨o,h1,h2,n,h3⟩:=p
  obtain⟨as,q,nl⟩:=readsL_of I (by simpa [noX] using nx) il rv
  exact⟨as,.tuple h1 h2 h3 (by simpa using q),λz=>nl (by simpa [noL] using z)⟩
 |.lst ds,_,_,nx,⟨a,xs,hv,_,ta,il⟩,r=>by
  subst hv
  cases r
  obtain⟨its,rv,p,_⟩:=I.list (SqL.of ta)
  obtain⟨o,h1,h2,n,h3⟩:=p.isList
  obtain⟨as,q,nl⟩:=readsL_of I (by simpa [noX] using nx) il rv
  exact⟨a::as,.list h1 h2 h3 (by simpa using q),λz=>by simp[noL]at z⟩
 |.dic kvs,_,_,_,⟨a,hv,_,ta⟩,r=>by
  subst hv
  cases r
  obtain⟨hz,hS,vs,rk,o,es,ep,h1,h2,h3,h4,h5,h6⟩:=(show jf X.prog X.w H s.heap a (.dK _)from I.hok a _ ta)
  obtain⟨q1,q2⟩:=w6 (h:=s.heap) rk h5
  refine⟨_,Reads.dict (as:=[]) (bs:=[]) h1 h2.1 h3 q1 q2,λ_ hm=>?_⟩
  have:ycd=a:=by simpa using hm
  rw[<-this]at hS
  simp at hS
 |.exc _,_,_,nx,_,_=>by simp[noX]at nx
 |.exv _ _,_,_,nx,_,_=>by simp[noX]at nx
 |.fz ns,_,_,_,⟨a,hv,ta⟩,r=>by
  subst hv
  cases r
  obtain⟨its,rv,p,_⟩:=I.list ta.sq
  obtain⟨o,h1,h2,n,h3⟩:=p.isList
  obtain⟨as,q⟩:=vi rv
  exact⟨a::as,.list h1 h2 h3 (by simpa using q),λz=>by simp[noL]at z⟩
theorem readsL_of (I:Inv X pins σ H s):∀{ds:List D}{xs:List V}{us:List Value},noXs ds=true->IsL X.K A H ds xs->zk xs us->∃as,yfy s.heap us (toPDs ds) as/\(noLs ds=true->ycd ∉ as)
 | [],_,_,_,h,r=>by cases h;cases r;exact⟨[],.nil,by simp⟩
 | d :: ds,_,_,nx,⟨x,ys,hx,h1,h2⟩,r=>by
  subst hx
  cases r with
  | cons r1 r2=>
   have nx':noX d=true/\noXs ds=true:=by simpa [noXs] using nx
   obtain⟨as,q1,n1⟩:=jI I nx'.1 h1 r1
   obtain⟨bs,q2,n2⟩:=readsL_of I nx'.2 h2 r2
   exact ⟨as++bs,.cons q1 q2,λz=>by
    have z':noL d=true/\noLs ds=true:=by simpa [noLs] using z
    exact qcr (n1 z'.1) (n2 z'.2)⟩
end
end
def qbM(d:D):Bool:=(zI d).showable&&decide ((zI d).shown.length<=yap)&&decide ((zI d).depth<=50)&&(!(zI d).hasDict||noL d)
def qlO(K:Fr0):List V->Hp->VK->Prop:=λxs H Q=>∃v d A,xs=[v]/\Is K A H d v/\qbM d=true/\Q (.str (zI d).shown) H
section
variable{X:Cx}
theorem uH {k:Nat} (hr:yv k X.A):jV X (.builtin "repr") (qlO X.K):=by
 intro pins s σ H xs us Q I r h
 obtain⟨v,d,A,rfl,hi,ok,q⟩:=h
 obtain⟨u,rfl,ru⟩:=zk.one r
 unfold qbM at ok
 simp only[yad,decide_eq_true_eq]at ok
 obtain⟨⟨⟨o1,o2⟩,o3⟩,o4⟩:=ok
 obtain⟨as,rd,nl⟩:=jI I (qh1 o1) hi ru
 have hun:=hr.un
 have big:∀a,u=.ref a->wpAny (model X.prog X.w) X.A (call (.builtin "repr") [u]) (EP X pins σ Q) X.xe s:=λa e=>by
  subst e
  refine repr_of_reads' rd o1 (λhd=>nl ?_) hr.gd (by omega) (λ_ _ e=>e) (λh' u tk hk=>⟨.str _,H,I.kept hk,⟨_,rfl⟩,q⟩) o2
  rw[hd]at o4
  simpa using o4
 cases d with
 |non=>cases hi;cases ru;exact PySem.P.repr_of_none ⟨.str _,H,I.tok _,⟨_,rfl⟩,q⟩
 |bl b=>cases hi;cases ru;exact PySem.P.repr_of_bool ⟨.str _,H,I.tok _,⟨s.toks,by cases b<;>rfl⟩,q⟩
 |int i=>
  cases hi;obtain⟨t,rfl⟩:=ru
  exact PySem.P.repr_of_int (of_decide_eq_true o1) ⟨.str _,H,I.tok _,⟨_,rfl⟩,q⟩
 |str x=>cases hi;obtain⟨t,rfl⟩:=ru;exact PySem.P.repr_of_str ⟨.str _,H,I.tok _,⟨_,rfl⟩,q⟩ o2
 |tup ds=>obtain⟨a,zs,rfl,_⟩:=hi;exact big a ru
 |lst ds=>obtain⟨a,zs,rfl,_⟩:=hi;exact big a ru
 |dic kvs=>obtain⟨a,rfl,_⟩:=hi;exact big a ru
 |fz ns=>obtain⟨a,rfl,_⟩:=hi;exact big a ru
 |exc C=>obtain⟨a,rfl,_⟩:=hi;exact big a ru
 |exv C k=>obtain⟨a,rfl,_⟩:=hi;exact big a ru
end
def jX:List D->OD
 | [d]=>if qbM d then some (.str (zI d).shown)else none
 |_=>none
theorem uI {K:Fr0}:vF K jX (qlO K):=by
 intro A H xs d vs Q hn h e k
 unfold jX at e
 split at e
 ·rename_i d0
  obtain⟨v,rfl,e2⟩:=IsL.inv1 h
  obtain⟨e6,e7⟩:=zD e
  subst e7
  exact⟨v,d0,A,rfl,e2,e6,k _ H (zX.refl H) rfl⟩
 ·cases e
def wA(d:D):Bool:=(zI d).canLay0&&decide ((zI d).depth<=50)
def qgs(K:Fr0)(neg:Bool):R2:=λx y H Q=>∃d e A,Is K A H d x/\Is K A H e y/\wA d=true/\wA e=true/\Q (.bl (if neg then !yb0 (zI d) (zI e)else yb0 (zI d) (zI e))) H
section
variable{X:Cx}
theorem vL {d:D} (h:wA d=true):SeqAt.shaped (zI d)=true:=by
 unfold wA at h
 unfold SeqAt.shaped
 simp only[yad,decide_eq_true_eq]at h |-
 exact⟨h.1,by omega⟩
theorem v7 {d:D} (h:wA d=true):noX d=true:=by
 unfold wA at h
 rw[yad]at h
 exact qfj h.1
theorem qlP {k:Nat} (hr:yv k X.A):OpR X (yaM .Eq) (qgs X.K false):=by
 intro pins s σ H x y v u Q I rx ry h
 obtain⟨d,e,A,h1,h2,o1,o2,q⟩:=h
 obtain⟨as,r1,_⟩:=jI I (v7 o1) h1 rx
 obtain⟨bs,r2,_⟩:=jI I (v7 o2) h2 ry
 exact yeb r1 r2 (vL o1) (vL o2) hr.units ⟨.bl _,H,I,rfl,by simpa using q⟩
theorem qh2 {k:Nat} (hr:yv k X.A):OpR X (yaM .NotEq) (qgs X.K true):=by
 intro pins s σ H x y v u Q I rx ry h
 obtain⟨d,e,A,h1,h2,o1,o2,q⟩:=h
 obtain⟨as,r1,_⟩:=jI I (v7 o1) h1 rx
 obtain⟨bs,r2,_⟩:=jI I (v7 o2) h2 ry
 exact SeqAt.compareNe_shaped r1 r2 (vL o1) (vL o2) hr.units ⟨.bl _,H,I,rfl,by simpa using q⟩
end
def eqA(x y:D):OD:=if wA x&&wA y then some (.bl (yb0 (zI x) (zI y)))else none
def neA(x y:D):OD:=if wA x&&wA y then some (.bl (!yb0 (zI x) (zI y)))else none
theorem qjl {K:Fr0}:OpS K eqA (qgs K false):=by
 intro A H x y d v u Q hn ix iy e k
 obtain⟨e1,e2⟩:=zD e
 rw[yad]at e1
 subst e2
 exact⟨x,y,A,ix,iy,e1.1,e1.2,k _ H (zX.refl H) rfl⟩
theorem qjm {K:Fr0}:OpS K neA (qgs K true):=by
 intro A H x y d v u Q hn ix iy e k
 obtain⟨e1,e2⟩:=zD e
 rw[yad]at e1
 subst e2
 exact⟨x,y,A,ix,iy,e1.1,e1.2,k _ H (zX.refl H) rfl⟩
section
variable{X:Cx}{c:Fc}{a b e:Expr}{pos:Pos}
def qh3 (i:Nat) (g:M D):M D:=λZ=>match zW i Z with
 |none => .bad
 |some _=>(bnd g λy Z=>match zW i Z with
  |none => .bad
  |some ds=>lift (neA (.lst ds) y) Z) Z
theorem qlQ {i k:Nat} {x:Str} {p1:Pos} {g:M D} (hr:yv k X.A) (hb:DE X c b g) (ho:i∈c.O:=by exact of_decide_eq_true rfl) (hN:X.N[i]? = some x:=by rfl) (hv:Vis X.env.scope x:=by first|exact ya0 rfl|exact yaJ (ya0 rfl)|exact yaJ (yaJ rfl)) (hd:(x==("__debug__":Str))=false:=by decide) (hcd:(x==("__classdict__":Str))=false:=by decide) :
  DT X c (.Compare (.Name x p1) [.NotEq] [b] pos) (tst (qh3 i g)):=by
 obtain⟨tb,pb,wb⟩:=hb
 refine⟨_,qeO (qh2 hr) (yI hN hv hd hcd) pb (qJ _),λZ σ H Q r h=>?_⟩
 unfold tst qh3 bnd at h
 cases e0:zW i Z with
 |none=>simp only[e0]at h;exact h.elim
 | some ds0=>
  simp only[e0]at h
  obtain⟨l,xs0,_,hl,hH,_⟩:=r.getLO ho e0
  refine⟨.ref l,hl,wb Z σ H _ r ?_⟩
  cases eg:g Z with
  |bad=>simp only[eg]at h;exact h
  |exc z Z'=>simp only[eg]at h;exact h
  | ok q=>
   obtain⟨y,Z1⟩:=q
   simp only[eg]at h
   intro u H1 r1 i1 g1
   cases e1:zW i Z1 with
   |none=>simp only[e1]at h;exact h.elim
   | some ds=>
    simp only[e1]at h
    cases en:neA (.lst ds) y with
    |none=>simp only[en,lift]at h;exact h.elim
    |some d=>
     simp only[en,lift,ret]at h
     obtain⟨e3,e4⟩:=zD en
     rw[yad]at e3
     subst e4
     obtain⟨l',xs,him,hl',hH',il⟩:=r1.getLO ho e1
     rw[hl]at hl'
     cases hl'
     refine⟨.lst ds,y,λ_=>True,⟨l,xs,rfl,trivial,hH',IsL.ext Ext.refl (λ_ h _=>trivial) il⟩,Is.ext Ext.refl (λ_ _ _=>trivial) i1,e3.1,e3.2,_,rfl,?_⟩
     exact h H1 r1 g1
end
section
variable{prog:yai}{w:World}{A:yaj}{E:Value->yaa->Prop}{s:yaa}
theorem qjn {it tu:Addr} {k:Nat} {arr:Array Value} {x:Value} {Q:Value->yaa->Prop} (hI:s.heap.IsTupleIter it tu k) (hT:s.heap.IsTuple tu arr) (hx:arr[k]? = some x)
  (q:∀h',h'.IsTupleIter it tu (k+1)->yb4 it s.heap h'->Q x {s with heap:=h' }):wpAny (model prog w) A (ybI (.ref it)) Q E s:=by
 obtain⟨ob,e1,e2,e3⟩:=id hI
 obtain⟨ot,f1,_,m,f2⟩:=hT
 unfold ybI
 refine yab (wpAny_callSpecial?_slot (name:=ycv "__next__") hI.typeIs ybD (ycJ ybD hI.typeIs ydg ?_ (ydb _)))
 show wpAny (model prog w) _ (field (yam it) 0 >>= _) _ _ s
 refine yab (yaL e1 e3 (x:=yam tu) rfl ?_)
 show wpAny (model prog w) _ (if(yam tu==yaG)=true then _ else _) _ _ s
 rw[if_neg (show ¬((yam tu==yaG)=true)from yao)]
 show wpAny (model prog w) _ (field (yam it) 1 >>= _) _ _ s
 refine yab (yaL e1 e3 (x:=ybT k 0) rfl ?_)
 show wpAny (model prog w) _ (seqItems? (yam tu) >>= _) _ _ s
 refine yab (wpAny_seqItems f1 f2 ?_)
 simp only[ybo,hx]
 refine yab (yb8 e1 e3 (by simp) (yaq ⟨x,rfl,yaq (q _ ?_ (yeK ..))⟩))
 exact⟨_,Heap.get?_update_self _ e1 (yb9 (ya1 e3 _)),(ydz ..).trans e2,by rw[ya1 e3];simp[ya7]⟩
theorem qjo {it tu:Addr} {k:Nat} {arr:Array Value} {Q:Value->yaa->Prop} (hh:A.handled=none) (hI:s.heap.IsTupleIter it tu k) (hT:s.heap.IsTuple tu arr) (hx:arr[k]? = none)
  (q:∀h' e,Heap.ExtBut it s.heap h'->(∃o,h'.get? e=some o/\o.cls=.type "StopIteration")->E (.ref e) {s with heap:=h' }):wpAny (model prog w) A (ybI (.ref it)) Q E s:=by
 obtain⟨ob,e1,e2,e3⟩:=id hI
 obtain⟨ot,f1,_,m,f2⟩:=hT
 unfold ybI
 refine yab (wpAny_callSpecial?_slot (name:=ycv "__next__") hI.typeIs ybD (ycJ ybD hI.typeIs ydg ?_ (ydb _)))
 show wpAny (model prog w) _ (field (yam it) 0 >>= _) _ _ s
 refine yab (yaL e1 e3 (x:=yam tu) rfl ?_)
 show wpAny (model prog w) _ (if(yam tu==yaG)=true then _ else _) _ _ s
 rw[if_neg (show ¬((yam tu==yaG)=true)from yao)]
 show wpAny (model prog w) _ (field (yam it) 1 >>= _) _ _ s
 refine yab (yaL e1 e3 (x:=ybT k 0) rfl ?_)
 show wpAny (model prog w) _ (seqItems? (yam tu) >>= _) _ _ s
 refine yab (wpAny_seqItems f1 f2 ?_)
 simp only[ybo,hx]
 refine yab (yfB (yab (yb8 e1 e3 (by simp) ?_)))
 show wpAny (model prog w) _ (newExc (ycz "StopIteration") [] >>= _) _ _ _
 refine yab ?_
 simp only[newExc,newTuple]
 refine yab (yaX ?_ (by size_fits))
 refine yab (m:=firstArgMember _ _) (wpAny_of_eq (a:=yaG) (by first|rfl|(simp only[firstArgMember];rfl)) ?_)
 refine yaX ?_ (by size_fits)
 simp only[raiseNew]
 refine yab (wpAny_handled ?_)
 first|rw[show A.in1.handled=none from hh]|rw[hh]
 exact yab (yaq (wpAny_throw (q _ _ (((yeK ..).extBut.push _).push _) ⟨_,Heap.get?_push_size _ rfl,rfl⟩)))
end
theorem qde {prog:yai} {w:World} {A:yaj} (hh:A.handled=none) (it tu:Addr) (hne:tu≠it) (arr:Array Value) :
  Draws prog w A it [it,tu] arr.size (λi x=>arr[i]? = some x) (λi h=>h.IsTupleIter it tu i/\h.IsTuple tu arr) where
 live:=λi h st=>by obtain⟨⟨o,e,_⟩,_⟩:=st;exact⟨o,e⟩
 frame:=λi h h' st k=>by
  obtain⟨h1,o,e,r⟩:=st
  exact⟨h1.at λo q=>k it (by simp) o q,o,k tu (by simp) o e,r⟩
 item:=λi s Q E hi st q=>qjn st.1 st.2 (Array.getElem?_eq_getElem hi) λh' h1 sb=>q _ h' s.toks (Array.getElem?_eq_getElem hi) ⟨h1,by
  obtain⟨o,e,r⟩:=st.2
  exact⟨o,sb.extBut _ _ hne e,r⟩⟩ sb
 done:=λs Q E st q=>qjo hh st.1 st.2 (Array.getElem?_eq_none (yah _)) q
section
variable{X:Cx}{pins:List (Addr×Obj)}{σ:St}{H:Hp}{s:yaa}{h':Heap}
theorem qfk {ch:List Addr} {T:Addr} {o:HO} {t':Nat} (I:Inv X pins σ H s) (k:∀b u,b ∉ ch->s.heap.get? b=some u->h'.get? b=some u) (hf:∀b∈ch,qet X pins H b) (hT:s.heap.objs.size<=T) (new:jf X.prog X.w (upd H T o) h' T o) :
  Inv X pins σ (upd H T o) {s with heap:=h',toks:=t' }:=by
 have hn:H T=none:=I.hok.fresh hT
 have nch:∀b u,H b=some u->b ∉ ch:=λb u e z=>by rw[(hf b z).1]at e;cases e
 refine I.step (g':=s.gens) (d':=s.drawn) (ch:=ch) (λb hb=>⟨(hf b hb).2.2.2.1,(hf b hb).2.1,(hf b hb).2.2.2.2.1,(hf b hb).2.2.2.2.2⟩) (λb u _ _ hc e _=>k b u hc e) (λb u _ _ hc e _=>⟨u.slots,k b u hc e⟩) (λb u hc e n=>?_)
  (λb u hc e=>⟨u,k b u hc e⟩) (λb xs e=>by rw[qu (qL e hn)];exact e) (λb u xs e=>by rw[qu (qL e hn)];exact e) (λb ps y e=>by rw[qu (qL e hn)];exact e) (λm hm=>?_) (λb u e=>?_) I.bare
 ·rw[qu (yaw (yat (yag e) hT))];exact n
 ·obtain⟨ob,es,ep,ho,r⟩:=hm
  exact⟨ob,es,ep,k _ ob (λz=>(hf _ z).2.1 rfl) ho,r⟩
 ·by_cases hb:b=T
  ·subst hb;rw[qm]at e;cases e;exact new
  ·rw[qu hb]at e
   refine(I.hok b u e).stay (λc v hc q=>k c v ?_ q) (λc q=>by rw[qu (qL q hn)];exact q) (λc xs q=>by rw[qu (qL q hn)];exact q) λc ob y q=>by rw[qu (qL q hn)];exact q
   rcases hc with z|z
   ·rw[z];exact nch b u e
   ·exact nch c _ z
theorem qfl {ch:List Addr} {t':Nat} (I:Inv X pins σ H s) (k:∀b u,b ∉ ch->s.heap.get? b=some u->h'.get? b=some u) (hf:∀b∈ch,qet X pins H b):Inv X pins σ H {s with heap:=h',toks:=t' }:=by
 have nch:∀b u,H b=some u->b ∉ ch:=λb u e z=>by rw[(hf b z).1]at e;cases e
 refine I.step (g':=s.gens) (d':=s.drawn) (ch:=ch) (λb hb=>⟨(hf b hb).2.2.2.1,(hf b hb).2.1,(hf b hb).2.2.2.2.1,(hf b hb).2.2.2.2.2⟩) (λb u _ _ hc e _=>k b u hc e) (λb u _ _ hc e _=>⟨u.slots,k b u hc e⟩) (λb u hc e n=>n)
  (λb u hc e=>⟨u,k b u hc e⟩) (λb xs e=>e) (λb u xs e=>e) (λ_ _ _ e=>e) (λm hm=>?_) (λb u e=>?_) I.bare
 ·obtain⟨ob,es,ep,ho,r⟩:=hm
  exact⟨ob,es,ep,k _ ob (λz=>(hf _ z).2.1 rfl) ho,r⟩
 ·refine(I.hok b u e).stay (λc v hc q=>k c v ?_ q) (λc q=>q) λc xs q=>q
  rcases hc with z|z
  ·rw[z];exact nch b u e
  ·exact nch c _ z
end
theorem qaV:fillsNumberSlot (.type "tuple") "mul"=pure false:=by
 first|kernel_rfl|(unfold fillsNumberSlot;kernel_rfl)|decide +kernel
theorem qd4:seqRepeat? (.type "tuple")=pure (some (.builtin "tuple.__mul__")):=by
 first|kernel_rfl|(unfold seqRepeat?;kernel_rfl)|decide +kernel
theorem qbN (a:Int) (t:Tok) (l:Addr) (dd:Option Addr) (items:Array Value) (n:Nat) (sl:Array (Option Value)) :
  Meets (yda.«int.__rmul__» ⟨[.int a t,.ref l],[]⟩) (λ_ R s=>s.heap.get? l=some {cls:=.type "tuple",dict:=dd,data:=.seq items n,slots:=sl}/\R (.ok (.ret .notImplemented)) s) :=
 .of_wp λprog w A R s h=>by
  obtain⟨hp,g,d,tk,os⟩:=s
  obtain⟨hl,h⟩:=h
  wp_walk using yc3 hl
  exact⟨_,rfl,h⟩
theorem qlR (l:Addr) (dd:Option Addr) (items:Array Value) (n:Nat) (sl:Array (Option Value)) (k:Int) (t:Tok) (h0:¬items.isEmpty=true) (h1:¬(k==1)=true) (h2:¬k<=0) (h3:¬(decide (k < -(2 ^ 63))||decide (k >= 2 ^ 63))=true)
  (h4:¬(items.size:Int)*k>(2 ^ 63-1)/8) (h5:¬Builtin.Tuple.tupleTooMany ((items.size:Int)*k)=true) (h6:((yan k.toNat items).foldl (·++·) #[]).size<=yap) :
  Meets (yda.«tuple.__mul__» ⟨[.ref l,.int k t],[]⟩) (λ_ R s=>s.heap.get? l=some {cls:=.type "tuple",dict:=dd,data:=.seq items n,slots:=sl} /\
   R (.ok (.ret (.ref s.heap.objs.size))) {s with heap:=s.heap.push {cls:=.type "tuple",data:=.seq ((yan k.toNat items).foldl (·++·) #[])} }) :=
 .of_wp λprog w A R s h=>by
  obtain⟨hp,g,d,tk,os⟩:=s
  obtain⟨hl,h⟩:=h
  have f1:=AutoSeq1.idx_int
  have f2:=AutoSeq1.sub_tuple_tuple
  have h01:¬(items.isEmpty||k==1)=true:=by simp only[yc2,not_or];exact⟨h0,h1⟩
  have h02:¬(decide (k<=0)||items.isEmpty)=true:=by simp only[yc2,decide_eq_true_eq,not_or];exact⟨h2,h0⟩
  wp_walk using yc3 hl
  rw[if_neg h3]
  wp_walk using yc3 hl
  rw[if_neg h4]
  wp_walk using yc3 hl
  exact⟨_,rfl,h⟩
section
variable{X:Cx}
def qlS(K:Fr0):R2:=λx y H Q=>∃a xs k,x=.ref a/\y=.int k/\SqT K H a xs/\xs≠[]/\2<=k/\xs.length*k.toNat<=yap/\∀p,H p=none->Q (.ref p) (upd H p (.tup (yan k.toNat xs).flatten))
theorem qjp:OpR X (ya9 .Mult) (qlS X.K):=by
 intro pins s σ H x y v u Q I rx ry h
 obtain⟨a,xs,k,rfl,rfl,hx,hne,hk,hz,q⟩:=h
 cases rx
 obtain⟨t,rfl⟩:=ry
 obtain⟨its,r,p1,_⟩:=I.tuple hx
 obtain⟨⟨cls,dd,data,sl⟩,ho,hc,n,hd⟩:=id p1
 simp only at hc hd
 subst hc hd
 have hl:=r.length
 have hnew:yez (λx1 x2=>x1++x2) #[] (yan k.toNat its.toArray)=(yan k.toNat its).flatten.toArray:=by
  have:=wR its k.toNat []
  rw[ybY]at this
  exact this
 have hlen:(yan k.toNat its).flatten.length=k.toNat*its.length:=qcl its k.toNat
 have hsl:(yap:Nat)=16777216:=ybh
 have e0:¬its.toArray.isEmpty=true:=by
  intro e
  have:its=[]:=by simpa using e
  rw[this]at hl
  exact hne (List.length_eq_zero_iff.mp hl)
 have pos1:1<=its.length:=by
  cases its with
  |nil=>simp at e0
  |cons z zs=>simp
 have kk:((k.toNat:Nat):Int)=k:=yeL (by omega)
 have mm:(its.toArray.size:Int)*k=((its.length*k.toNat:Nat):Int):=by rw[sT_,Int.natCast_mul,kk]
 have zz:its.length*k.toNat<=yap:=by rw[<-hl];exact hz
 have kle:k.toNat<=its.length*k.toNat:=Nat.le_mul_of_pos_left _ pos1
 have T1:s.TypeIs (.ref a) "tuple":=⟨_,ho,rfl⟩
 refine ydE (T:="tuple") (U:="int") (by decide) T1 (λs'=>ydD s' k t) qaV F.fills_int_mul yc1 qd4 F.slot_int_index.lookup
  (ybi yc1 (ydD s k t) F.entry_int_rmul (yfm _ _) (qbN k t a dd its.toArray n sl)
   ⟨ho,rfl,T1,ybi F.slot_tuple_mul T1 F.entry_tuple_mul (F.args_tuple_mul_2 _ _) (qlR a dd its.toArray n sl k t e0 (by simp;omega) (by omega) (by simp;omega) (by rw[mm];omega) ?_ (by rw[hnew,sT_,hlen,ydN];exact zz)) ⟨ho,?_⟩⟩)
 ·rw[mm]
  show ¬decide (((its.length*k.toNat:Nat):Int)>(yap:Int))=true
  rw[decide_eq_true_eq]
  omega
 ·rw[hnew]
  refine⟨.ref s.heap.objs.size,_,I.laid (t':=s.toks) (o:=.tup (yan k.toNat xs).flatten) (λb ob q=>Heap.get?_push_of_some _ q) (yah _) ?_,rfl,q _ (I.hok.fresh (yah _))⟩
  exact⟨by rw[qcl,ydN];exact hz,_,r.rep k.toNat,yde _ _⟩
def qlT(K:Fr0):R2:=λx y H Q=>(rI qk5 (λi j => .int (i*j))) x y H Q\/(qlS K x y H Q\/qnV x y H Q)
theorem yF:OpR X (ya9 .Mult) (qlT X.K):=OpR.or qk8 (OpR.or qjp qlu)
end
def wv:D->D->OD
 |.int i,.int j=>if qcm i j then some (.int (i*j))else none
 |.tup ds,.int k=>if(!ds.isEmpty&&decide (2<=k))&&qT (ds.length*k.toNat)then some (.tup (yan k.toNat ds).flatten)else none
 |.lst ds,.int k=>if(decide (-(2 ^ 62)<=k)&&decide (k<2 ^ 62))&&qT (ds.length*k.toNat)then some (.lst (yan k.toNat ds).flatten)else none
 |_,_=>none
theorem IsL.rep {K:Fr0} {A:Addr->Prop} {H:Hp} {ds:List D} {xs:List V} (h:IsL K A H ds xs):∀k:Nat,IsL K A H (yan k ds).flatten (yan k xs).flatten
 |0=>by simp[IsL]
 |k+1=>by
  rw[rS_,rS_,ybE,ybE]
  exact IsL.append h (IsL.rep h k)
theorem jJ {K:Fr0}:OpS K wv (qlT K):=by
 intro A H x y d v u Q hn ix iy e k
 cases x<;>cases y<;>simp only[wv]at e<;>try (cases e;done)
 ·rename_i i j
  obtain⟨e1,e2⟩:=zD e
  subst e2
  cases ix;cases iy
  exact .inl ⟨i,j,rfl,rfl,qgJ e1,k _ H (zX.refl H) rfl⟩
 ·rename_i ds j
  obtain⟨a,xs,rfl,ta,il⟩:=ix
  cases iy
  obtain⟨e1,e2⟩:=zD e
  subst e2
  rw[yad,yad]at e1
  obtain⟨⟨e3,e4⟩,e5⟩:=e1
  refine .inr (.inl ⟨a,xs,j,rfl,rfl,ta.sq,λz=>?_,of_decide_eq_true e4,by rw[il.length];exact of_decide_eq_true e5,λp hp=>k _ _ (qw hp _) ⟨p,_,rfl,.inl qm,IsL.ext (Ext.of_same (qw hp _)) (λ_ h _=>h) (IsL.rep il _)⟩⟩)
  have:=il.length
  rw[z]at this
  have:ds=[]:=List.length_eq_zero_iff.mp this.symm
  rw[this]at e3
  simp at e3
 ·rename_i ds j
  obtain⟨a,xs,rfl,_,ta,il⟩:=ix
  cases iy
  obtain⟨e1,e2⟩:=zD e
  subst e2
  rw[yad,yad]at e1
  obtain⟨⟨e3,e4⟩,e5⟩:=e1
  have e3':=of_decide_eq_true e3
  have e4':=of_decide_eq_true e4
  refine .inr (.inr ⟨a,j,xs,rfl,rfl,ta,by omega,by omega,by rw[il.length];exact of_decide_eq_true e5,λp hp=>k _ _ (qw hp _) ⟨p,_,rfl,hn p hp,qm,IsL.ext (Ext.of_same (qw hp _)) (λ_ h _=>h) (IsL.rep il _)⟩⟩)
def qjq:D->OD
 |.int i=>some (.int (-i))
 |_=>none
def d1(F:D->OD)(f:M D):M D:=bnd f λx=>lift (F x)
def qjr(i j:Int):Bool:=decide (0<=j)&&decide (j<=1000000)&&decide (i.natAbs<2 ^ 64)
def qmR:D->D->OD:=qhV qjr λi j => .int (i ^ j.toNat)
theorem qjs {K:Fr0}:OpS K qmR (rI qnR λi j => .int (i ^ j.toNat)):=qe3 (λi j h=>by
 unfold qjr at h
 rw[yad,yad]at h
 exact⟨of_decide_eq_true h.1.1,of_decide_eq_true h.1.2,of_decide_eq_true h.2⟩) λ_ _ _ _=>rfl
section
variable{X:Cx}{c:Fc}{a b e:Expr}{pos:Pos}
theorem qdf {f:M D} (h:DE X c a f):DE X c (.UnaryOp .USub a pos) (d1 qjq f):=by
 obtain⟨t,p,w⟩:=h
 refine⟨_,qna qla p,λZ σ H Q r h=>w Z σ H _ r (Wp.bnd h λd Z1 v H1 r1 i1 g1 h1=>?_)⟩
 obtain⟨d',e,h2⟩:=h1.lift
 cases d<;>simp only[qjq]at e<;>try (cases e;done)
 rename_i i
 cases e
 cases i1
 exact⟨i,rfl,h2 _ H1 r1 rfl .refl⟩
def qjt(X:Cx)(key:Key)(n:Int):TE:=λ_ H Q=>∀p,H p=none->Q (.ref p) (upd H p (.dK [(key,.int n)]))
theorem qlU {pins:List (Addr×Obj)} {σ:St} {H:Hp} {s:yaa} (I:Inv X pins σ H s):ycd<s.heap.objs.size:=by
 obtain⟨mb,h1,_⟩:=I.ok.mod.blt
 have hlt:ybU<X.base.objs.size:=h1.lt
 have hle:X.base.objs.size<=s.heap.objs.size:=yaH I.ok.bsz I.sz
 have hd:ycd<ybU\/ycd<yaf:=by decide
 have hg:yaf<X.base.objs.size:=I.ok.mod.glob.lt
 rcases hd with z|z
 ·exact yat (Nat.lt_trans z hlt) hle
 ·exact yat (Nat.lt_trans z hg) hle
theorem qgT {key:Key} {n:Int} {ke:Expr} {j:Nat} {p1:Pos} (hk:∀(s:yaa)(Q:Value->yaa->Prop)(E:Value->yaa->Prop),(∀u tk,qbp key u=true->Q u {s with toks:=tk})->wpAny (model X.prog X.w) X.A (eval ke X.env) Q E s) :
  PE X (.Dict [some ke] [.Constant (.int n) j p1] pos) (qjt X key n):=by
 intro pins s σ H Q I h
 have hf:H s.heap.objs.size=none:=I.hok.fresh (yah _)
 refine wpAny_Dict_walk (knd:=wE X.prog X.w) rfl rfl (by simp) (by show 1<=15;decide) ?_
 refine evalPairs_cons (hk _ _ _ λu tk hu=>?_)
 refine yab (ydc (yab (ya6 (yaq (evalPairs_nil ?_)))))
 refine⟨[(key,.int n tk)],⟨hu,rfl,trivial⟩,Heap.DictOf.new _,λh' hd sb=>?_⟩
 have e:merged [] [(key,ybT n tk)]=[(key,ybT n tk)]:=by simp[merged,stored]
 rw[e]at hd
 refine⟨.ref s.heap.objs.size,upd H s.heap.objs.size (.dK [(key,.int n)]),I.laid (λb o q=>sb.extBut _ _ (yaw (yag q)) (Heap.get?_push_of_some _ q)) (yah _) ?_,rfl,h _ hf⟩
 exact⟨by show 1<=yap;decide,beq_eq_false_iff_ne.mpr (yaU (yaw (qlU I))),[(key,.int n tk)],.cons ⟨rfl,tk,rfl⟩ .nil,hd⟩
theorem qdg {key:Key} {n:Int} {ke:Expr} {j:Nat} {p1:Pos} (hk:∀(s:yaa)(Q:Value->yaa->Prop)(E:Value->yaa->Prop),(∀u tk,qbp key u=true->Q u {s with toks:=tk})->wpAny (model X.prog X.w) X.A (eval ke X.env) Q E s) :
  DE X c (.Dict [some ke] [.Constant (.int n) j p1] pos) (ret (.dic [(key,n)])):=by
 refine⟨_,qgT hk,λZ σ H Q r h p hp=>h _ _ (r.laid hp _) ⟨p,rfl,r.new hp,qm⟩ (.of_same (qw hp _))⟩
theorem qgU {i n:Int} {j j2:Nat} {p1 p2:Pos}:DE X c (.Dict [some (.Constant (.int i) j2 p2)] [.Constant (.int n) j p1] pos) (ret (.dic [(.inl i,n)])) :=
 qdg λs Q E h=>ydc (h _ _ (qew _ _))
theorem qgV {x:Str} {n:Int} {j j2:Nat} {p1 p2:Pos}:DE X c (.Dict [some (.Constant (.str x) j2 p2)] [.Constant (.int n) j p1] pos) (ret (.dic [(.inr x,n)])) :=
 qdg λs Q E h=>yeS (h _ _ (qex _ _))
def qju (i j:Nat) (f:M (List D)):MS:=sbnd f λds Z=>match ds with
 | [d,e] => .ok (.nx ((Z.set i (some d)).set j (some e)))
 |_ => .bad
theorem qh4 {i j:Nat} {x y:Str} {f:M (List D)} {px py pt:Pos} {kt k2 pt2} (hN:X.N.Nodup) (ha:DA X c [a,b] f) (hw:ycj [.Tuple [.Name x px,.Name y py] kt pt] (.Tuple [a,b] k2 pt2) X.env=pure (some [x,y])) (hc:X.calm=true:=by rfl) (hi:X.N[i]? = some x:=by rfl) (hj:X.N[j]? = some y:=by rfl) (hij:i≠j:=by decide)
  (hx:X.env.scope.names.lookup x=some .local:=by rfl) (hy:X.env.scope.names.lookup y=some .local:=by rfl) (ho:i ∉ c.O:=by exact of_decide_eq_false rfl) (hp:j ∉ c.O:=by exact of_decide_eq_false rfl)
  (hs:yci [.Tuple [.Name x px,.Name y py] kt pt] (.Tuple [a,b] k2 pt2) pos.line X.env=pure false:=by rfl) :
  DS X c (.Assign [.Tuple [.Name x px,.Name y py] kt pt] (.Tuple [a,b] k2 pt2) pos) (qju i j f):=by
 obtain⟨t,p,w⟩:=ha
 refine⟨_,qk1 hc hN hi hj hij hx hy p hw hs,λZ σ H D r h=>w Z σ H _ r (WpL.sbnd h λds Z1 vs H1 r1 i1 g1 h1=>?_)⟩
 match ds,i1,h1 with
 | [],_,h1=>exact h1.elim
 | [_],_,h1=>exact h1.elim
 | [d,e],i1,h1=>
  obtain⟨v,u,rfl,j1,j2⟩:=IsL.inv2 i1
  refine⟨v,u,rfl,h1 _ H1 ((r1.set ho j1).set hp ?_) ((GrS.set ho).trans (GrS.set hp))⟩
  exact(GrS.set (H:=H1) ho).is j2
 |_::_::_::_,_,h1=>exact h1.elim
mutual
def immF:D->Bool
 |.tup ds=>immFs ds
 |.lst _=>false
 |.dic _=>false
 |_=>true
def immFs:List D->Bool
 | []=>true
 |d::ds=>immF d&&immFs ds
end
mutual
theorem Is.immF {K:Fr0} {A B:Addr->Prop} {H:Hp}:∀{d:D}{v:V},immF d=true->Is K A H d v->Is K B H d v
 |.non,_,_,h=>h
 |.bl _,_,_,h=>h
 |.int _,_,_,h=>h
 |.str _,_,_,h=>h
 |.tup ds,_,i,⟨a,xs,hv,h,r⟩=>⟨a,xs,hv,h,IsL.immF (by simpa [Sk.immF] using i) r⟩
 |.lst _,_,i,_=>by simp[Sk.immF]at i
 |.dic _,_,i,_=>by simp[Sk.immF]at i
 |.fz _,_,_,h=>h
 |.exc _,_,_,h=>h
 |.exv _ _,_,_,h=>h
theorem IsL.immF {K:Fr0} {A B:Addr->Prop} {H:Hp}:∀{ds:List D}{xs:List V},immFs ds=true->IsL K A H ds xs->IsL K B H ds xs
 | [],_,_,h=>h
 |d::ds,_,i,⟨x,ys,hx,h,r⟩=>by
  have i':Sk.immF d=true/\immFs ds=true:=by simpa [immFs] using i
  exact⟨x,ys,hx,Is.immF i'.1 h,IsL.immF i'.2 r⟩
end
def qbO (F:List D->R D) (g:M (List D)):M (List D):=bnd g λds Z=>if immFs ds then match F ds with
 |.ok (.lst bs)=>if immL bs then .ok (bs,Z)else .bad
 |_ => .bad else .bad
theorem qjv {k:Nat} {f:Addr} {fd:yaD} {ps:List Str} {F:List D->R D} {x:Str} {p:Pos} {es:List Expr} {g:M (List D)} (G:uY X.prog X.w X.K X.mg X.base CX0 k f fd ps (spD X.K F)) (hr:yv k X.A) (hg:Gl X x) (hm:X.mg x=some (.ref f)) (hk:yal X.K (.ref f)=true) (hb:yT X.K fd ps [])
  (ha:DA X c (e::es) g) (hd:(x==("__debug__":Str))=false:=by decide) (he:yac (e::es) X.env=(false,eval e X.env)::yac es X.env:=by rfl) (hpl:(yaz pos (yac es X.env)).any (·.1)=false:=by rfl):DN X c (.Call (.Name x p) (e::es) [] pos) (qbO F g):=by
 obtain⟨t,pa,w⟩:=ha
 refine⟨_,wM G hr hg hm hk hb .nil qi6 pa hd he hpl,λZ σ H Q r h=>w Z σ H _ r (WpL.bndN h λds Z1 vs H1 r1 i1 g1 h1=>?_)⟩
 rw[ya4]
 by_cases him:immFs ds=true
 ·rw [if_pos him]at h1
  refine⟨ds,λ_=>False,IsL.immF him i1,r1.tb,?_⟩
  cases ef:F ds with
  |bad=>simp only[ef]at h1;exact h1.elim
  |exc z Z'=>simp only[ef]at h1;exact h1.elim
  | ok d=>
   cases d with
   | lst bs=>
    simp only[ef]at h1
    by_cases hb2:immL bs=true
    ·rw[if_pos hb2]at h1
     intro v H' sm i
     obtain⟨a,xs,rfl,hA,ha2,il⟩:=i
     have hn:H1 a=none:=hA.elim yaR id
     exact h1 a xs H' hn (r1.same sm) (r1.apart_same hn sm) ha2 trivial (IsL.imm hb2 il) (.of_same sm)
    ·rw[if_neg hb2]at h1;exact h1.elim
   |_=>simp only[ef]at h1;exact h1.elim
 ·rw[if_neg him]at h1;exact h1.elim
end
structure qjw (outer:Scope) (N:List Str) (scope:Scope) (N':List Str) (nt:Nat) (fr:List Nat):Prop where
 kind:scope.kind=.function
 nocell:∀y∈scope.names,y.2 ≠ .cell
 names:∀y∈scope.names,y.2=.local->scope.names.lookup y.1=some .local
 frees:∀y∈scope.names,y.2=.free->outer.names.lookup y.1=some .cell
 len:N'.length=nt+fr.length
 slots:∀p∈fr.zipIdx,N'[nt+p.2]? = N[p.1]? /\ ((N[p.1]?).bind λx=>scope.names.lookup x)=some .free
theorem qjw.ok {X:Cx} {outer:Scope} {N:List Str} {scope:Scope} {N':List Str} {nt:Nat} {fr:List Nat} (S:qjw outer N scope N' nt fr) (h1:X.env.scope=outer) (h2:X.N=N):uk X scope N' nt fr:=by
 subst h1 h2
 refine⟨S.kind,S.nocell,S.names,S.frees,S.len,λi j h=>?_⟩
 have hm:(j,i)∈fr.zipIdx:=by
  rw[yep]
  refine⟨i,?_⟩
  rw[List.getElem?_zipIdx,h]
  simp
 obtain⟨h3,h4⟩:=S.slots (j,i) hm
 cases e:X.N[j]? with
 |none=>
  have h4':((X.N[j]?).bind λx=>scope.names.lookup x)=some .free:=h4
  rw[e]at h4';cases h4'
 | some x=>
  have h4':((X.N[j]?).bind λx=>scope.names.lookup x)=some .free:=h4
  rw[e]at h4'
  exact ⟨x,by
    have h3':N'[nt+i]? = X.N[j]? := h3
    rw[h3',e],rfl,h4'⟩
structure zP (P:yai) (w:World) (K:yae) (mg:Str->Option Value) (base:Heap) (k:Nat) (x:Str) (ps:List Str) (sp:Sp):Prop where
 ex:∃f fd,uY P w K mg base CX0 k f fd ps sp/\mg x=some (.ref f)/\yal K (.ref f)=true/\yT K fd ps []
theorem vj:yay "len"=some (.builtin "len"):=by decide +kernel
theorem qlV:yay "abs"=some (.builtin "abs"):=by decide +kernel
theorem qlW:yay "max"=some (.builtin "max"):=by decide +kernel
theorem qlX:yay "min"=some (.builtin "min"):=by decide +kernel
theorem qh5:yay "all"=some (.builtin "all"):=by decide +kernel
theorem qfm:yay "divmod"=some (.builtin "divmod"):=by decide +kernel
theorem qaW:yay "repr"=some (.builtin "repr"):=by decide +kernel
theorem qaA:yay "int"=some (.type "int"):=by decide +kernel
theorem qfn:yay "bool"=some (.type "bool"):=by decide +kernel
theorem qbP:yay "str"=some (.type "str"):=by decide +kernel
theorem vk:yay "tuple"=some (.type "tuple"):=by decide +kernel
theorem qC:yay "isinstance"=some (.builtin "isinstance"):=by decide +kernel
def zo:MS:=λZ => .ok (.nx Z)
theorem qM{X:Cx}{c:Fc}:DSs X c [] zo:=qi9
theorem uo{X:Cx}:IxR X (λx y H Q=>qlm X.K x y H Q\/qln X.K x y H Q):=qeV.or qlo
theorem qjx {c:Fc} {nt:Nat} {fr:List Nat} {i j:Nat} (h1:j∈c.O) (h2:nt<=i) (h3:fr[i-nt]? = some j) (h4:∀p∈fr.zipIdx,nt+p.2≠i->p.1 ∉ c.O):qkJ c nt fr (some (i,j)) :=
 ⟨h1,h2,h3,λk j' h hk=>h4 (j',k) (by rw[yep];exact⟨k,by rw[List.getElem?_zipIdx,h];simp⟩) hk⟩
def eqB (x y:D):OD:=match sc2 x y with
 |some b=>some (.bl b)
 |none=>eqA x y
def neB (x y:D):OD:=match sc2 x y with
 |some b=>some (.bl (!b))
 |none=>neA x y
theorem yM{X:Cx}{k:Nat}(hr:yv k X.A):OpR X (yaM .Eq) (λx y H Q=>rEq x y H Q\/qgs X.K false x y H Q):=OpR.or qlb (qlP hr)
theorem j4{X:Cx}{k:Nat}(hr:yv k X.A):OpR X (yaM .NotEq) (λx y H Q=>rNe x y H Q\/qgs X.K true x y H Q):=OpR.or qlc (qh2 hr)
theorem jk {K:Fr0}:OpS K eqB (λx y H Q=>rEq x y H Q\/qgs K false x y H Q):=by
 intro A H x y d v u Q hn ix iy e k
 unfold eqB at e
 cases e1:sc2 x y with
 |some b=>simp only[e1]at e;exact .inl (qjb A H x y d v u Q hn ix iy (by unfold eqS;rw[e1];exact e) k)
 |none=>simp only[e1]at e;exact .inr (qjl A H x y d v u Q hn ix iy e k)
theorem z0 {K:Fr0}:OpS K neB (λx y H Q=>rNe x y H Q\/qgs K true x y H Q):=by
 intro A H x y d v u Q hn ix iy e k
 unfold neB at e
 cases e1:sc2 x y with
 |some b=>simp only[e1]at e;exact .inl (qe4 A H x y d v u Q hn ix iy (by unfold neS;rw[e1];exact e) k)
 |none=>simp only[e1]at e;exact .inr (qjm A H x y d v u Q hn ix iy e k)
end L2.Sk
namespace L2.Sk
section
variable{α β:Type}{Z:Env}{f g k:M D}{t u:M Bool}{l m:M (List D)}{p q r:MS}
theorem qfo(a:α):ret a Z=.ok (a,Z):=rfl
theorem qfp(o:Option α):lift o Z=match o with|some a => .ok (a,Z)|none => .bad:=by cases o<;>rfl
theorem qnm{f:M α}{k:α->M β}:bnd f k Z=match f Z with|.ok (a,Z')=>k a Z'|.exc x Z' => .exc x Z'|.bad => .bad:=rfl
theorem qn0(i:Nat):dv i Z=match Z[i]? with|some (some d) => .ok (d,Z)|_ => .bad:=rfl
theorem yV:qb f l Z=match f Z with|.ok (d,Z1)=>(match l Z1 with|.ok (ds,Z2) => .ok (d::ds,Z2)|.exc x Z' => .exc x Z'|.bad => .bad)|.exc x Z' => .exc x Z'|.bad => .bad:=by
 simp only[qb,bnd,sbnd]
 cases f Z with
 |ok z=>
  obtain⟨z1,Z1⟩:=z
  simp only[ret]
  cases l Z1 with
  |ok z=>obtain⟨z2,Z2⟩:=z;rfl
  |exc x Z'=>rfl
  |bad=>rfl
 |exc x Z'=>rfl
 |bad=>rfl
theorem qdh:z8 l Z=match l Z with|.ok (ds,Z1)=>(if qT ds.length then .ok (.tup ds,Z1)else .bad)|.exc x Z' => .exc x Z'|.bad => .bad:=by
 simp only[z8,bnd,sbnd]
 cases l Z with
 |ok z=>
  obtain⟨z1,Z1⟩:=z
  cases h:qT z1.length<;>simp[h,lift,ret]
 |exc x Z'=>rfl
 |bad=>rfl
theorem qaB:jg l Z=match l Z with|.ok (ds,Z1)=>(if qT ds.length then .ok (.lst ds,Z1)else .bad)|.exc x Z' => .exc x Z'|.bad => .bad:=by
 simp only[jg,bnd,sbnd]
 cases l Z with
 |ok z=>
  obtain⟨z1,Z1⟩:=z
  cases h:qT z1.length<;>simp[h,lift,ret]
 |exc x Z'=>rfl
 |bad=>rfl
theorem qh6:qfg l Z=match l Z with|.ok (ds,Z1)=>(if immL ds&&qT ds.length then .ok (ds,Z1)else .bad)|.exc x Z' => .exc x Z'|.bad => .bad:=by
 simp only[qfg,bnd,sbnd]
 cases l Z with
 |ok z=>
  obtain⟨z1,Z1⟩:=z
  cases h:(immL z1&&qT z1.length)<;>simp[h,lift,ret]
 |exc x Z'=>rfl
 |bad=>rfl
theorem qmS (F:D->D->OD):d2 F f g Z=match f Z with|.ok (x,Z1)=>(match g Z1 with|.ok (y,Z2)=>(match F x y with|some d => .ok (d,Z2)|none => .bad)|.exc x Z' => .exc x Z'|.bad => .bad)|.exc x Z' => .exc x Z'|.bad => .bad:=by
 simp only[d2,bnd,sbnd]
 cases f Z with
 |ok z=>
  obtain⟨z1,Z1⟩:=z
  dsimp only <;>
  cases g Z1 with
  |ok z=>obtain⟨z2,Z2⟩:=z;(dsimp only;cases F z1 z2<;>rfl)
  |exc x Z'=>rfl
  |bad=>rfl
 |exc x Z'=>rfl
 |bad=>rfl
theorem qn1 (F:D->OD):d1 F f Z=match f Z with|.ok (x,Z1)=>(match F x with|some d => .ok (d,Z1)|none => .bad)|.exc x Z' => .exc x Z'|.bad => .bad:=by
 simp only[d1,bnd,sbnd]
 cases f Z with
 |ok z=>
  obtain⟨z1,Z1⟩:=z
  (dsimp only;cases F z1<;>rfl)
 |exc x Z'=>rfl
 |bad=>rfl
theorem qaX (F:List D->OD):qs F l Z=match l Z with|.ok (xs,Z1)=>(match F xs with|some d => .ok (d,Z1)|none => .bad)|.exc x Z' => .exc x Z'|.bad => .bad:=by
 simp only[qs,bnd,sbnd]
 cases l Z with
 |ok z=>
  obtain⟨z1,Z1⟩:=z
  (dsimp only;cases F z1<;>rfl)
 |exc x Z'=>rfl
 |bad=>rfl
theorem qaY (F:List D->R D):qf F l Z=match l Z with|.ok (xs,Z1)=>(match F xs with|.ok d => .ok (d,Z1)|_ => .bad)|.exc x Z' => .exc x Z'|.bad => .bad:=by
 simp only[qf,bnd,sbnd]
 cases l Z with
 |ok z=>
  obtain⟨z1,Z1⟩:=z
  cases F z1<;>rfl
 |exc x Z'=>rfl
 |bad=>rfl
theorem qdi (T:String):qbG T f Z=match f Z with|.ok (d,Z1) => .ok (.bl (wX (tyD d) T),Z1)|.exc x Z' => .exc x Z'|.bad => .bad:=by
 simp only[qbG,bnd,sbnd]
 cases f Z with
 |ok z=>
  obtain⟨z1,Z1⟩:=z
  rfl
 |exc x Z'=>rfl
 |bad=>rfl
theorem qjy:tst f Z=match f Z with|.ok (d,Z1)=>(match asB d with|some b => .ok (b,Z1)|none => .bad)|.exc x Z' => .exc x Z'|.bad => .bad:=by
 simp only[tst,bnd,sbnd]
 cases f Z with
 |ok z=>
  obtain⟨z1,Z1⟩:=z
  (dsimp only;cases asB z1<;>rfl)
 |exc x Z'=>rfl
 |bad=>rfl
theorem v8(b:Bool):asB (.bl b)=some b:=rfl
theorem qbQ:vd t Z=match t Z with|.ok (b,Z1) => .ok (!b,Z1)|.exc x Z' => .exc x Z'|.bad => .bad:=by
 simp only[vd,bnd,sbnd]
 cases t Z with
 |ok z=>
  obtain⟨z1,Z1⟩:=z
  rfl
 |exc x Z'=>rfl
 |bad=>rfl
theorem qdj:ub t u Z=match t Z with|.ok (b,Z1)=>(bif b then u Z1 else .ok (false,Z1))|.exc x Z' => .exc x Z'|.bad => .bad:=by
 simp only[ub,bnd,sbnd]
 cases t Z with
 |ok z=>
  obtain⟨z1,Z1⟩:=z
  cases z1<;>rfl
 |exc x Z'=>rfl
 |bad=>rfl
theorem qfq:tor t u Z=match t Z with|.ok (b,Z1)=>(bif b then .ok (true,Z1)else u Z1)|.exc x Z' => .exc x Z'|.bad => .bad:=by
 simp only[tor,bnd,sbnd]
 cases t Z with
 |ok z=>
  obtain⟨z1,Z1⟩:=z
  cases z1<;>rfl
 |exc x Z'=>rfl
 |bad=>rfl
theorem qh7:qi8 f g Z=match f Z with|.ok (d,Z1)=>(match asB d with|some b=>(bif b then g Z1 else .ok (.bl false,Z1))|none => .bad)|.exc x Z' => .exc x Z'|.bad => .bad:=by
 simp only[qi8,bnd,sbnd]
 cases f Z with
 |ok z=>
  obtain⟨z1,Z1⟩:=z
  simp only[qfp]
  cases asB z1 with
  |none=>rfl
  |some b=>cases b<;>rfl
 |exc x Z'=>rfl
 |bad=>rfl
theorem qjz:dor f g Z=match f Z with|.ok (d,Z1)=>(match asB d with|some b=>(bif b then .ok (.bl true,Z1)else g Z1)|none => .bad)|.exc x Z' => .exc x Z'|.bad => .bad:=by
 simp only[dor,bnd,sbnd]
 cases f Z with
 |ok z=>
  obtain⟨z1,Z1⟩:=z
  simp only[qfp]
  cases asB z1 with
  |none=>rfl
  |some b=>cases b<;>rfl
 |exc x Z'=>rfl
 |bad=>rfl
theorem qh8:qly f Z=match f Z with|.ok (d,Z1)=>(match asB d with|some b => .ok (.bl (!b),Z1)|none => .bad)|.exc x Z' => .exc x Z'|.bad => .bad:=by
 simp only[qly,bnd,sbnd]
 cases f Z with
 |ok z=>
  obtain⟨z1,Z1⟩:=z
  simp only[qfp]
  cases asB z1 with
  |none=>rfl
  |some b=>cases b<;>rfl
 |exc x Z'=>rfl
 |bad=>rfl
theorem qd5:dif t f g Z=match t Z with|.ok (b,Z1)=>(bif b then f Z1 else g Z1)|.exc x Z' => .exc x Z'|.bad => .bad:=by
 simp only[dif,bnd,sbnd]
 cases t Z with
 |ok z=>
  obtain⟨z1,Z1⟩:=z
  cases z1<;>rfl
 |exc x Z'=>rfl
 |bad=>rfl
theorem qgW:sif t p q Z=match t Z with|.ok (b,Z1)=>(bif b then p Z1 else q Z1)|.exc x Z' => .exc x Z'|.bad => .bad:=by
 simp only[sif,bnd,sbnd]
 cases t Z with
 |ok z=>
  obtain⟨z1,Z1⟩:=z
  cases z1<;>rfl
 |exc x Z'=>rfl
 |bad=>rfl
theorem qh9:qt p q Z=match p Z with|.ok (.nx Z')=>q Z'|z=>z:=by
 unfold qt
 cases p Z with
 |ok z=>cases z<;>rfl
 |exc x Z'=>rfl
 |bad=>rfl
theorem qbR:qZ f Z=match f Z with|.ok (d,Z1) => .ok (.rt d Z1)|.exc x Z' => .exc x Z'|.bad => .bad:=by
 simp only[qZ,bnd,sbnd]
 cases f Z with
 |ok z=>
  obtain⟨z1,Z1⟩:=z
  rfl
 |exc x Z'=>rfl
 |bad=>rfl
theorem qdk (i:Nat):qY i f Z=match f Z with|.ok (d,Z1) => .ok (.nx (Z1.set i (some d)))|.exc x Z' => .exc x Z'|.bad => .bad:=by
 simp only[qY,bnd,sbnd]
 cases f Z with
 |ok z=>
  obtain⟨z1,Z1⟩:=z
  rfl
 |exc x Z'=>rfl
 |bad=>rfl
theorem qcs (i:Nat):yE i l Z=match l Z with|.ok (ds,Z1) => .ok (.nx (Z1.set i (some (.lst ds))))|.exc x Z' => .exc x Z'|.bad => .bad:=by
 simp only[yE,bnd,sbnd]
 cases l Z with
 |ok z=>
  obtain⟨z1,Z1⟩:=z
  rfl
 |exc x Z'=>rfl
 |bad=>rfl
theorem qaZ:zt f Z=match f Z with|.ok (_,Z1) => .ok (.nx Z1)|.exc x Z' => .exc x Z'|.bad => .bad:=by
 simp only[zt,bnd,sbnd]
 cases f Z with
 |ok z=>
  obtain⟨z1,Z1⟩:=z
  rfl
 |exc x Z'=>rfl
 |bad=>rfl
theorem qia:zo Z=.ok (.nx Z):=rfl
theorem qib (i j:Nat):qju i j l Z=match l Z with|.ok ([d,e],Z1) => .ok (.nx ((Z1.set i (some d)).set j (some e)))|.ok _ => .bad|.exc x Z' => .exc x Z'|.bad => .bad:=by
 simp only[qju,bnd,sbnd]
 cases l Z with
 |ok z=>
  obtain⟨z1,Z1⟩:=z
  match z1 with
  | []=>rfl
  | [_]=>rfl
  | [_,_]=>rfl
  |_::_::_::_=>rfl
 |exc x Z'=>rfl
 |bad=>rfl
theorem qic (G:D->Env->Option Env):qmO f G Z=match f Z with|.ok (d,Z1)=>(match G d Z1 with|some Z2 => .ok (.nx Z2)|none => .bad)|.exc x Z' => .exc x Z'|.bad => .bad:=by
 simp only[qmO,bnd,sbnd]
 cases f Z with
 |ok z=>
  obtain⟨z1,Z1⟩:=z
  dsimp only <;>
  cases G z1 Z1<;>rfl
 |exc x Z'=>rfl
 |bad=>rfl
theorem uV (G:D->Env->Option Env) (b:MS):qay l G b Z=match l Z with|.ok (ds,Z1)=>zL G b ds Z1|.exc x Z' => .exc x Z'|.bad => .bad:=by
 simp only[qay,bnd,sbnd]
 cases l Z with
 |ok z=>
  obtain⟨z1,Z1⟩:=z
  rfl
 |exc x Z'=>rfl
 |bad=>rfl
theorem qid:qbn f Z=match f Z with|.ok (d,Z1)=>(match qmQ d with|some ds => .ok (ds,Z1)|none => .bad)|.exc x Z' => .exc x Z'|.bad => .bad:=by
 simp only[qbn,bnd,sbnd]
 cases f Z with
 |ok z=>
  obtain⟨z1,Z1⟩:=z
  (dsimp only;cases qmQ z1<;>rfl)
 |exc x Z'=>rfl
 |bad=>rfl
theorem qfr:u5 l Z=match l Z with|.ok (d,Z1)=>(match qh0 d with|some ds => .ok (ds,Z1)|none => .bad)|.exc x Z' => .exc x Z'|.bad => .bad:=by
 simp only[u5,bnd,sbnd]
 cases l Z with
 |ok z=>
  obtain⟨z1,Z1⟩:=z
  (dsimp only;cases qh0 z1<;>rfl)
 |exc x Z'=>rfl
 |bad=>rfl
theorem qct {nt:Nat} {fr:List Nat} {fo:Option (Nat×Nat)} {G:D->Env->Option Env} {e:M D}:yL nt fr fo l G t e Z=match l Z with
  |.ok (ds,Z1)=>(match z6 G t e ds [] (yK nt fr Z1) with|.ok (ys,Ze) => .ok (.lst ys,qkI fo Ze Z1)|_ => .bad)|.exc x Z' => .exc x Z'|.bad => .bad:=by
 simp only[yL,bnd,sbnd]
 cases l Z with
 |ok z=>
  obtain⟨z1,Z1⟩:=z
  dsimp only <;>
  cases z6 G t e z1 [] (yK nt fr Z1) with
  |ok z=>obtain⟨z2,Z2⟩:=z;rfl
  |exc x Z'=>rfl
  |bad=>rfl
 |exc x Z'=>rfl
 |bad=>rfl
theorem uq (F:List D->List D->R (D×List D)) (i:Nat):qo F i l Z=match zW i Z with
  |none => .bad
  | some _=>(match l Z with
   |.ok (ds,Z1)=>(match zW i Z1 with
    |none => .bad
    |some bs=>(match F bs ds with|.ok (d,bs') => .ok (d,Z1.set i (some (.lst bs')))|_ => .bad))
   |.exc x Z' => .exc x Z'|.bad => .bad):=by
 simp only[qo,bnd]
 cases zW i Z with
 |none=>rfl
 | some _=>
  dsimp only <;>
  cases l Z with
  | ok z=>
   obtain⟨z1,Z1⟩:=z
   dsimp only <;>
   cases zW i Z1 with
   |none=>rfl
   |some bs=>
    dsimp only <;>
    cases F bs z1 with
    |ok z=>obtain⟨z2,z3⟩:=z;rfl
    |exc x Z'=>rfl
    |bad=>rfl
  |exc x Z'=>rfl
  |bad=>rfl
theorem qfs (F:List D->R D):qbO F l Z=match l Z with
  |.ok (ds,Z1)=>(if immFs ds then(match F ds with|.ok (.lst bs)=>(if immL bs then .ok (bs,Z1)else .bad)|_ => .bad)else .bad)|.exc x Z' => .exc x Z'|.bad => .bad:=by
 simp only[qbO,bnd,sbnd]
 cases l Z with
 | ok z=>
  obtain⟨z1,Z1⟩:=z
  dsimp only <;>
  cases immFs z1 with
  |false=>rfl
  |true=>
   simp only[if_true]
   cases F z1 with
   |ok z=>cases z<;>rfl
   |exc x Z'=>rfl
   |bad=>rfl
 |exc x Z'=>rfl
 |bad=>rfl
theorem qie (i:Nat):qbK i f Z=match zW i Z with
  |none => .bad
  | some _=>(match f Z with
   |.ok (k,Z1)=>(match k,zW i Z1 with
    |.int n,some ds=>(match atI ds n with|some d => .ok (d,Z1)|none => .bad)
    |_,_ => .bad)
   |.exc x Z' => .exc x Z'|.bad => .bad):=by
 simp only[qbK,bnd]
 cases zW i Z with
 |none=>rfl
 | some _=>
  dsimp only <;>
  cases f Z with
  |ok z=>
   obtain⟨z1,Z1⟩:=z
   dsimp only <;>
   cases z1<;>cases zW i Z1<;>try rfl
  |exc x Z'=>rfl
  |bad=>rfl
theorem qft (i:Nat):qgR i k f Z=match f Z with
  | .ok (d,Z1)=>(match zW i Z1 with
   |none => .bad
   | some _=>(match k Z1 with
    | .ok (j,Z2)=>(match j,zW i Z2 with
     |.int n,some ds=>(match ixN ds.length n with
      |some q=>if imm d then .ok (.nx (Z2.set i (some (.lst (ds.set q d)))))else .bad
      |none => .bad)
     |_,_ => .bad)
    |.exc x Z' => .exc x Z'|.bad => .bad))
  |.exc x Z' => .exc x Z'|.bad => .bad:=by
 simp only[qgR,bnd,sbnd]
 cases f Z with
 | ok z=>
  obtain⟨z1,Z1⟩:=z
  dsimp only <;>
  cases zW i Z1 with
  |none=>rfl
  | some _=>
   dsimp only <;>
   cases k Z1 with
   |ok z=>
    obtain⟨z2,Z2⟩:=z
    dsimp only <;>
    cases z2<;>cases zW i Z2<;>try rfl
   |exc x Z'=>rfl
   |bad=>rfl
 |exc x Z'=>rfl
 |bad=>rfl
theorem qfu (i:Nat):qbJ i Z=match zW i Z with|some ds => .ok (.int ds.length,Z)|none => .bad:=by
 unfold qbJ
 cases zW i Z<;>rfl
theorem qfv (i:Nat):qcp i Z=match zW i Z with|some ds => .ok (.tup ds,Z)|none => .bad:=by
 unfold qcp
 cases zW i Z<;>rfl
theorem qif (i:Nat):qh3 i f Z=match zW i Z with
  |none => .bad
  | some _=>(match f Z with
   |.ok (y,Z1)=>(match zW i Z1 with
    |none => .bad
    |some ds=>(match neA (.lst ds) y with|some d => .ok (d,Z1)|none => .bad))
   |.exc x Z' => .exc x Z'|.bad => .bad):=by
 simp only[qh3,bnd]
 cases zW i Z with
 |none=>rfl
 | some _=>
  dsimp only <;>
  cases f Z with
  |ok z=>
   obtain⟨z1,Z1⟩:=z
   dsimp only <;>
   cases zW i Z1 with
   |none=>rfl
   |some ds=>(dsimp only;cases neA (.lst ds) z1<;>rfl)
  |exc x Z'=>rfl
  |bad=>rfl
theorem w8 (i:Nat):qB i f Z=match zW i Z with
  |none => .bad
  | some _=>(match f Z with
   |.ok (d,Z1)=>(match zW i Z1 with
    |some ds=>if imm d&&qT (ds.length+1)then .ok (.non,Z1.set i (some (.lst (ds++[d]))))else .bad
    |none => .bad)
   |.exc x Z' => .exc x Z'|.bad => .bad):=by
 simp only[qB,bnd]
 cases zW i Z with
 |none=>rfl
 | some _=>
  dsimp only <;>
  cases f Z with
  |ok z=>
   obtain⟨z1,Z1⟩:=z
   dsimp only <;>
   cases zW i Z1<;>rfl
  |exc x Z'=>rfl
  |bad=>rfl
theorem qfw:zu f Z=match f Z with|.ok (.int i,Z1) => .ok (some i,Z1)|.ok _ => .bad|.exc x Z' => .exc x Z'|.bad => .bad:=by
 simp only[zu,bnd,sbnd]
 cases f Z with
 |ok z=>
  obtain⟨z1,Z1⟩:=z
  cases z1<;>rfl
 |exc x Z'=>rfl
 |bad=>rfl
end
theorem zM {n:Nat} (h:n<=1000000):qT n=true:=by
 unfold qT
 exact decide_eq_true (yaH h (by rw[yfn];decide))
theorem qjA {n p:Nat} {body:MS} {ds:List D} {d:D} {Z:Env} (h:ds.length=p) (e:body (j9 n ds)=.ok (.rt d Z)):dfn n p body ds=.ok d:=by
 unfold dfn;rw[if_pos h,e]
theorem qaC {n p:Nat} {body:MS} {bs ds bs':List D} {d:D} {Z:Env} (h:ds.length+1=p) (e:body (j9 n (.lst bs::ds))=.ok (.rt d Z)) (g:zW 0 Z=some bs'):u7 n p body bs ds=.ok (d,bs'):=by
 unfold u7;rw[if_pos h,e];simp only[g]
end L2.Sk
namespace L2.Sk
open PySem PySem.Spec PyProof.Rows
section
variable{prog:yai}{w:World}{A:yaj}{E:Value->yaa->Prop}{s:yaa}
theorem qfx {l:Addr} {xs:Array Value} {Q:Value->yaa->Prop} (t1:s.heap.IsTuple l xs)
  (fin:∀h',IsEnum h' (s.heap.objs.size+1) s.heap.objs.size 0 .none->h'.IsTupleIter s.heap.objs.size l 0->(∀c o,s.heap.get? c=some o->h'.get? c=some o)->Q (.ref (s.heap.objs.size+1)) {s with heap:=h' }) :
  wpAny (model prog w) A (call (.type "enumerate") [.ref l]) Q E s:=by
 have meets:Meets (yda.«enumerate.__new__» ⟨[.type "enumerate",.ref l],[]⟩) (λ_ R s=>s.heap.IsTuple l xs /\
   R (.ok (.ret (.ref (s.heap.objs.size+1)))) {s with heap:=(s.heap.push {cls:=.type "tuple_iterator",data:=.fields #[.ref l,.int 0 0]}).push {cls:=.type "enumerate",data:=.fields #[.none,.bool false,.ref s.heap.objs.size,ya7 0,.none,.none]} }) :=
  .of_wp λprog w A R s h=>by
   obtain⟨hp,g,d,tk,os⟩:=s
   obtain⟨ha,h⟩:=h
   have hsub:=sub_enumerate
   have hA:Heap.IsTuple (Shared.heap ⟨hp,g,d,tk,os⟩) l xs:=ha
   obtain⟨o,ho,_⟩:=id ha
   have ho':hp.get? l=some o:=ho
   wp_walk using yaQ ho'
   refine wpAny_stack_any λst=>yaq ?_
   split
   ·rename_i c _ _ _ _ _
    cases (c==ycz "enumerate")
    ·wp_walk using yaQ ho',ycx hA
     simp only[ybt]at *
     exact⟨_,rfl,h⟩
    ·wp_walk using yaQ ho',ycx hA
     simp only[ybt]at *
     exact⟨_,rfl,h⟩
   ·wp_walk using yaQ ho',ycx hA
    simp only[ybt]at *
    exact⟨_,rfl,h⟩
 refine callType_new ye5 (by decide) (yec _) (yeq _) (λobj=>yeA obj _) yer meets ⟨t1,?_⟩
 generalize e1:s.heap.push {cls:=.type "tuple_iterator",data:=.fields #[.ref l,.int 0 0]}=m1
 have s1:m1.objs.size=s.heap.objs.size+1:=by rw[<-e1,ybt]
 have q1:m1.get? s.heap.objs.size=some {cls:=.type "tuple_iterator",data:=.fields #[.ref l,.int 0 0]}:=by rw[<-e1];exact Heap.get?_push_size _ rfl
 have k1:∀c o,s.heap.get? c=some o->m1.get? c=some o:=λc o x=>by rw[<-e1];exact Heap.get?_push_of_some _ x
 generalize e2:m1.push {cls:=.type "enumerate",data:=.fields #[.none,.bool false,.ref s.heap.objs.size,ya7 0,.none,.none]}=m2
 have q2:m2.get? (s.heap.objs.size+1)=some {cls:=.type "enumerate",data:=.fields #[.none,.bool false,.ref s.heap.objs.size,ya7 0,.none,.none]}:=by rw[<-e2,<-s1];exact Heap.get?_push_size _ rfl
 have k2:∀c o,m1.get? c=some o->m2.get? c=some o:=λc o x=>by rw[<-e2];exact Heap.get?_push_of_some _ x
 show _/\_
 exact⟨⟨_,q2,rfl⟩,fin m2 q2 ⟨_,k2 _ _ q1,rfl,rfl⟩ λc o x=>k2 _ _ (k1 _ _ x)⟩
end
def Ite (K:Fr0) (a:Addr) (xs:List V):It :=
 ⟨λi H=>i<xs.length/\SqT K H a xs,λi H x H'=>∃p u,H p=none/\xs[i]? = some u/\x=.ref p/\H'=upd H p (.tup [.int i,u]),λi H=>i=xs.length/\SqT K H a xs⟩
def ESt(z i1 a1:Addr)(i:Nat)(h:Heap):Prop:=(∃old,IsEnum h z i1 i old)/\h.IsTupleIter i1 a1 i
theorem qfy {P:yai} {w:World} {K:Fr0} {es:List Expr} {kk:Nat} {pos:Pos} {z i1 a1:Addr} {xs:List V} (zi:z≠i1) (za:z≠a1) (n1:a1≠i1) :
  qiR P w K (.Tuple es kk pos) (Ite K a1 xs) [z,i1] z (ESt z i1 a1) where
 mem:=by simp
 obj:=λi h st b hb=>by
  obtain⟨⟨old,h1⟩,⟨o4,h4,c4,d4⟩⟩:=st
  simp only[yar,nN_,or_false]at hb
  rcases hb with rfl|rfl
  ·exact⟨_,h1,λv e=>by cases (show yd5 _=Data.cell v from e)⟩
  ·exact⟨_,h4,λv e=>by rw[d4]at e;cases e⟩
 keep:=λi h h' st k=>by
  obtain⟨⟨old,h1⟩,h4⟩:=st
  exact⟨⟨old,k z (by simp) _ h1⟩,h4.at λo e=>k i1 (by simp) o e⟩
 item:=by
  intro X hP hw hK hc i pins s σ H E I hf st hg
  subst hP hw hK
  obtain⟨hlt,hx⟩:=hg
  obtain⟨⟨old,h1⟩,h4⟩:=st
  obtain⟨it1,r1,p1,z1⟩:=I.tuple hx
  have l1:i<it1.toArray.size:=by rw[sT_,<-r1.length];omega
  have hh:X.A.in1.handled=none:=I.ok.hd hc
  refine ydU (qde hh i1 a1 n1 it1.toArray) h1 ⟨h4,p1⟩ l1 zi (by simp[zi,za]) λx h' tk px ho u1 new hsz kp=>?_
  refine⟨.ref s.heap.objs.size,rfl,ydu ho λh2' zz2 sb=>?_⟩
  obtain⟨xv,hxv⟩:∃v,xs[i]? = some v:=⟨xs[i]'(by omega),gG (by omega)⟩
  obtain⟨x',ex,rx⟩:=r1.get hxv
  have exx:x'=x:=by
   have:it1.toArray[i]? = some x:=px
   rw[List.getElem?_toArray,ex]at this
   exact yaA this
  subst exx
  have lz:z<s.heap.objs.size:=yag h1
  have keep:∀b u,b ∉ [z,i1]->s.heap.get? b=some u->h2'.get? b=some u:=λb u hb e=>by
   simp only[yar,nN_,or_false,not_or]at hb
   exact(sb.2 b hb.1).trans (kp b u hb.1 hb.2 e)
  have I2:Inv X pins σ (upd H s.heap.objs.size (.tup [.int i,xv])) {s with heap:=h2',toks:=tk+1} :=
   qfk I keep hf (yah _) ⟨by show 2<=yap;decide,[.int i tk,x'],.cons ⟨tk,rfl⟩ (.cons rx .nil),⟨_,(sb.2 _ (ybx lz)).trans new,rfl,_,rfl⟩⟩
  refine⟨.ref s.heap.objs.size,upd H s.heap.objs.size (.tup [.int i,xv]),I2,rfl,⟨s.heap.objs.size,xv,I.hok.fresh (yah _),hxv,rfl,rfl⟩,?_,λb hb=>?_⟩
  ·exact⟨⟨_,by simpa using zz2⟩,u1.1.at λo e=>(sb.2 i1 zi.symm).trans e⟩
  ·have hb1:b≠s.heap.objs.size:=by
    simp only[yar,nN_,or_false]at hb
    obtain⟨o4,g4,_⟩:=h4
    rcases hb with rfl|rfl
    ·exact yaw (yag h1)
    ·exact yaw (yag g4)
   rw[qu hb1]
   exact(hf b hb).1
 done:=by
  intro X hP hw hK hc i pins s σ H E I hf st hg
  subst hP hw hK
  obtain⟨hlt,hx⟩:=hg
  obtain⟨⟨old,h1⟩,h4⟩:=st
  obtain⟨it1,r1,p1,z1⟩:=I.tuple hx
  have hh:X.A.in1.handled=none:=I.ok.hd hc
  have e:i=it1.toArray.size:=by rw[sT_,<-r1.length];exact hlt
  subst e
  refine yed (qde hh i1 a1 n1 it1.toArray) h1 ⟨h4,p1⟩ λh' kp=>⟨rfl,qfl (t':=s.toks) I (λb u hb e=>?_) hf⟩
  simp only[yar,nN_,or_false,not_or]at hb
  exact kp b u hb.2 e
 self:=λA i s Q E st h=>by
  obtain⟨⟨old,h1⟩,_⟩:=st
  exact ycC h1 h
section
variable{X:Cx}{c:Fc}{a b e:Expr}{pos:Pos}{es:List Expr}{kk:Nat}{tp:Pos}
def qnn(K:Fr0)(ta:TA):TI:=λσ H R=>ta σ H λvs H1=>∃a1 xs,vs=[.ref a1]/\SqT K H1 a1 xs/\R (Ite K a1 xs) H1
theorem qjB {ta:TA} {p:Pos} (hg:Gl X "enumerate") (hm:X.mg "enumerate"=none) (ha:PA X [a] ta) (hs:yac [a] X.env=[(false,eval a X.env)]:=by rfl) :
  PI X (.Tuple es kk tp) (.Call (.Name "enumerate" p) [a] [] pos) (qnn X.K ta):=by
 intro pins s σ H R I h
 refine Call_ (wG I hg hm ydh (yba (thn (ha pos pins s σ H _ I h) λus s1 ⟨vs,H1,I1,r1,q1⟩=>?_) (by rw[hs];rfl) (by rfl)))
 obtain⟨a1,xs,e1,hx,q⟩:=q1
 subst e1
 obtain⟨u1,rfl,ru1⟩:=zk.one r1
 cases (show u1=yam a1 from ru1)
 obtain⟨it1,v1,p1,z1⟩:=I1.tuple hx
 refine qfx (show s1.heap.IsTuple a1 it1.toArray from p1) λh' zz g1 kp=>?_
 refine ycC zz ?_
 have la1:a1<s1.heap.objs.size:=by obtain⟨o,e,_⟩:=p1;exact yag e
 refine⟨s1.heap.objs.size+1,[s1.heap.objs.size+1,s1.heap.objs.size],_,_,H1,rfl,I1.kept (t':=s1.toks) kp,qfy (xs:=xs) (Nat.succ_ne_self _) (ybx (yfo la1)) (yaw la1),⟨⟨_,zz⟩,g1⟩,λb hb=>?_,q⟩
 simp only[yar,nN_,or_false]at hb
 have hb2:s1.heap.objs.size<=b:=by
  rcases hb with e|e<;>rw[e]
  ·exact Nat.le_add_right _ _
  ·exact yah _
 exact I1.fpOk hb2 (I1.hok.fresh hb2)
def jt (k:Nat):List D->List D
 | []=>[]
 |x::xs => .tup [.int (k:Nat),x]::jt (k+1) xs
theorem ur:∀(k:Nat)(xs:List D),(jt k xs).length=xs.length
 |_,[]=>rfl
 |k,x::xs=>by simp[jt,ur (k+1) xs]
theorem w9:∀{xs:List D}{k i:Nat}{d:D},(jt k xs)[i]? = some d->∃x,xs[i]? = some x/\d=.tup [.int ((k+i:Nat):Int),x]
 | [],_,_,_,h=>by simp[jt]at h
 |x::xs,k,0,d,h=>by
  have:D.tup [.int (k:Nat),x]=d:=by simpa [jt] using h
  exact⟨x,rfl,this.symm⟩
 |x::xs,k,i+1,d,h=>by
  obtain⟨y,h1,h2⟩:=w9 (xs:=xs) (k:=k+1) (i:=i) (d:=d) (by simpa [jt] using h)
  exact⟨y,by simpa using h1,by rw[h2];congr 4;omega⟩
theorem qjC {K:Fr0} {A:Addr->Prop} {H:Hp} {ds:List D} {xs:List V} {a1:Addr} (t1:qao K H a1 xs) (i1:IsL K A H ds xs):qgr K A H (jt 0 ds) (Ite K a1 xs) where
 go:=λH' i d ex hd=>by
  have hl:i<(jt 0 ds).length:=(gI_.mp hd).1
  rw[ur,<-i1.length]at hl
  exact⟨hl,(t1.elim (λh => .inl (ex.tup _ _ h)) .inr:qao K H' a1 xs).sq⟩
 yl:=λH' i d x H'' ex hd y=>by
  obtain⟨p,u,hp,hu,rfl,rfl⟩:=y
  obtain⟨dx,h1,rfl⟩:=w9 hd
  obtain⟨u',g1,g2⟩:=i1.get h1
  rw[hu]at g1
  cases g1
  have sm:=qw hp (.tup [.int i,u])
  exact⟨sm,p,[.int i,u],rfl,.inl qm,.int i,[u],rfl,by rw[ye6];rfl,u,[],rfl,Is.ext (Ext.of_same sm) (λ_ h _=>h) (Is.ext ex (λ_ h _=>h) g2),rfl⟩
 stop:=λH' ex=>⟨by rw[ur,i1.length],(t1.elim (λh => .inl (ex.tup _ _ h)) .inr:qao K H' a1 xs).sq⟩
def qgX:List D->Option (List D)
 | [.tup xs]=>some (jt 0 xs)
 |_=>none
def qgY(f:M (List D)):M (List D):=bnd f λds=>lift (qgX ds)
theorem qjD {f:M (List D)} {p:Pos} (hg:Gl X "enumerate") (hm:X.mg "enumerate"=none) (ha:DA X c [a] f) (hs:yac [a] X.env=[(false,eval a X.env)]:=by rfl) :
  DI X c (.Tuple es kk tp) (.Call (.Name "enumerate" p) [a] [] pos) (qgY f):=by
 obtain⟨t,pa,w⟩:=ha
 refine⟨_,qjB hg hm pa hs,λZ σ H Q r h=>w Z σ H _ r (WpL.bndI h λds Z1 vs H1 r1 i1 g1 h1=>?_)⟩
 obtain⟨es',e,h2⟩:=vf h1
 unfold qgX at e
 split at e
 ·obtain⟨v,rfl,j1⟩:=IsL.inv1 i1
  cases e
  obtain⟨a1,xs,rfl,t1,il1⟩:=Is.tr j1
  exact⟨a1,xs,rfl,t1.sq,h2 _ H1 r1 (qjC t1 il1) .refl⟩
 ·cases e
end
def vD:D->V
 |.bl b => .bl b
 |.int i => .int i
 |.str x => .str x
 |_ => .non
def flD:D->Bool
 |.non=>true
 |.bl _=>true
 |.int _=>true
 |.str _=>true
 |_=>false
def sqD:D->Option (List D)
 |.tup ds=>some ds
 |.lst ds=>some ds
 |_=>none
def inD (x y:D):OD:=match sqD y with
 |some ds=>if flD x&&ds.all flD then some (.bl (ds.any λd=>eqV (vD d) (vD x)))else none
 |none=>none
theorem qig {K:Fr0} {A:Addr->Prop} {H:Hp} {d:D} {v:V} (h:Is K A H d v) (f:flD d=true):v=vD d/\wp v=true:=by
 cases d<;>first|(cases h;exact⟨rfl,rfl⟩)|cases f
theorem qcu {K:Fr0} {A:Addr->Prop} {H:Hp}:∀{ds:List D}{vs:List V},IsL K A H ds vs->ds.all flD=true->vs=ds.map vD/\vs.all wp=true
 | [],_,h,_=>by cases h;exact⟨rfl,rfl⟩
 |d::ds,_,⟨x,ys,hx,h1,h2⟩,f=>by
  rw[yds,yad]at f
  obtain⟨e1,e2⟩:=qig h1 f.1
  obtain⟨e3,e4⟩:=qcu h2 f.2
  subst hx
  rw[mC_,<-e1,<-e3,yds,e2,e4]
  exact⟨rfl,rfl⟩
theorem qlY {K:Fr0} {A:Addr->Prop} {H:Hp} {x y:D} {ds:List D} {v u:V} (ix:Is K A H x v) (iy:Is K A H y u) (e:sqD y=some ds) (f:(flD x&&ds.all flD)=true) :
  ∃p xs,u=.ref p/\(SqL K H p xs\/SqT K H p xs)/\wp v=true/\xs.all wp=true/\inV v xs=ds.any λd=>eqV (vD d) (vD x):=by
 rw[yad]at f
 obtain⟨e1,e2⟩:=qig ix f.1
 cases y<;>simp only[sqD]at e<;>try (cases e;done)
 ·cases e
  obtain⟨a,zs,rfl,ta,il⟩:=iy
  obtain⟨e3,e4⟩:=qcu il f.2
  exact⟨a,zs,rfl,.inr ta.sq,e2,e4,by rw[e3,e1];unfold inV;rw[List.any_map];rfl⟩
 ·cases e
  obtain⟨a,zs,rfl,_,ta,il⟩:=iy
  obtain⟨e3,e4⟩:=qcu il f.2
  exact⟨a,zs,rfl,.inl (SqL.of ta),e2,e4,by rw[e3,e1];unfold inV;rw[List.any_map];rfl⟩
theorem qlZ {K:Fr0}:OpS K inD (rIn K false):=by
 intro A H x y d v u Q hn ix iy e k
 unfold inD at e
 split at e
 ·rename_i ds es
  obtain⟨e1,e2⟩:=zD e
  subst e2
  obtain⟨p,xs,h1,h2,h3,h4,h5⟩:=qlY ix iy es e1
  exact⟨p,xs,h1,h2,h3,h4,by rw[<-h5]at k;exact k _ H (zX.refl H) rfl⟩
 ·cases e
theorem qfz {l:M (List D)} {Z:Env}:qgY l Z=match l Z with|.ok (d,Z1)=>(match qgX d with|some ds => .ok (ds,Z1)|none => .bad)|.exc x Z' => .exc x Z'|.bad => .bad:=by
 simp only[qgY,bnd]
 cases l Z with
 |ok z=>obtain⟨z1,Z1⟩:=z;(dsimp only;cases qgX z1<;>rfl)
 |exc x Z'=>rfl
 |bad=>rfl
def qn2:List Int->Int
 | []=>0
 | [n]=>n
 |n::m::ns=>max n (qn2 (m::ns))
def ut (t:M Bool) (b:MS):Nat->MS
 |0,_ => .bad
 | n+1,Z=>match t Z with
  |.ok (true,Z1)=>match b Z1 with
   |.ok (.nx Z2)=>ut t b n Z2
   |.ok (.ct Z2)=>ut t b n Z2
   |.ok (.bk Z2) => .ok (.nx Z2)
   |.ok (.rt d Z2) => .ok (.rt d Z2)
   |.exc x Z2 => .exc x Z2
   |.bad => .bad
  |.ok (false,Z1) => .ok (.nx Z1)
  |.exc x Z1 => .exc x Z1
  |.bad => .bad
open Classical in
noncomputable def qbS(t:M Bool)(b:MS):MS:=λZ=>if h:∃n,ut t b n Z ≠ .bad then ut t b h.choose Z else .bad
theorem uJ {t:M Bool} {b:MS}:∀{n:Nat}{Z:Env}(k:Nat),ut t b n Z ≠ .bad->ut t b (n+k) Z=ut t b n Z
 |0,Z,k,h=>absurd rfl h
 | n + 1,Z,k,h=>by
  have e:n+1+k=(n+k)+1:=by omega
  rw[e]
  unfold ut at h |-
  cases et:t Z with
  | ok p=>
   obtain⟨v,Z1⟩:=p
   rw[et]at h
   cases v with
   |false=>rfl
   | true=>
    dsimp only at h |-
    cases eb:b Z1 with
    |ok fl=>
     rw[eb]at h
     cases fl with
     |nx Z2=>exact uJ k h
     |ct Z2=>exact uJ k h
     |bk Z2=>rfl
     |rt d Z2=>rfl
    |exc x Z2=>rfl
    |bad=>rfl
  |exc x Z1=>rfl
  |bad=>rfl
theorem qfA {t:M Bool} {b:MS} {n:Nat} {Z:Env} {r:R Fl} (h:ut t b n Z=r) (hb:r ≠ .bad):qbS t b Z=r:=by
 have hx:∃n,ut t b n Z ≠ .bad:=⟨n,by rw[h];exact hb⟩
 unfold qbS
 rw[dif_pos hx]
 have hc:=hx.choose_spec
 generalize hx.choose=m at hc
 rcases Nat.le_total m n with hl|hl
 ·obtain⟨k,rfl⟩:=ydV hl
  rw[<-uJ k hc];exact h
 ·obtain⟨k,rfl⟩:=ydV hl
  rw[uJ k (by rw[h];exact hb)];exact h
theorem qd6 {t:M Bool} {b:MS} {Z:Env}:∃n,qbS t b Z=ut t b n Z:=by
 unfold qbS
 split
 ·exact⟨_,rfl⟩
 ·exact⟨0,rfl⟩
section
variable{X:Cx}{c:Fc}{pos:Pos}
theorem qgZ {e:Expr} {body:List Stmt} {t:M Bool} {b:MS} (hp:ycP (model X.prog X.w) X.A X.env X.xe) (ht:DT X c e t) (hb:DSs X c body b):DS X c (.While e body [] pos) (qbS t b):=by
 obtain⟨tc,pc,wc⟩:=ht
 obtain⟨tb,pb,wb⟩:=hb
 refine⟨_,qgA hp pc pb,λZ σ H D' r h=>?_⟩
 obtain⟨n,en⟩:=qd6 (t:=t) (b:=b) (Z:=Z)
 rw[en]at h
 refine⟨λm σ' H'=>∃Z',Rep X.K c Z' σ' H'/\WpS X.K c σ' H' D' (ut t b m Z'),⟨n,Z,r,h⟩,?_⟩
 rintro m σ' H' ⟨Z',r',w⟩
 cases m with
 |zero=>exact w.elim
 | succ m=>
  unfold ut at w
  refine wc Z' σ' H' _ r' ?_
  cases et:t Z' with
  |bad=>rw[et]at w;exact w
  |exc x Z1=>rw[et]at w;exact λH1 r1 g1=>w σ' H1 r1 g1.s
  | ok p=>
   obtain⟨v,Z1⟩:=p
   rw[et]at w
   intro H1 r1 g1
   cases v with
   |false=>
    rw[if_neg yao]
    exact w σ' H1 r1 g1.s
   | true=>
    rw[if_pos rfl]
    dsimp only at w
    refine⟨λσ2 H2=>∃Z2,Rep X.K c Z2 σ2 H2/\WpS X.K c σ2 H2 D' (ut t b m Z2),λσ2 H2 q=>⟨m,Nat.lt_succ_self m,q⟩,wb Z1 σ' H1 _ r1 ?_⟩
    have w2:=w.gr g1.s
    cases e2:b Z1 with
    |ok fl=>
     cases fl with
     |nx Z3=>simp only[e2]at w2;exact λσ3 H3 r3 g3=>⟨Z3,r3,w2.gr g3⟩
     |ct Z3=>simp only[e2]at w2;exact λσ3 H3 r3 g3=>⟨Z3,r3,w2.gr g3⟩
     |bk Z3=>simp only[e2]at w2;exact w2
     |rt d Z3=>simp only[e2]at w2;exact w2
    |exc x Z3=>simp only[e2]at w2;exact w2
    |bad=>simp only[e2]at w2;exact w2
end
end L2.Sk
namespace L2.Sk
open PySem PySem.Spec PyProof.Rows
def qaa (h:Heap) (e T:Addr) (cls:Value) (dd:Option Addr):Prop :=
 ∃oe vs oT ts a0,h.get? e=some oe/\(oe.cls=cls/\vs[2]? = some .none/\vs[0]? = some a0/\oe.dict=dd)/\oe.data=.fields vs/\vs[1]? = some (.ref T)/\T≠e/\h.get? T=some oT/\oT.data=.fields ts/\ts[3]? = some .none
def CX1 (P:yai) (w:World):CXT:=λouter H s E u s'=>∃e T C dd H',u=.ref e/\s'.os=s.os/\ybO s'.gens/\Un (frs outer) [] H H' s.heap s'.heap/\HOk P w H' s'.heap /\
 s.heap.get? e=none/\s.heap.get? T=none/\H' e=none/\H' T=none/\qaa s'.heap e T (.ref C) dd/\E (.ref C) dd H'
structure Lft (h h':Heap) (ch fs:List Addr):Prop where
 keep:∀b o,b ∉ ch->b ∉ fs->h.get? b=some o->h'.get? b=some o
 slot:∀b o,b∈fs->h.get? b=some o->∃sl,h'.get? b=some {o with slots:=sl}
section
variable{M:Model}{A:yaj}{E:Value->yaa->Prop}{s:yaa}
theorem qbT (f:Array Value->Array Value) (o:Obj):(ybR f o).dict=o.dict:=by
 obtain⟨c,d,dt,sl⟩:=o
 cases dt<;>rfl
abbrev vM:Obj->Obj:=ybR (·.setIfInBounds 3 yaG)
theorem qfB {base:Heap} {l:List yax} {h:Heap} {b:Addr} {o:Obj} {vs:Array Value} (hl:h.FunFrames base l) (hb:h.get? b=some o) (hd:o.data=.fields vs):b ∉ frs l:=λz=>by
 obtain⟨_,o',ho',hn⟩:=hl.mem z
 rw[hb]at ho'
 cases ho'
 exact hn vs hd
theorem qa0 {e T:Addr} {oe oT:Obj} {vs ts:Array Value} {Q:Unit->yaa->Prop} (he:s.heap.get? e=some oe) (hd:oe.data=.fields vs) (h1:vs[1]? = some (.ref T)) (hT:s.heap.get? T=some oT) (hdT:oT.data=.fields ts) (h3:3<ts.size)
  (k:Q () {s with heap:=s.heap.update T vM}):wpAny M A (ybJ (.ref e) none) Q E s:=by
 unfold ybJ
 refine yab (yaL he hd h1 ?_)
 have t:(yam T != yaG)=true:=by simp
 rw[if_pos t]
 exact yb8 hT hdT h3 k
theorem uK {h:Heap} {T:Addr} {oT:Obj} {ts:Array Value} (hT:h.get? T=some oT) (hdT:oT.data=.fields ts) (h3:3<ts.size):∃o2 t2,(h.update T vM).get? T=some o2/\o2.data=.fields t2/\t2[3]? = some .none :=
 ⟨_,_,Heap.get?_update_self _ hT (yb9 (ya1 hdT _)),ya1 hdT _,by simp[h3]⟩
theorem zb{h:Heap}{T b:Addr}(n:b≠T):(h.update T vM).get? b=h.get? b:=Heap.get?_update_other _ _ (yaU n)
theorem qdl {base:Heap} {env:yax} {outer:List yax} {L e:Addr} {oe:Obj} {vs:Array Value} {head:Value} {had:Bool} {Q:Unit->yaa->Prop} (hfr:A.frames=some (env::outer)) (hl:s.heap.FunFrames base (env::outer)) (hf:env.frame=some L)
  (he:s.heap.get? e=some oe) (hd:oe.data=.fields vs) (h1:1<vs.size)
  (k:∀h' T,s.heap.get? T=none->T≠e->(∀b o,b≠e->b ∉ frs (env::outer)->s.heap.get? b=some o->h'.get? b=some o)->(∀b o,b∈frs (env::outer)->s.heap.get? b=some o->∃sl,h'.get? b=some {o with slots:=sl}) ->
   h'.get? e=some (ybR (·.setIfInBounds 1 (yam T)) oe)->(∃oT ts,h'.get? T=some oT/\oT.data=.fields ts/\3<ts.size)->h'.FunFrames base (env::outer)->Q () {s with heap:=h' }) :
  wpAny M A (do let a <-frameOf env;let pl <-entryPlaceOf L had;let b <-yc5 head a .none (ya7 L) .none pl;setField (.ref e) 1 b) Q E s:=by
 have hene:=qfB hl he hd
 refine yab (wpAny_frameOf_fun hfr hl hf λh₁ hs1=>yab (wpAny_entryPlaceOf λpl hpl=>?_))
 unfold yc5 newFields
 have heK:h₁.get? e=some oe:=(hs1.2.1 e hene).trans he
 refine yab (yaX ?_ (hpl.sizeOk5 _ _ _ _ _))
 generalize hob:({cls:=ycz "traceback",dict:=none,data:=yd5 ([head,yam L,yaG,ya7 L,yaG]++(if pl.isEmpty then yan 6 yaG else pl)).toArray}:Obj)=ob
 have nT:h₁.objs.size≠e:=ybx (yag heK)
 have hnT:s.heap.get? h₁.objs.size=none:=by
  cases q:s.heap.get? h₁.objs.size with
  |none=>rfl
  |some o=>
   obtain⟨sl,q'⟩:=hs1.2.2 _ o q
   exact absurd (yag q') (ybC _)
 refine yb8 (Heap.get?_push_of_some _ heK) hd h1 ?_
 have keep:∀b o,b≠e->h₁.get? b=some o->((h₁.push ob).update e (ybR (·.setIfInBounds 1 (yam h₁.objs.size)))).get? b=some o:=λb o hb q=>(Heap.get?_update_other _ _ (yaU hb)).trans (Heap.get?_push_of_some _ q)
 refine k _ h₁.objs.size hnT nT (λb o hb hf q=>keep b o hb ((hs1.2.1 b hf).trans q)) (λb o hb q=>?_) (Heap.get?_update_self _ (Heap.get?_push_of_some _ heK) (yb9 (ya1 hd _))) ⟨ob,([head,yam L,yaG,ya7 L,yaG]++(if pl.isEmpty then yan 6 yaG else pl)).toArray,?_,by rw[<-hob],by simp⟩ (hl.of_keeps λb o q hn=>?_)
 ·obtain⟨sl,q'⟩:=hs1.2.2 b o q
  exact⟨sl,keep b _ (λz=>hene (z▸hb)) q'⟩
 ·exact(Heap.get?_update_other _ _ (yaU nT)).trans (Heap.get?_push_size _ (by rw[<-hob];rfl))
 ·obtain⟨sl,q'⟩:=hs1.2.2 b o q
  exact⟨_,keep b _ (λz=>by subst z;rw[he]at q;cases q;exact hn vs hd) q',rfl⟩
theorem qa1 {base:Heap} {env:yax} {outer:List yax} {L e:Addr} {oe:Obj} {vs:Array Value} {a0 head:Value} {had:Bool} {Q:Unit->yaa->Prop} (hfr:A.frames=some (env::outer)) (hl:s.heap.FunFrames base (env::outer)) (hf:env.frame=some L)
  (he:s.heap.get? e=some oe) (hd:oe.data=.fields vs) (h1:1<vs.size) (h2:vs[2]? = some .none) (h0:vs[0]? = some a0)
  (k:∀h' T',Lft s.heap h' [e] (frs (env::outer))->qaa h' e T' oe.cls oe.dict->s.heap.get? T'=none->Q () {s with heap:=h' }) :
  wpAny M A (do let a <-frameOf env;let pl <-entryPlaceOf L had;let b <-yc5 head a .none (ya7 L) .none pl;setField (.ref e) 1 b) (λ_ s'=>wpAny M A (ybJ (.ref e) none) Q E s') E s:=by
 refine qdl hfr hl hf he hd h1 λh' T nT ne kp sl ee eT _=>?_
 obtain⟨oT,ts,gT,dT,sT⟩:=eT
 have dd:=ya1 hd (·.setIfInBounds 1 (yam T))
 refine qa0 (s:={s with heap:=h' }) ee dd (by simp[h1]) gT dT sT ?_
 obtain⟨o2,t2,q1,q2,q3⟩:=uK gT dT sT
 have nf:∀b o,s.heap.get? b=some o->b≠T:=λb o q z=>by rw[z,nT]at q;cases q
 refine k _ T ⟨λb o hb hf q=>(zb (nf b o q)).trans (kp b o (by simpa using hb) hf q),λb o hb q=>?_⟩ ⟨_,_,o2,t2,a0,(zb (yaU ne)).trans ee,⟨ydz _ _,?_,?_,qbT _ _⟩,dd,by simp[h1],ne,q1,q2,q3⟩ nT
 ·obtain⟨sl,q'⟩:=sl b o hb q
  exact⟨sl,(zb (nf b o q)).trans q'⟩
 ·rw[Array.getElem?_setIfInBounds_ne (by decide)];exact h2
 ·rw[Array.getElem?_setIfInBounds_ne (by decide)];exact h0
theorem qab {base:Heap} {env:yax} {outer:List yax} {L e T:Addr} {cls:Value} {Q:Unit->yaa->Prop} (hfr:A.frames=some (env::outer)) (hl:s.heap.FunFrames base (env::outer)) (hf:env.frame=some L) {dd:Option Addr} (F:qaa s.heap e T cls dd)
  (k:∀h' T',Lft s.heap h' [e,T] (frs (env::outer))->qaa h' e T' cls dd->(T'=T\/s.heap.get? T'=none)->Q () {s with heap:=h' }) :
  wpAny M A (yby (.ref e) env) (λ_ sV=>wpAny M A (ybJ (.ref e) none) Q E sV) E s:=by
 obtain⟨oe,vs,oT,ts,a0,he,⟨hc,h2,h0,hdd⟩,hd,h1,hne,hT,hdT,h3⟩:=F
 subst hc
 subst hdd
 have z3:3<ts.size:=(Array.getElem?_eq_some_iff.mp h3).1
 have z1:1<vs.size:=(Array.getElem?_eq_some_iff.mp h1).1
 have tT:(yam T != yaG)=true:=by simp
 have tL:¬((yaG==ya7 L)=true):=by simp[ya7]
 have nf:=qfB hl hT hdT
 unfold yby
 simp only[hf]
 refine yab (yaL he hd h1 ?_)
 rw[if_pos tT]
 refine yab (yaL hT hdT h3 ?_)
 rw[if_neg tL]
 refine yab (yb8 hT hdT z3 ?_)
 have hl1:(s.heap.update T vM).FunFrames base (env::outer):=hl.of_keeps λb o q hn=>⟨o,(zb λz=>by subst z;rw[hT]at q;cases q;exact hn ts hdT).trans q,rfl⟩
 refine qa1 (s:={s with heap:=s.heap.update T vM}) hfr hl1 hf ((zb (yaU hne)).trans he) hd z1 h2 h0 λh' T' x y z=>?_
 refine k h' T' ⟨λb o hb hf q=>?_,λb o hb q=>?_⟩ y (.inr ?_)
 ·simp only[yar,nN_,or_false,not_or]at hb
  exact x.keep b o (by simpa using hb.1) hf ((zb hb.2).trans q)
 ·exact x.slot b o hb ((zb λ(z:b=T)=>nf (z▸hb)).trans q)
 ·by_cases e2:T'=T
  ·subst e2
   obtain⟨_,_,q,_⟩:=uK hT hdT z3
   have z':(s.heap.update T' vM).get? T'=none:=z
   rw[q]at z';cases z'
  ·exact(zb e2).symm.trans z
theorem qd7 {base:Heap} {env:yax} {outer:List yax} {L e T:Addr} {cls:Value} {Q:Unit->yaa->Prop} (hfr:A.frames=some (env::outer)) (hl:s.heap.FunFrames base (env::outer)) (hf:env.frame=some L) {dd:Option Addr} (F:qaa s.heap e T cls dd)
  (k:∀h' T',Lft s.heap h' [e,T] (frs (env::outer))->qaa h' e T' cls dd->(T'=T\/s.heap.get? T'=none)->Q () {s with heap:=h' }):wpAny M A (ybK env (.ref e)) Q E s:=by
 unfold ybK
 exact yab (qab hfr hl hf F k)
theorem qd8 {base h:Heap} {env:yax} {outer:List yax} {L e:Addr} {cls:Value} {args:List Value} {Q:Unit->yaa->Prop} (hfr:A.frames=some (env::outer)) (hl:h.FunFrames base (env::outer)) (hf:env.frame=some L) (hx:yca h s.heap e cls args)
  (k:∀h' T',Lft s.heap h' [e] (frs (env::outer))->qaa h' e T' cls none->s.heap.get? T'=none->Q () {s with heap:=h' }):wpAny M A (ybK env (.ref e)) Q E s:=by
 obtain⟨t,he,htn,ht⟩:=hx.there
 have hl1:s.heap.FunFrames base (env::outer):=hl.of_keeps λb o q _=>⟨o,hx.keeps b o q,rfl⟩
 unfold ybK yby
 simp only[hf]
 refine yab (yab (yaL he rfl (x:=.none) rfl ?_))
 rw[if_neg (by decide)]
 exact qa1 hfr hl1 hf he rfl (of_decide_eq_true rfl) rfl rfl k
theorem qfC {base:Heap} {env:yax} {outer:List yax} {L e:Addr} {oe:Obj} {vs:Array Value} {a0:Value} {Q:Unit->yaa->Prop} (hfr:A.frames=some (env::outer)) (hl:s.heap.FunFrames base (env::outer)) (hf:env.frame=some L)
  (he:s.heap.get? e=some oe) (hd:oe.data=.fields vs) (h1:vs[1]? = some .none) (h2:vs[2]? = some .none) (h0:vs[0]? = some a0)
  (k:∀h' T',Lft s.heap h' [e] (frs (env::outer))->qaa h' e T' oe.cls oe.dict->s.heap.get? T'=none->Q () {s with heap:=h' }):wpAny M A (ybK env (.ref e)) Q E s:=by
 unfold ybK yby
 simp only[hf]
 refine yab (yab (yaL he hd h1 ?_))
 rw[if_neg (by decide)]
 exact qa1 hfr hl hf he hd (Array.getElem?_eq_some_iff.mp h1).1 h2 h0 k
theorem qaD {base:Heap} {l:List yax} {e T:Addr} {cls:Value} {Q:Unit->yaa->Prop} (hl:s.heap.FunFrames base l) {dd:Option Addr} (F:qaa s.heap e T cls dd)
  (k:∀h' T',Lft s.heap h' [e,T] (frs l)->qaa h' e T' cls dd->(T'=T\/s.heap.get? T'=none)->Q () {s with heap:=h' }) :
  wpAny M A (ybJ (.ref e) none) Q E s:=by
 obtain⟨oe,vs,oT,ts,a0,he,hc,hd,h1,hne,hT,hdT,h3⟩:=F
 have z3:3<ts.size:=(Array.getElem?_eq_some_iff.mp h3).1
 have nf:=qfB hl hT hdT
 refine qa0 he hd h1 hT hdT z3 ?_
 obtain⟨o2,t2,q1,q2,q3⟩:=uK hT hdT z3
 refine k _ T ⟨λb o hb _ q=>?_,λb o hb q=>⟨o.slots,(zb λ(z:b=T)=>nf (z▸hb)).trans q⟩⟩ ⟨oe,vs,o2,t2,a0,(zb (yaU hne)).trans he,hc,hd,h1,hne,q1,q2,q3⟩ (.inl rfl)
 simp only[yar,nN_,or_false,not_or]at hb
 exact(zb hb.2).trans q
end
theorem qih {P:yai} {w:World} {H:Hp} {h h':Heap} (x:HOk P w H h) (k:∀b o,(H b).isSome=true->h.get? b=some o->h'.get? b=some o):HOk P w H h':=λa o e=>
 (x a o e).stay (λb u hb q=>k b u (by
   rcases hb with rfl|hb;· rw[e];rfl
   ·rw[hb];rfl) q) (λ_ z=>z) λ_ _ z=>z
theorem zv {P:yai} {w:World} {H:Hp} {h:Heap} {a:Addr} {o:HO} (x:jf P w H h a o):∃u,h.get? a=some u:=by
 cases o with
 |lst xs=>obtain⟨_,_,_,_,e⟩:=x;exact⟨_,e⟩
 |tup xs=>obtain⟨_,_,_,ob,e,_⟩:=x;exact⟨_,e⟩
 |dK kvs=>obtain⟨_,_,_,_,o,_,_,e,_⟩:=x;exact⟨_,e⟩
 |dT kvs=>obtain⟨_,_,_,_,o,_,_,e,_⟩:=x;exact⟨_,e⟩
 |set S n=>obtain⟨o,_,_,_,e,_⟩:=x;exact⟨_,e⟩
 |ins C dx fs=>obtain⟨_,_,_,e,_⟩:=x;exact⟨_,e⟩
 |own y=>obtain⟨_,e⟩:=x;exact⟨_,e⟩
 |xd fs=>obtain⟨_,⟨_,_,_,e,_⟩,_⟩:=x;exact⟨_,e⟩
 |rng lo hi=>obtain⟨_,_,_,e⟩:=x;exact⟨_,e⟩
 |frz ob u=>obtain⟨e,_⟩:=x;exact⟨_,e⟩
 |tbl ps=>exact⟨_,(show h.get? a=some _ from x)⟩
 |met f y=>exact⟨_,(show h.get? a=some _ from x)⟩
 |ext φ=>obtain⟨_,e,_⟩:=x;exact e
 |dsk C dx l xs=>obtain⟨_,_,_,_,_,e,_⟩:=x;exact⟨_,e⟩
 |lam pos q=>rcases x with e|⟨_,_,_,_,_,_,_,e⟩<;>exact⟨_,e⟩
section
variable{X:Cx}{pins:List (Addr×Obj)}{σ:St}{H:Hp}{s:yaa}
theorem wB {H':Hp} {s':yaa} {h':Heap} {ch:List Addr} (I:Inv X pins σ H s) (hs:X.stack=X.env::X.outer) (hf:X.env.frame=some X.env.locals) (hex:X.ex=[])
  (u:Un (frs X.stack) [] H H' s.heap s'.heap) (hok:HOk X.prog X.w H' s'.heap) (hch:∀b∈ch,H' b=none) (hchn:∀b∈ch,s.heap.get? b=none) (x:Lft s'.heap h' ch (frs X.stack)) :
  Un (frs X.outer) [] X.H₀ H' X.s₀.heap h'/\HOk X.prog X.w H' h':=by
 have hfs:frs X.stack=X.env.locals::frs X.outer:=by rw[hs];unfold frs;rw[ybb,hf]
 have hb:=I.base
 rw[hex]at hb
 have nL:∀b o,X.s₀.heap.get? b=some o->b≠X.env.locals:=λb o q z=>absurd (yat (yag q) (z▸I.ok.above)) (ybC _)
 have nch:∀b o,X.s₀.heap.get? b=some o->b ∉ ch:=λb o q z=>by
  obtain⟨o',q'⟩:=hb.there b o q (by simp)
  rw[hchn b z]at q';cases q'
 have nfs:∀b o,X.s₀.heap.get? b=some o->b ∉ frs X.outer->b ∉ frs X.stack:=λb o q z y=>by
  rw[hfs]at y
  exact(List.mem_cons.mp y).elim (nL b o q) z
 have yfs:∀b,b∈frs X.outer->b∈frs X.stack:=λb z=>by rw[hfs];exact mM _ z
 refine⟨⟨λb o q n hb1 _=>?_,λb o q n hb1 _=>?_,λb o q n _=>?_,λb o q _=>?_,λb xs q=>u.tups b xs (hb.tups b xs q),λb o v q=>u.frzs b o v (hb.frzs b o v q),λb ps y q=>u.tbls b ps y (hb.tbls b ps y q)⟩,?_⟩
 ·exact x.keep b o (nch b o q) (nfs b o q hb1) (u.keep b o (hb.keep b o q n hb1 (by simp)) (hb.free b o q n (by simp)) (nfs b o q hb1) (by simp))
 ·obtain⟨sl,q1⟩:=hb.slot b o q n hb1 (by simp)
  obtain⟨sl2,q2⟩:=u.slot b _ q1 (hb.free b o q n (by simp)) (yfs b hb1) (by simp)
  obtain⟨sl3,q3⟩:=x.slot b _ (yfs b hb1) q2
  exact⟨sl3,q3⟩
 ·obtain⟨o',q'⟩:=hb.there b o q (by simp)
  exact u.free b o' q' (hb.free b o q n (by simp)) (by simp)
 ·obtain ⟨o1,q1⟩:=hb.there b o q (by simp)
  obtain⟨o2,q2⟩:=u.there b o1 q1 (by simp)
  by_cases hb1:b∈frs X.stack
  ·obtain⟨sl,q3⟩:=x.slot b o2 hb1 q2
   exact⟨_,q3⟩
  ·exact⟨o2,x.keep b o2 (nch b o q) hb1 q2⟩
 ·refine qih hok λb o hb1 q=>x.keep b o (λz=>?_) (λz=>?_) q
  ·rw[hch b z]at hb1;cases hb1
  ·obtain⟨_,o1,ho1,_⟩:=I.stack.mem z
   rw[u.free b o1 ho1 (I.stkFree b z) (by simp)]at hb1
   cases hb1
theorem qcv {H':Hp} {h':Heap} (I:Inv X pins σ H s) (un:Un (frs X.stack) [] H H' s.heap h'):h'.FunFrames X.base X.stack:=by
 have h0:=I.stack
 have all:∀(l:List yax),(∀b∈frs l,b∈frs X.stack)->s.heap.FunFrames X.base l->h'.FunFrames X.base l:=by
  intro l
  induction l with
  |nil=>intro _ _;trivial
  |cons env r ih=>
   intro hss hl
   obtain⟨hk,⟨L,o,hf',hn,ho,hd⟩,hr⟩:=hl
   have hfr:frs (env::r)=L::frs r:=by unfold frs;rw[ybb,hf']
   rw[hfr]at hss
   have hL:=hss L mS_
   obtain⟨sl,e⟩:=un.slot L o ho (I.stkFree L hL) hL (by simp)
   exact⟨hk,⟨L,_,hf',hn,e,hd⟩,ih (λb hb=>hss b (mM _ hb)) hr⟩
 exact all X.stack (λ_ z=>z) h0
theorem qjE {s':yaa} {E:XK} {u:Value} {A:yaj} (I:Inv X pins σ H s) (hs:X.stack=X.env::X.outer) (hf:X.env.frame=some X.env.locals) (hex:X.ex=[]) (hA:A.frames=some X.stack) (x:CX1 X.prog X.w X.stack H s E u s') {E':Value->yaa->Prop} :
  wpAny (model X.prog X.w) A (ybK X.env u) (λ_ s''=>CX1 X.prog X.w X.outer X.H₀ X.s₀ E u s'') E' s':=by
 obtain⟨e,T,C,dd,H',rfl,os,bare,un,hok,he,hT,hHe,hHT,F,q⟩:=x
 have hl:s'.heap.FunFrames X.base X.stack:=by
  have h0:=I.stack
  have all:∀(l:List yax),(∀b∈frs l,b∈frs X.stack)->s.heap.FunFrames X.base l->s'.heap.FunFrames X.base l:=by
   intro l
   induction l with
   |nil=>intro _ _;trivial
   |cons env r ih=>
    intro hss hl
    obtain⟨hk,⟨L,o,hf',hn,ho,hd⟩,hr⟩:=hl
    have hfr:frs (env::r)=L::frs r:=by unfold frs;rw[ybb,hf']
    rw[hfr]at hss
    have hL:=hss L mS_
    obtain⟨sl,e⟩:=un.slot L o ho (I.stkFree L hL) hL (by simp)
    exact⟨hk,⟨L,_,hf',hn,e,hd⟩,ih (λb hb=>hss b (mM _ hb)) hr⟩
  exact all X.stack (λ_ z=>z) h0
 rw[hs]at hl hA
 refine qd7 hA hl hf F λh' T' y1 y2 y3=>?_
 rw[<-hs]at y1
 have hz:∀b∈[e,T],H' b=none:=λb hb=>by
  simp only[yar,nN_,or_false]at hb
  rcases hb with rfl|rfl
  ·exact hHe
  ·exact hHT
 have hzn:∀b∈[e,T],s.heap.get? b=none:=λb hb=>by
  simp only[yar,nN_,or_false]at hb
  rcases hb with rfl|rfl
  ·exact he
  ·exact hT
 obtain⟨z1,z2⟩:=wB I hs hf hex un hok hz hzn y1
 have up:∀b,s.heap.get? b=none->X.s₀.heap.get? b=none:=λb hb=>by
  cases q:X.s₀.heap.get? b with
  |none=>rfl
  |some o=>
   obtain⟨o',q'⟩:=I.base.there b o q (by rw[hex];simp)
   rw[hb]at q';cases q'
 have up':∀b,s'.heap.get? b=none->s.heap.get? b=none:=λb hb=>by
  cases q:s.heap.get? b with
  |none=>rfl
  |some o=>
   obtain⟨o',q'⟩:=un.there b o q (by simp)
   rw[hb]at q';cases q'
 have hT2:s.heap.get? T'=none:=y3.elim (λz=>z▸hT) (up' T')
 have hHT2:H' T'=none:=y3.elim (λz=>z▸hHT) λz=>by
  cases q:H' T' with
  |none=>rfl
  |some o=>
   obtain⟨o',q'⟩:=zv (hok _ _ q)
   rw[z]at q';cases q'
 exact⟨e,T',C,dd,H',rfl,os.trans I.os,bare,z1,z2,up e he,up T' hT2,hHe,hHT2,y2,q⟩
end
structure XC (base:Heap) (C:Addr) (bm:List Value):Prop where
 hasBase:bm.contains (.type "BaseException")=true
 ex:∃nm q N bs hdct sn sub ab col dd k0 k1 k2 k3 k5 newId initId B bmB mN,base.get? C=some (ybu nm q C N bs bm hdct sn sub ab col dd k0 k1 k2 k3 k5 newId)/\base.Ns N mN/\mN "__init__"=none/\yfg base bmB bm/\ydP B newId initId bmB
structure XC0 (base:Heap) (C:Addr) (bm:List Value):Prop where
 hasBase:bm.contains (.type "BaseException")=true
 ex:∃nm q N bs hdct sn sub ab col dd k0 k1 k2 k3 k5 newId,base.get? C=some (ybu nm q C N bs bm hdct sn sub ab col dd k0 k1 k2 k3 k5 newId)
def qbU (n p:Nat) (body:MS) (ds:List D):R D:=if ds.length=p then match body (j9 n ds) with
 |.ok (.rt d _) => .ok d
 |.ok (.nx _) => .ok .non
 |.exc x Z => .exc x Z
 |_ => .bad else .bad
section
variable{X:Cx}{c:Fc}{e:Expr}{es:List Expr}{pos cpos np:Pos}
theorem qg0 {x:Str} {C:Addr} {bm:List Value} {t:TA} {E:XK} (hc:X.calm=true) (hg:Gl X x) (hm:X.mg x=some (.ref C)) (xc:XC X.base C bm) (ha:PA X (e::es) t)
  (made:∀pins σ H s h' a us,Inv X pins σ H s->yca s.heap h' a (.ref C) us->E (.ref C) none H->X.xe (.ref a) {s with heap:=h' })
  (hd:(x==("__debug__":Str))=false:=by decide) (he:yac (e::es) X.env=(false,eval e X.env)::yac es X.env:=by rfl) (hpl:(yaz cpos (yac es X.env)).any (·.1)=false:=by rfl) :
  PS X (.Raise (some (.Call (.Name x np) (e::es) [] cpos)) none pos) (λ_ σ H=>t σ H λvs H1=>vs.length<=yap/\E (.ref C) none H1):=by
 intro pins s σ H D I h
 obtain⟨nm,q,N,bs,hdct,sn,sub,ab,col,dd,k0,k1,k2,k3,k5,newId,initId,B,bmB,mN,hC,hN,hni,T,FB⟩:=xc.ex
 refine wpAny_Raise_call_subT (C:=C) (nm:=nm) (q:=q) (N:=N) (bs:=bs) (bm:=bm) (hdct:=hdct) (sn:=sn) (sub:=sub) (ab:=ab) (col:=col) (dd:=dd) (k0:=k0) (k1:=k1) (k2:=k2) (k3:=k3) (k5:=k5)
  FB (mN:=mN) xc.hasBase (I.ok.hd hc) (by rw[he];show(false||(yaz cpos (yac es X.env)).any (·.1))=false;rw[hpl];rfl) hni ?_
 have hn:PE X (.Name x np) (λ_ H Q=>Q (.ref C) H):=wH hg hm rfl hd
 refine thn (hn pins s σ H (λv H1=>v=.ref C/\H1=H) I ⟨rfl,rfl⟩) λf s1 h1=>?_
 obtain⟨v,H1,I1,rv,rfl,rfl⟩:=h1
 refine⟨rv,?_⟩
 have h2:=ha cpos pins s1 σ _ _ I1 h
 rw[he]at h2 |-
 refine ybH (thn h2 λvs s2 h3=>?_)
 obtain⟨ws,H2,I2,r2,hl,hE⟩:=h3
 refine⟨rfl,by rw[<-r2.length];exact hl,I2.bk _ _ hC,hN.keeps I2.bk,T.keeps I2.bk,λh' a hx=>made pins σ H2 s2 h' a vs I2 hx hE⟩
def XV (d:D) (dd:Option Addr) (H:Hp):Prop:=match d with
 |.non=>dd=none
 |.int n=>∃dx od,dd=some dx/\H dx=some (.frz od (.xd [("at",.int n)]))
 |_=>False
def qno(h:Heap)(a C:Addr)(dd:Option Addr):Prop:=∃oe vs a0,h.get? a=some oe/\oe.cls=.ref C/\oe.data=.fields vs/\vs[0]? = some a0/\vs[1]? = some .none/\vs[2]? = some .none/\oe.dict=dd
structure XL (X:Cx) (c:Fc) (cl:Str->Option Addr) (E:XK):Prop where
 made:∀C pins σ H s h' a us,Inv X pins σ H s->yca s.heap h' a (.ref C) us->E (.ref C) none H->X.xe (.ref a) {s with heap:=h' }
 madeV:∀C dd pins σ H s H2 s2 a,Inv X pins σ H s->s2.os=s.os->ybO s2.gens->Un (frs X.stack) [] H H2 s.heap s2.heap->HOk X.prog X.w H2 s2.heap->s.heap.get? a=none->H2 a=none->qno s2.heap a C dd->E (.ref C) dd H2->X.xe (.ref a) s2
 pass:wL (CX1 X.prog X.w) X E
 wish:∀x C dd H',cl x.cls=some C->c.E x H'->XV x.val dd H'->E (.ref C) dd H'
structure XL2 (X:Cx) (c:Fc) (cl:Str->Option Addr) (E:XK):Prop where
 pass:wL (CX1 X.prog X.w) X E
 wish:∀x C dd H',cl x.cls=some C->c.E x H'->XV x.val dd H'->E (.ref C) dd H'
theorem XL.two{X:Cx}{c:Fc}{cl:Str->Option Addr}{E:XK}(L:XL X c cl E):XL2 X c cl E:=⟨L.pass,L.wish⟩
def qdm (x:Str) (f:M (List D)):MS:=λZ=>match f Z with
 |.ok (ds,Z')=>if qT ds.length then .exc ⟨x,.non⟩ Z' else .bad
 |.exc z Z' => .exc z Z'
 |.bad => .bad
theorem qg1 {x:Str} {C:Addr} {bm:List Value} {f:M (List D)} {E:XK} {cl:Str->Option Addr} (hc:X.calm=true) (L:XL X c cl E) (hcl:cl x=some C) (hg:Gl X x) (hm:X.mg x=some (.ref C)) (xc:XC X.base C bm) (ha:DA X c (e::es) f)
  (hd:(x==("__debug__":Str))=false:=by decide) (he:yac (e::es) X.env=(false,eval e X.env)::yac es X.env:=by rfl) (hpl:(yaz cpos (yac es X.env)).any (·.1)=false:=by rfl) :
  DS X c (.Raise (some (.Call (.Name x np) (e::es) [] cpos)) none pos) (qdm x f):=by
 obtain⟨t,pa,w⟩:=ha
 refine⟨_,qg0 (E:=E) hc hg hm xc pa (L.made C) hd he hpl,λZ σ H D r h=>w Z σ H _ r ?_⟩
 unfold qdm at h
 cases ef:f Z with
 |bad=>rw[ef]at h;exact h
 |exc z Z'=>rw[ef]at h;exact λH' r' g'=>h σ H' r' g'.s
 | ok p=>
  obtain⟨ds,Z'⟩:=p
  rw[ef]at h
  intro vs H' r' i' g'
  by_cases hs:qT ds.length=true
  ·simp only[hs,if_true]at h
   exact⟨by rw[i'.length];exact of_decide_eq_true hs,L.wish ⟨x,.non⟩ C none H' hcl (h σ H' r' g'.s) rfl⟩
  ·simp only[hs]at h
   exact h.elim
def spX (K:Fr0) (cl:Str->Option Addr) (F:List D->R D):Sp:=λvs H Q E=>∃ds A,IsL K A H ds vs/\qaQ K H/\match F ds with
 |.ok d=>∀v H',zX H H'->Is K (λa=>A a\/H a=none) H' d v->Q v H'
 |.exc x _=>∃C,cl x.cls=some C/\∀dd H',zX H H'->XV x.val dd H'->E (.ref C) dd H'
 |.bad=>False
def ud (RN:List Str) (F:List D->R D) (g:M (List D)):M D:=bnd g λds Z=>match F ds with
 |.ok d => .ok (d,Z)
 |.exc x _=>if RN.contains x.cls then .exc x Z else .bad
 |.bad => .bad
theorem qg2 {k:Nat} {f:Addr} {fd:yaD} {ps:List Str} {F:List D->R D} {x:Str} {p:Pos} {g:M (List D)} {E:XK} {cl:Str->Option Addr} (L:XL2 X c cl E) {RN:List Str} (hcl:∀n,RN.contains n=true->(cl n).isSome=true)
  (G:uY X.prog X.w X.K X.mg X.base (CX1 X.prog X.w) k f fd ps (spX X.K cl F)) (hr:yv k X.A) (hg:Gl X x) (hm:X.mg x=some (.ref f)) (hk:yal X.K (.ref f)=true) (hb:yT X.K fd ps [])
  (ha:DA X c (e::es) g) (hd:(x==("__debug__":Str))=false:=by decide) (he:yac (e::es) X.env=(false,eval e X.env)::yac es X.env:=by rfl) (hpl:(yaz pos (yac es X.env)).any (·.1)=false:=by rfl):DE X c (.Call (.Name x p) (e::es) [] pos) (ud RN F g):=by
 obtain⟨t,pa,w⟩:=ha
 refine⟨_,wM G hr hg hm hk hb .nil L.pass pa hd he hpl,λZ σ H Q r h=>w Z σ H _ r (WpL.bnd h λds Z1 vs H1 r1 i1 g1 h1=>?_)⟩
 rw[ya4]
 refine⟨ds,Cn c σ,i1,r1.tb,?_⟩
 cases ef:F ds with
 |bad=>simp only[ef]at h1;exact h1.elim
 |exc z Z'=>
  simp only[ef]at h1
  by_cases hz:RN.contains z.cls=true
  case neg=>rw[if_neg hz]at h1;exact h1.elim
  rw[if_pos hz]at h1
  obtain⟨C,hC⟩:=Option.isSome_iff_exists.mp (hcl z.cls hz)
  exact⟨C,hC,λdd H' sm xv=>L.wish z C dd H' hC (h1 H' (r1.same sm) (.of_same sm)) xv⟩
 |ok d=>
  simp only[ef]at h1
  exact λv H' sm i=>h1 v H' (r1.same sm) (Is.ext Ext.refl (λa ha _=>ha.elim id r1.new) i) (.of_same sm)
def ue (F:List D->R D) (g:M (List D)):M D:=bnd g λds Z=>match F ds with
 |.ok d => .ok (d,Z)
 |_ => .bad
theorem qg3 {k:Nat} {f:Addr} {fd:yaD} {ps:List Str} {F:List D->R D} {x:Str} {p:Pos} {g:M (List D)} {cl:Str->Option Addr}
  (G:uY X.prog X.w X.K X.mg X.base (CX1 X.prog X.w) k f fd ps (spX X.K cl F)) (hr:yv k X.A) (hg:Gl X x) (hm:X.mg x=some (.ref f)) (hk:yal X.K (.ref f)=true) (hb:yT X.K fd ps [])
  (ha:DA X c (e::es) g) (hd:(x==("__debug__":Str))=false:=by decide) (he:yac (e::es) X.env=(false,eval e X.env)::yac es X.env:=by rfl) (hpl:(yaz pos (yac es X.env)).any (·.1)=false:=by rfl):DE X c (.Call (.Name x p) (e::es) [] pos) (ue F g):=by
 obtain⟨t,pa,w⟩:=ha
 refine⟨_,wM (E:=λ_ _ _=>False) G hr hg hm hk hb .nil (λ_ _ _ _ _ _ _ ⟨_,_,_,_,_,_,_,_,_,_,_,_,_,_,_,z⟩=>z.elim) pa hd he hpl,λZ σ H Q r h=>w Z σ H _ r (WpL.bnd h λds Z1 vs H1 r1 i1 g1 h1=>?_)⟩
 rw[ya4]
 refine⟨ds,Cn c σ,i1,r1.tb,?_⟩
 cases ef:F ds with
 |bad=>simp only[ef]at h1;exact h1.elim
 |exc z Z'=>simp only[ef]at h1;exact h1.elim
 |ok d=>
  simp only[ef]at h1
  exact λv H' sm i=>h1 v H' (r1.same sm) (Is.ext Ext.refl (λa ha _=>ha.elim id r1.new) i) (.of_same sm)
end
section
variable{P:yai}{w:World}{K:yae}{mg:Str->Option Value}{base:Heap}
theorem qfD {N:List Str} {qual:Str} {scope:Scope} {f:Addr} {cdv:Value} {A:yaj} {outer:List yax} {s:yaa} {H:Hp} {E:XK} {c:Fc} {cl:Str->Option Addr} (hf:(yaW qual scope s.heap.objs.size f cdv).frame=some s.heap.objs.size)
  (hw:∀x C dd H',cl x.cls=some C->c.E x H'->XV x.val dd H'->E (.ref C) dd H'):XL (qch (CX1 P w) P w K mg base N qual scope f cdv A outer s H E) c cl E where
 made:=λC pins σ H1 s1 h' a us I hx hE=>by
  show wpAny (model P w) _ (ybK _ (.ref a)) _ _ _
  refine qd8 (s:={s1 with heap:=h' }) (h:=s1.heap) (base:=base) I.ok.frames I.stack hf hx λh2 T' y1 y2 y3=>?_
  have hn:H1 a=none:=by
   cases q:H1 a with
   |none=>rfl
   |some o=>
    obtain⟨o',q'⟩:=zv (I.hok _ _ q)
    rw[hx.new]at q';cases q'
  have hT:s1.heap.get? T'=none:=by
   cases q:s1.heap.get? T' with
   |none=>rfl
   |some o=>rw[show({s1 with heap:=h' }:yaa).heap.get? T'=some o from hx.keeps _ _ q]at y3;cases y3
  have hHT:H1 T'=none:=by
   cases q:H1 T' with
   |none=>rfl
   |some o=>
    obtain⟨o',q'⟩:=zv (I.hok _ _ q)
    rw[hT]at q';cases q'
  have up:∀b,s1.heap.get? b=none->s.heap.get? b=none:=λb hb=>by
   cases q:s.heap.get? b with
   |none=>rfl
   |some o=>
    obtain⟨o',q'⟩:=I.base.there b o q (by show b ∉ ([]:List Addr);simp)
    rw[hb]at q';cases q'
  obtain⟨z1,z2⟩:=wB (s':={s1 with heap:=h' }) I rfl hf rfl (Un.kept hx.keeps) (I.hok.kept hx.keeps) (λb hb=>by rw[ms_]at hb;subst hb;exact hn) (λb hb=>by rw[ms_]at hb;subst hb;exact hx.new) y1
  exact⟨a,T',C,none,H1,rfl,I.os,I.bare,z1,z2,up a hx.new,up T' hT,hn,hHT,y2,hE⟩
 madeV:=λC dd pins σ H1 s1 H2 s2 a I os bare un hok hn hHa N hE=>by
  show wpAny (model P w) _ (ybK _ (.ref a)) _ _ _
  obtain⟨oe,vs,a0,n1,n2,n3,n4,n5,n6,n7⟩:=N
  have hl:s2.heap.FunFrames base (yaW qual scope s.heap.objs.size f cdv::outer):=qcv I un
  refine qfC (base:=base) I.ok.frames hl hf n1 n3 n5 n6 n4 λh2 T' y1 y2 y3=>?_
  rw[n2,n7]at y2
  have up':∀b,s2.heap.get? b=none->s1.heap.get? b=none:=λb hb=>by
   cases q:s1.heap.get? b with
   |none=>rfl
   |some o=>
    obtain⟨o',q'⟩:=un.there b o q (by simp)
    rw[hb]at q';cases q'
  have hHT:H2 T'=none:=by
   cases q:H2 T' with
   |none=>rfl
   |some o=>
    obtain⟨o',q'⟩:=zv (hok _ _ q)
    rw[y3]at q';cases q'
  have up:∀b,s1.heap.get? b=none->s.heap.get? b=none:=λb hb=>by
   cases q:s.heap.get? b with
   |none=>rfl
   |some o=>
    obtain⟨o',q'⟩:=I.base.there b o q (by show b ∉ ([]:List Addr);simp)
    rw[hb]at q';cases q'
  obtain⟨z1,z2⟩:=wB (s':=s2) I rfl hf rfl un hok (λb hb=>by rw[ms_]at hb;subst hb;exact hHa) (λb hb=>by rw[ms_]at hb;subst hb;exact hn) y1
  exact⟨a,T',C,dd,H2,rfl,os.trans I.os,bare,z1,z2,up a hn,up T' (up' T' y3),hHa,hHT,y2,hE⟩
 pass:=λpins σ H1 s1 u s' I x=>qjE I rfl hf rfl I.ok.frames x
 wish:=hw
theorem qfE {x qual:Str} {st:Stmt} {f:Addr} {fd:yaD} {N ps:List Str} {k:Nat} {O:List Nat} {body:MS} {cl:Str->Option Addr} (F:Fun K x qual st f fd) (S:qF N ps (qh st)) (hO:∀i∈O,ps.length<=i)
  (hb:∀(cdv:Value)(A:yaj)(outer:List yax)(s:yaa)(H:Hp)(E:XK)(B:Addr->Prop),yv k (A.deeper (yaW qual (qh st) s.heap.objs.size f cdv)) ->
   DSs (qch (CX1 P w) P w K mg base N qual (qh st) f cdv A outer s H E) (cfn O [] B H (λ_=>False) (λx H'=>∀C dd,cl x.cls=some C->XV x.val dd H'->E (.ref C) dd H') λ_=>none) (qE st) body) :
  uY P w K mg base (CX1 P w) (k+1) f fd ps (spX K cl (qbU N.length ps.length body)):=by
 obtain⟨oc,od,kV,doc,pm,an,cdv,ct,osl,rfl,lk,hcd⟩:=F.ex
 refine qlh lk hcd S (λvs H Q E h=>?_) λA outer s H vs Q E hr h=>?_
 ·obtain⟨ds,B,il,_,h⟩:=h
  unfold qbU at h
  by_cases e:ds.length=ps.length
  ·rw[il.length];exact e
  ·rw[if_neg e]at h;exact h.elim
 ·obtain ⟨ds,B,il,tb,h⟩:=h
  obtain⟨t,p,wt⟩:=hb cdv A outer s H E B hr
  refine⟨t,p,?_⟩
  unfold qbU at h
  by_cases e:ds.length=ps.length
  ·rw [if_pos e]at h
   refine wt (j9 N.length ds) (zV N vs) H _ (w5 il tb (λi hi=>by rw[e];exact hO i hi)) ?_
   have same:∀{Z:Env}{σ:St}{H':Hp},Rep K (cfn O [] B H (λ_=>False) (λx H'=>∀C dd,cl x.cls=some C->XV x.val dd H'->E (.ref C) dd H') λ_=>none) Z σ H'->zX H H':=λr b o hb=>r.kp b o hb λz=>z
   cases eb:body (j9 N.length ds) with
   |bad=>rw[eb]at h;exact h.elim
   | exc z Z=>
    rw[eb]at h
    obtain⟨C,hC,h⟩:=h
    exact λσ' H' r' _ C' dd hC' xv=>by
     rw[hC]at hC';cases hC'
     exact h dd H' (same r') xv
   |ok fl=>
    rw[eb]at h
    cases fl with
    |nx Z=>exact λσ' H' r' _=>h .non H' (same r') rfl
    |rt d Z=>exact λv σ' H' r' i' _=>h v H' (same r') i'
    |bk Z=>exact h.elim
    |ct Z=>exact h.elim
  ·rw[if_neg e]at h;exact h.elim
structure qac (P:yai) (w:World) (K:yae) (mg:Str->Option Value) (base:Heap) (k:Nat) (x:Str) (ps:List Str) (sp:Sp):Prop where
 ex:∃f fd,uY P w K mg base (CX1 P w) k f fd ps sp/\mg x=some (.ref f)/\yal K (.ref f)=true/\yT K fd ps []
end
section
variable{M:Model}{A:yaj}{E:Value->yaa->Prop}
variable{nm q nm' q':Str}{C S N N':Addr}{bs bm bs' bm':List Value}{hdct hdct':Bool}{sn sn':List Str}{sub sub':List Value}{ab ab':Bool}{col col':Option Bool}{dd dd':Option Addr}{k0 k1 k2 k3 k5 j0 j1 j2 j3 j5:Option Value}{newId newId':String}
theorem uW {h:Heap} {g:Array ycr} {d:Drawn} {t:Nat} {os:yff} {e:Addr} {oe:Obj} {Q:Bool->yaa->Prop}
  (hC:h.get? C=some (ybu nm q C N bs bm hdct sn sub ab col dd k0 k1 k2 k3 k5 newId)) (hS:h.get? S=some (ybu nm' q' S N' bs' bm' hdct' sn' sub' ab' col' dd' j0 j1 j2 j3 j5 newId'))
  (he:h.get? e=some oe) (hcls:oe.cls=.ref C) (hbase:bm'.contains (.type "BaseException")=true)
  (hq:Q ((yam C::bm).contains (.ref S)) ⟨h,g,d,t,os⟩):wpAny M A (excMatches (.ref e) (.ref S)) Q E ⟨h,g,d,t,os⟩:=by
 have hcB:(yam S::bm').contains (.type "BaseException")=true:=by rw[ydi,hbase,yc4]
 have f:=tc_notTuple
 unfold excMatches
 repeat (first|(with_reducible refine yaS he ?_;rw[hcls])|with_reducible refine yaS hS ?_|(with_reducible refine ycm hS ?_;rw[hcB])|with_reducible refine ycm hC ?_|wp_step)
 all_goals (first|exact hq|(cases hb:(yam C::bm).contains (.ref S)<;>(rw[hb]at hq;wp_walk;exact hq)))
end
end L2.Sk
namespace L2
open PySem PySem.Spec PyProof.Rows
def AloneA(A:yaj)(H:Hp):Prop:=∃e oe u vs,A.handled=some (.ref e)/\H e=some (.frz oe u)/\oe.data=.fields vs/\vs[2]? = some .none
def ql0(A:yaj)(sp:Sp)(dvs:List V)(E:XK)(t:TA):TE:=λσ H Q=>t σ H λvs H1=>AloneA A H1/\sp (vs++dvs) H1 Q E
structure yG (k:Nat) (A:yaj):Prop where
 dp:A.depth+3*k+5<yc8
 un:A.units+16*k+200<cLine
 gd:A.guards=some []
theorem yG.mono{j k:Nat}{A:yaj}(r:yG k A)(h:j<=k):yG j A:=⟨by have:=r.dp;omega,by have:=r.un;omega,r.gd⟩
theorem yG.deeper {k:Nat} {A:yaj} (r:yG (k+1) A) (env:Env):yG k (A.deeper env) :=
 ⟨by have:=r.dp;show A.depth+1+3*k+5<_;omega,by have:=r.un;show A.units+3+16*k+200<_;omega,r.gd⟩
theorem yG.depth{k:Nat}{A:yaj}(r:yG k A):A.depth<yc8:=by have:=r.dp;omega
structure qbV (P:yai) (w:World) (K:yae) (mg:Str->Option Value) (base:Heap) (CX:CXT) (k:Nat) (f:Addr) (fd:yaD) (ps:List Str) (sp:Sp):Prop where
 len:∀vs H Q E,sp vs H Q E->vs.length=ps.length
 run:∀(A:yaj)(outer:List Env)(s:yaa)(H:Hp)(args:Args)(us:List Value)(vs:List V)(Q:VK)(E:XK),yG k A->AloneA A H->qgF P w K mg base A outer s H->ydJ s fd args (ps.zip us)->zk vs us->sp vs H Q E ->
  yb6 (model P w) A (.call (.ref f) args) (CR CX outer P w H s Q E) s
def qd9 (CX:CXT) (P:yai) (w:World) (K:yae) (mg:Str->Option Value) (base:Heap) (N:List Str) (qual:Str) (scope:Scope) (f:Addr) (cd:Value) (A:yaj) (outer:List Env) (s:yaa) (H:Hp) (E:XK):Cx where
 prog:=P
 w:=w
 K:=K
 mg:=mg
 base:=base
 A:=A.deeper (yaW qual scope s.heap.objs.size f cd)
 N:=N
 s₀:=s
 H₀:=H
 env:=yaW qual scope s.heap.objs.size f cd
 outer:=outer
 stack:=yaW qual scope s.heap.objs.size f cd::outer
 ex:=[]
 calm:=false
 fn:=λ_=>true
 pn:=[]
 xe:=λe s'=>wpAny (model P w) (A.deeper (yaW qual scope s.heap.objs.size f cd)) (ybK (yaW qual scope s.heap.objs.size f cd) e) (λ_ s''=>CX outer H s E e s'') (λe' s''=>CX outer H s E e' s'') s'
theorem qea {CX:CXT} {P:yai} {w:World} {K:yae} {mg:Str->Option Value} {base:Heap} {N ps:List Str} {qual:Str} {scope:Scope} {f:Addr} {cd:Value} {A:yaj} {outer:List Env} {s s1:yaa} {H:Hp} {E:XK} {us:List Value} {vs:List V}
  (S:qF N ps scope) (e0:qgF P w K mg base A outer s H) (hl:vs.length=ps.length) (r:zk vs us)
  (x:InCallC s s.heap.objs.size (bindL (yaW qual scope s.heap.objs.size f cd).kindOf (ps.zip us) λ_=>none) (ydX (s.heap.objs.size+1) scope.names []) (bindC (yaW qual scope s.heap.objs.size f cd).kindOf (ps.zip us) λ_=>none) s1) :
  Inv (qd9 CX P w K mg base N qual scope f cd A outer s H E) [] (zV N vs) H s1:=by
 have hpl:ps.length<=N.length:=by have:=congrArg yd6 S.pre;rw[ycg]at this;omega
 obtain⟨h1,tk,rfl,hk⟩:=x.done
 have noA:∀b:Addr,b ∉ (qd9 CX P w K mg base N qual scope f cd A outer s H E).ex:=λb z=>absurd (show b∈([]:List Addr)from z) (by simp)
 refine ⟨⟨e0.mod,S.kind,rfl,rfl,yah _,λy z c h1 h2=>?_,λy hy=>?_,λy c _ h=>?_,(λz=>Bool.noConfusion z),yex e0.frames,.inr ⟨rfl,rfl⟩,λb z=>absurd z (noA b),e0.bs,e0.bsz,λb _ _=>noA b,λb z=>absurd z (noA b),e0.funs,e0.frf⟩,
  rfl,e0.bare,Un.kept hk,⟨_,x.toInCall.ns,λi y v h1 h2 h3=>?_⟩,λy c h=>⟨_,x.cell y c h⟩,e0.hok.fresh (yah _),λy c h=>?_,λp hp=>absurd (show p∈([]:List (Addr×Obj))from hp) (by simp),e0.hok.kept hk,?_⟩
 ·exact name_of_addr x.apart (yaK h1) (yaK h2)
 ·have hy:scope.names.lookup y=some .cell\/scope.names.lookup y=some .free:=hy
  rcases hy with hy|hy
  ·exact wy hy
  ·exact absurd rfl (S.nofree _ (yaK hy))
 ·exact ycT (x.above y c (yaK h))
 ·have hi:i<vs.length:=by
   unfold zV at h2
   by_cases hi:i<vs.length
   ·exact hi
   ·rw[List.getElem?_append_right (by simpa using hi)]at h2
    rw[List.getElem?_replicate]at h2
    split at h2<;>cases h2
  have ha:vs[i]? = some v:=by
   unfold zV at h2
   rw[List.getElem?_append_left (by simpa using hi),gM_]at h2
   cases e:vs[i]? with
   |none=>rw[e]at h2;cases h2
   |some a=>rw[e]at h2;cases h2;rfl
  obtain⟨u,hu,rv⟩:=r.get ha
  have hp:ps[i]? = some y:=by
   rw[<-S.pre,List.getElem?_take_of_lt (by omega)];exact h1
  have ndP:ps.Nodup:=by rw[<-S.pre];exact S.nd.sublist (yfk _ _)
  refine⟨u,rv,?_⟩
  rcases S.par y (ybF hp)with k|k
  ·exact .inl ⟨k,wN ndP hp hu k⟩
  ·obtain⟨c,e⟩:=wy (n:=s.heap.objs.size+1) k
   refine .inr ⟨.inl k,c,e,?_⟩
   have q:=x.cell y c e
   rw[wO ndP hp hu (by show scope.names.lookup y≠_;rw[k];decide)]at q
   exact q
 ·exact e0.hok.fresh (ycT (x.above y c (yaK h)))
 ·unfold zV
  show _=N.length
  rw[lA_,lM_,yaZ]
  omega
theorem ql1 {CX:CXT} {P:yai} {w:World} {K:yae} {mg:Str->Option Value} {base:Heap} {k:Nat} {f:Addr} {name qual:Str} {params:ydY} {body:List Stmt} {scope:Scope} {dV kV doc pm cdv ct oc:Value} {an od:Option Addr}
  {osl:Array (Option Value)} {N ps:List Str} {sp:Sp} (lk:K.lookup f=some ⟨oc,od,.func (yau name qual params body scope dV kV doc pm an cdv ct),osl⟩) (hcd:yas K cdv qual=true) (S:qF N ps scope)
  (len:∀vs H Q E,sp vs H Q E->vs.length=ps.length)
  (hbody:∀(A:yaj)(outer:List Env)(s:yaa)(H:Hp)(vs:List V)(Q:VK)(E:XK),yG k (A.deeper (yaW qual scope s.heap.objs.size f cdv))->AloneA (A.deeper (yaW qual scope s.heap.objs.size f cdv)) H->sp vs H Q E ->
   ∃t,PSs (qd9 CX P w K mg base N qual scope f cdv A outer s H E) body t/\t {nx:=λ_ H'=>Q .non H',rt:=Q} (zV N vs) H) :
  qbV P w K mg base CX (k+1) f (yau name qual params body scope dV kV doc pm an cdv ct) ps sp:=by
 refine⟨len,λA outer s H args us vs Q E hr al e0 hb r hsp=>?_⟩
 have hl:=len _ _ _ _ hsp
 have KX:K.In s.heap:=e0.mod.kin.keeps λb o e=>(e0.bs b o e).1
 have lim:s.heap.NoLimit:=e0.mod.nolimit.keeps λb o e=>(e0.bs b o e).1
 have hkind:∀y∈ps.zip us,scope.names.lookup y.1=some .local\/(scope.names.lookup y.1=some .cell/\((ydX (s.heap.objs.size+1) scope.names []).lookup y.1).isSome=true):=λ⟨n,v⟩ hy=>by
  rcases S.par n (ycX hy).1 with q|q
  ·exact .inl q
  ·exact .inr ⟨q,ycD _ _ _ (.inl q)⟩
 refine yel hr.depth (KX _ _ lk) rfl S.co S.gen rfl (yeX KX hcd) (hb _ _ _ _ ?_)
 refine ydp S.kind hkind λenv he s1 x=>?_
 subst he
 refine⟨lim.keeps x.toInCall.keep,codeAny_func ?_⟩
 obtain⟨t,ht,hq⟩:=hbody A outer s H vs Q E (hr.deeper _) al hsp
 have I:Inv (qd9 CX P w K mg base N qual scope f cdv A outer s H E) [] (zV N vs) H s1:=qea S e0 hl r x
 refine yaF (ht [] s1 (zV N vs) H _ I hq) (λfl s' hs=>?_) λe s' hs=>hs
 have fin:∀{σ':St}{H':Hp}{v:V}{u:Value},Inv (qd9 CX P w K mg base N qual scope f cdv A outer s H E) [] σ' H' s'->jh v u->Q v H'->CE outer P w H s Q u s' :=
  λ{σ' H' v u} J rv q=>⟨v,H',J.os,J.bare,J.base,J.hok,rv,q⟩
 cases fl with
 |ret u=>
  obtain⟨v,σ',H',J,rv,q⟩:=hs
  exact fin J rv q
 |next=>
  obtain⟨σ',H',J,q⟩:=hs
  exact fin (v:=V.non) (u:=yaG) J rfl q
 |brk=>
  obtain⟨_,_,_,q⟩:=hs
  exact yaR q
 |cont=>
  obtain⟨_,_,_,q⟩:=hs
  exact yaR q
section
variable{X:Cx}{CX:CXT}{k:Nat}{f C:Addr}{fd:yaD}{ps:List Str}{sp:Sp}{dvs:List V}{ds:List Value}{E:XK}{x m:Str}{p pos apos:Pos}{e o:Expr}{es:List Expr}{ta:TE}{t:TA}
theorem qjF {pins:List (Addr×Obj)} {σ:St} {H:Hp} {s:yaa} {Q:VK} {us:List Value} {vs:List V} (F:qbV X.prog X.w X.K X.mg X.base CX k f fd ps sp) (hr:yG k X.A) (hb:yT X.K fd ps ds) (hd:zk dvs ds) (hx:wL CX X E)
  (I:Inv X pins σ H s) (r:zk vs us) (al:AloneA X.A H) (h:sp (vs++dvs) H Q E):wpAny (model X.prog X.w) X.A (call (.ref f) us) (EP X pins σ Q) X.xe s:=by
 have r2:zk (vs++dvs) (us++ds):=r.append hd
 have hl:(us++ds).length=ps.length:=by rw[<-r2.length];exact F.len _ _ _ _ h
 refine ycV (ycW (F.run X.A X.stack s H ⟨us,[]⟩ (us++ds) (vs++dvs) Q E hr al I.env0 (hb s us I.kIn hl) r2 h) λr s' hq=>?_)
 cases r with
 |error e=>exact hx pins σ H s e s' I hq
 |ok fl=>
  cases fl with
  |ret u=>exact I.after hq
  |next=>exact yaR hq
  |brk=>exact yaR hq
  |cont=>exact yaR hq
theorem qg4 (F:qbV X.prog X.w X.K X.mg X.base CX k f fd ps sp) (hr:yG k X.A) (hg:Gl X x) (hm:X.mg x=some (.ref f)) (hk:yal X.K (.ref f)=true) (hb:yT X.K fd ps ds) (hd:zk dvs ds) (hx:wL CX X E)
  (ha:PA X (e::es) t) (hdb:(x==("__debug__":Str))=false:=by decide) (he:yac (e::es) X.env=(false,eval e X.env)::yac es X.env:=by rfl) (hpl:(yaz pos (yac es X.env)).any (·.1)=false:=by rfl) :
  PE X (.Call (.Name x p) (e::es) [] pos) (ql0 X.A sp dvs E t):=by
 intro pins s σ H Q I h
 refine yct (wF I hg hm ?_ hdb)
 refine yeW (h₀:=X.base) I.ok.mod.kin hk (thn (ha pos pins s σ H _ I h) λus s1 ⟨vs,H1,I1,r,q⟩=>⟨I1.kIn,?_⟩) he hpl
 exact qjF F hr hb hd hx I1 r q.1 q.2
end
end L2
namespace L2.Sk
open PySem PySem.Spec PyProof.Rows
def isT (b:Bool):Value->Bool
 |.bool a=>a==b
 |_=>false
theorem vN:∀{bs:List Bool}{us:List Value},zk (bs.map V.bl) us->us=bs.map ybc
 | [],_,r=>by rw[ydO]at r;cases r;rfl
 | b::bs,_,r=>by
  rw[mC_]at r
  cases r with
  |cons r1 r2=>
   have e:_=ybc b:=r1
   rw[e,vN r2];rfl
theorem qaE (b:Bool):∀bs:List Bool,List.countP (isT b) (bs.map ybc)=bs.countP (·==b)
 | []=>rfl
 |a::bs=>by simp[List.countP_cons,qaE b bs,isT]
def qii:V->List V->Hp->VK->Prop:=λx vs H Q=>∃(l:Addr)(bs:List Bool)(b:Bool),x=.ref l/\vs=[.bl b]/\H l=some (.lst (bs.map V.bl))/\Q (.int (bs.countP (·==b))) H
def qij:V->List V->Hp->VK->Prop:=λx vs H Q=>∃(l:Addr)(bs:List Bool)(b:Bool)(j:Nat),x=.ref l/\vs=[.bl b]/\H l=some (.lst (bs.map V.bl))/\bs.findIdx? (·==b)=some j/\Q (.int j) H
section
variable{X:Cx}
theorem qg5:MtR X "list.count" qii:=by
 intro pins s σ H x vs v us Q I rx rv h
 obtain⟨l,bs,b,rfl,rfl,hH,q⟩:=h
 cases rx
 obtain⟨u,rfl,ru⟩:=zk.one rv
 have ru':u=ybc b:=ru
 subst ru'
 obtain⟨z,its,n,r,hl,e⟩:=I.lstM hH
 have hi:=vN r
 subst hi
 refine ybi F.slot_list_count ⟨_,e,rfl⟩ F.entry_list_count (F.args_list_count_2 _ _) (SeqAt.list_countAt l (bs.map ybc).toArray n none #[] (.bool b) (isT b)) ⟨e,λy hy=>?_,?_⟩
 ·have hy':y∈bs.map ybc:=by simpa using hy
  obtain⟨a,_,rfl⟩:=mP_.mp hy'
  exact ycZ a b
 ·refine⟨.int _,H,I.tok _,⟨s.toks,?_⟩,q⟩
  show ybT _ _=ybT _ _
  rw[List.toList_toArray,qaE]
theorem qg6:MtR X "list.index" qij:=by
 intro pins s σ H x vs v us Q I rx rv h
 obtain⟨l,bs,b,j,rfl,rfl,hH,hj,q⟩:=h
 cases rx
 obtain⟨u,rfl,ru⟩:=zk.one rv
 have ru':u=ybc b:=ru
 subst ru'
 obtain⟨z,its,n,r,hl,e⟩:=I.lstM hH
 have hi:=vN r
 subst hi
 rw[List.findIdx?_eq_some_iff_getElem]at hj
 obtain⟨h1,h2,h3⟩:=hj
 have hz:bs.length<=yap:=by simpa using z
 rw[ybh]at hz
 refine ybi F.slot_list_index ⟨_,e,rfl⟩ F.entry_list_index (F.args_list_index_2 _ _) (SeqAt.list_indexAt l (bs.map ybc).toArray n none #[] (.bool b) (isT b) j (by simpa using h1) (by omega) ?_ ?_) ⟨e,λy hy=>?_,?_⟩
 ·simpa [isT] using h2
 ·intro m hm hmj
  have:=h3 m hmj
  simpa [isT] using this
 ·have hy':y∈bs.map ybc:=by simpa using hy
  obtain⟨a,_,rfl⟩:=mP_.mp hy'
  exact ycZ a b
 ·exact⟨.int _,H,I.tok _,⟨s.toks,rfl⟩,q⟩
end
def qfF (x:D) (ys:List D):OD:=match x,ys with
 |.lst ds,[.bl b]=>(yx ds).map λbs => .int (bs.countP (·==b))
 |_,_=>none
def qfG (x:D) (ys:List D):OD:=match x,ys with
 |.lst ds,[.bl b]=>(yx ds).bind λbs=>(bs.findIdx? (·==b)).map λj => .int j
 |_,_=>none
def qfH (F:D->List D->OD) (f:M D) (g:M (List D)):M D:=bnd f λx=>match x with
 |.lst ds=>bnd g λys=>lift (F (.lst ds) ys)
 |_=>λ_ => .bad
def qcw(K:Fr0)(F:D->List D->OD)(r:V->List V->Hp->VK->Prop):Prop:=∀A H x ys d v vs (Q:VK),(∀a,H a=none->A a)->Is K A H x v->IsL K A H ys vs->F x ys=some d->(∀u H',zX H H'->Is K A H' d u->Q u H')->r v vs H Q
theorem qcx {K:Fr0}:qcw K qfF qii:=by
 intro A H x ys d v vs Q hn ix iy e k
 unfold qfF at e
 split at e
 ·rename_i ds b
  obtain⟨u,rfl,e2⟩:=IsL.inv1 iy
  cases e2
  obtain⟨a,xs,rfl,_,ta,il⟩:=ix
  cases eb:yx ds with
  |none=>rw[eb]at e;cases e
  |some bs=>
   rw[eb]at e
   cases e
   rw[yU il eb]at ta
   exact⟨a,bs,b,rfl,rfl,ta,k _ H (zX.refl H) rfl⟩
 ·cases e
theorem qcy {K:Fr0}:qcw K qfG qij:=by
 intro A H x ys d v vs Q hn ix iy e k
 unfold qfG at e
 split at e
 ·rename_i ds b
  obtain⟨u,rfl,e2⟩:=IsL.inv1 iy
  cases e2
  obtain⟨a,xs,rfl,_,ta,il⟩:=ix
  cases eb:yx ds with
  |none=>rw[eb]at e;cases e
  | some bs=>
   rw[eb]at e
   cases ej:bs.findIdx? (·==b) with
   |none=>simp only[ycM,ej]at e;cases e
   |some j=>
    simp only[ycM,ej,yd2]at e
    cases e
    rw[yU il eb]at ta
    exact⟨a,bs,b,j,rfl,rfl,ta,ej,k _ H (zX.refl H) rfl⟩
 ·cases e
section
variable{X:Cx}{c:Fc}{o e:Expr}{es:List Expr}{apos cpos:Pos}
theorem qfI {id:String} {name:Str} {r:V->List V->Hp->VK->Prop} {F:D->List D->OD} {f:M D} {g:M (List D)} (slot:Slot "list" name id) (hty:ye1 (.builtin id)=pure (.type "method_descriptor")) (hm:MtR X id r) (hF:qcw X.K F r)
  (ho:DE X c o f) (ha:DA X c (e::es) g)
  (hbase:ybq o name X.env (eval o X.env)=eval o X.env:=by rfl)
  (hfew:((yaz cpos (yac (e::es) X.env)).all (λx => !x.1)&&(ycK cpos (yb2 [] X.env)).all (λx=>x.1.isSome)
   && decide ((e::es).length+([]:List ybQ).length+(if([]:List ybQ).isEmpty then 0 else 1)<30))=true:=by rfl)
  (hline:(apos.endLine==cpos.line)=true:=by rfl) (hs:yac (e::es) X.env=(false,eval e X.env)::yac es X.env:=by rfl) (hplain:(yaz cpos (yac es X.env)).any (·.1)=false:=by rfl) :
  DE X c (.Call (.Attribute o name apos) (e::es) [] cpos) (qfH F f g):=by
 obtain⟨to,po,wo⟩:=ho
 obtain⟨t,pa,wa⟩:=ha
 refine⟨_,qi2 ydT slot hty hm po pa hbase hfew hline hs hplain,λZ σ H Q r0 h=>wo Z σ H _ r0 (Wp.bnd h λx Z1 v H1 r1 i1 g1 h1=>?_)⟩
 cases x with
 |lst ds=>
  obtain⟨a,xs,rfl,ha,hH,il⟩:=i1
  refine⟨.inl ⟨rfl,xs,.inl (.inl hH)⟩,wa Z1 σ H1 _ r1 (WpL.bnd h1 λys Z2 vs H2 r2 i2 g2 h2=>?_)⟩
  obtain⟨d,ed,h3⟩:=h2.lift
  exact hF (Cn c σ) H2 (.lst ds) ys d (.ref a) vs Q (λa ha=>r2.new ha) (g2.is ⟨a,xs,rfl,ha,hH,il⟩) i2 ed λu H' sm i=>h3 u H' (r2.same sm) i (.of_same sm)
 |_=>exact h1.elim
end
@[reducible] def toX (X:Cx) (xe:Value->yaa->Prop) (pn:List (Addr×Obj)):Cx:={X with xe:=xe,pn:=pn}
@[reducible] def hdX (X:Cx) (e:Addr):Cx:={X with A:=X.A.mark (some (.ref e)),calm:=false,xe:=λ_ _=>False}
section
variable{X:Cx}{pins:List (Addr×Obj)}{σ:St}{H:Hp}{s:yaa}{xe:Value->yaa->Prop}
theorem qik (I:Inv X pins σ H s):Inv (toX X xe (X.pn++pins)) [] σ H s :=
 let k:=I.ok
 ⟨⟨k.mod,k.kind,k.glob,k.blt,k.above,k.inj,k.has,k.cab,k.hd,k.frames,k.stk,k.exf,k.bs,k.bsz,k.noex,k.exfs,k.funs,k.frf⟩,I.os,I.bare,I.base,I.loc,I.cell,I.free,I.freeC,
  λp hp=>I.pin p (by rw[ya4]at hp;exact hp),I.hok,I.len⟩
theorem jK {pins2:List (Addr×Obj)} (I:Inv (toX X xe (X.pn++pins)) pins2 σ H s):Inv X pins σ H s :=
 let k:=I.ok
 ⟨⟨k.mod,k.kind,k.glob,k.blt,k.above,k.inj,k.has,k.cab,k.hd,k.frames,k.stk,k.exf,k.bs,k.bsz,k.noex,k.exfs,k.funs,k.frf⟩,I.os,I.bare,I.base,I.loc,I.cell,I.free,I.freeC,
  λp hp=>I.pin p (yce _ hp),I.hok,I.len⟩
theorem qdn (e:Addr) (I:Inv X pins σ H s):Inv (hdX X e) pins σ H s :=
 let k:=I.ok
 ⟨⟨k.mod,k.kind,k.glob,k.blt,k.above,k.inj,k.has,k.cab,λz=>(nomatch z),k.frames,k.stk,k.exf,k.bs,k.bsz,k.noex,k.exfs,k.funs,k.frf⟩,I.os,I.bare,I.base,I.loc,I.cell,I.free,I.freeC,I.pin,I.hok,I.len⟩
theorem qdo {e:Addr} {σ':St} {H':Hp} {s':yaa} (k:X.Ok) (I:Inv (hdX X e) pins σ' H' s'):Inv X pins σ' H' s' :=
 ⟨k,I.os,I.bare,I.base,I.loc,I.cell,I.free,I.freeC,I.pin,I.hok,I.len⟩
theorem qeb {h':Heap} {m':Str->Option Value} {tk:Nat} (I:Inv X pins σ H s) (hn:h'.Ns X.env.locals m') (hs:yb4 X.env.locals s.heap h') :
  Inv X pins (yan X.N.length none) H {s with heap:=h',toks:=tk}:=by
 obtain⟨m,hn0,_⟩:=id I.loc
 obtain⟨oL,_,_,hoL,_⟩:=id hn0
 have ne:∀b o,X.s₀.heap.get? b=some o->b≠X.env.locals:=λb o q=>yaw (yat (yag q) I.ok.above)
 refine⟨I.ok,I.os,I.bare,⟨λb o e n hb hx=>(hs.2 b (ne b o e)).trans (I.base.keep b o e n hb hx),λb o e n hb hx=>?_,I.base.free,λb o e hx=>?_,I.base.tups,I.base.frzs,I.base.tbls⟩,⟨m',hn,λj y v e1 e2 e3=>?_⟩,λy c e=>?_,I.free,I.freeC,λp hp=>?_,λb ob e=>?_,by simp⟩
 ·obtain⟨sl,q⟩:=I.base.slot b o e n hb hx
  exact⟨sl,(hs.2 b (ne b o e)).trans q⟩
 ·obtain⟨o',q⟩:=I.base.there b o e hx
  exact⟨o',(hs.2 b (ne b o e)).trans q⟩
 ·rw[List.getElem?_replicate]at e2
  split at e2<;>cases e2
 ·obtain⟨w',z⟩:=I.cell y c e
  exact⟨w',z.sameBut hs (I.cne y c e)⟩
 ·obtain⟨e,n,nl,nf,d⟩:=I.pin p hp
  exact⟨(hs.2 p.1 nl).trans e,n,nl,nf,d⟩
 ·refine(I.hok b ob e).stay (λc w' hc q=>(hs.2 c ?_).trans q) (λ_ q=>q) λ_ _ q=>q
  rintro rfl
  rcases hc with rfl|hc
  ·rw[I.free]at e;cases e
  ·rw[I.free]at hc;cases hc
theorem qa2 {H':Hp} {h':Heap} (I:Inv X pins σ H s) (u:Un (frs X.stack) [] H H' s.heap h'):h'.FunFrames X.base X.stack:=by
 have all:∀(l:List yax),(∀b∈frs l,b∈frs X.stack)->s.heap.FunFrames X.base l->h'.FunFrames X.base l:=by
  intro l
  induction l with
  |nil=>intro _ _;trivial
  |cons env r ih=>
   intro hss hl
   obtain⟨hk,⟨L,o,hf',hn,ho,hd⟩,hr⟩:=hl
   have hfr:frs (env::r)=L::frs r:=by unfold frs;rw[ybb,hf']
   rw[hfr]at hss
   have hL:=hss L mS_
   obtain⟨sl,e⟩:=u.slot L o ho (I.stkFree L hL) hL (by simp)
   exact⟨hk,⟨L,_,hf',hn,e,hd⟩,ih (λb hb=>hss b (mM _ hb)) hr⟩
 exact all X.stack (λ_ z=>z) I.stack
theorem qaF {H':Hp} {h1 h':Heap} {ch:List Addr} (u:Un (frs X.stack) [] H H' s.heap h1) (hchn:∀b∈ch,s.heap.get? b=none) (x:Lft h1 h' ch (frs X.stack)):Un (frs X.stack) [] H H' s.heap h':=by
 have nch:∀b o,s.heap.get? b=some o->b ∉ ch:=λb o q z=>by rw[hchn b z]at q;cases q
 refine⟨λb o q n hb hx=>x.keep b o (nch b o q) hb (u.keep b o q n hb hx),λb o q n hb hx=>?_,u.free,λb o q hx=>?_,u.tups,u.frzs,u.tbls⟩
 ·obtain⟨sl,q1⟩:=u.slot b o q n hb hx
  obtain⟨sl2,q2⟩:=x.slot b _ hb q1
  exact⟨sl2,q2⟩
 ·obtain ⟨o2,q2⟩:=u.there b o q hx
  by_cases hb:b∈frs X.stack
  ·obtain⟨sl,q3⟩:=x.slot b o2 hb q2
   exact⟨_,q3⟩
  ·exact⟨o2,x.keep b o2 (nch b o q) hb q2⟩
theorem vO {H':Hp} {h1 h':Heap} {ch:List Addr} (I:Inv X pins σ H s) (u:Un (frs X.stack) [] H H' s.heap h1) (hok:HOk X.prog X.w H' h1) (hch:∀b∈ch,H' b=none) (x:Lft h1 h' ch (frs X.stack)):HOk X.prog X.w H' h' :=
 qih hok λb o hb1 q=>x.keep b o (λz=>by rw[hch b z]at hb1;cases hb1) (λz=>by
  obtain⟨_,o1,ho1,_⟩:=I.stack.mem z
  rw[u.free b o1 ho1 (I.stkFree b z) (by simp)]at hb1
  cases hb1) q
theorem qa3 {H':Hp} {h':Heap} {e:Addr} {o:HO} (u:Un (frs X.stack) [] H H' s.heap h') (he:s.heap.get? e=none) (hHe:H' e=none):Un (frs X.stack) [] H (upd H' e o) s.heap h':=by
 have ne:∀b ob,s.heap.get? b=some ob->b≠e:=λb ob q z=>by rw[z,he]at q;cases q
 have ne':∀b u,H' b=some u->b≠e:=λb u q z=>by rw[z,hHe]at q;cases q
 refine⟨u.keep,u.slot,λb ob q n hx=>by rw[qu (ne b ob q)];exact u.free b ob q n hx,u.there,λb xs q=>?_,λb ob w q=>?_,λb ps y q=>?_⟩
 ·have:=u.tups b xs q
  rw[qu (ne' b _ this)];exact this
 ·have:=u.frzs b ob w q
  rw[qu (ne' b _ this)];exact this
 ·have:=u.tbls b ps y q
  rw[qu (ne' b _ this)];exact this
theorem qdp {P:yai} {w:World} {H':Hp} {h':Heap} {e:Addr} {oe:Obj} (hok:HOk P w H' h') (hHe:H' e=none) (he:h'.get? e=some oe):HOk P w (upd H' e (.frz oe (.own e))) h':=λb ob q=>by
 by_cases hb:b=e
 ·subst hb
  rw[qm]at q
  cases q
  exact⟨he,oe,he⟩
 ·rw[qu hb]at q
  have ne':∀c u,H' c=some u->c≠e:=λc u q z=>by rw[z,hHe]at q;cases q
  exact(hok b ob q).stay (λ_ _ _ q=>q) (λc q=>by rw[qu (ne' c _ q)];exact q) (λc xs q=>by rw[qu (ne' c _ q)];exact q) λc ob y q=>by rw[qu (ne' c _ q)];exact q
end
def reE(c:Fc)(E:Exn->Hp->Prop):Fc:={c with E:=E}
theorem Rep.reE{K:Fr0}{c:Fc}{E:Exn->Hp->Prop}{Z:Env}{σ:St}{H:Hp}(r:Rep K c Z σ H):Rep K (Sk.reE c E) Z σ H:=⟨r.len,r.val,r.own,r.inj,r.b0,r.kp,r.dm,r.pO,r.ps⟩
theorem Rep.unE{K:Fr0}{c:Fc}{E:Exn->Hp->Prop}{Z:Env}{σ:St}{H:Hp}(r:Rep K (Sk.reE c E) Z σ H):Rep K c Z σ H:=⟨r.len,r.val,r.own,r.inj,r.b0,r.kp,r.dm,r.pO,r.ps⟩
structure qnp (K:Fr0) (base:Heap) (RN:List Str) (S:Addr):Prop where
 sup:∃bm,XC base S bm
 own:∀n C,clR K RN n=some C->∃bm,XC0 base C bm/\(yam C::bm).contains (.ref S)=true
 raw:∀n C,clR K RN n=some C->n≠"NoText"->∃bm,XC base C bm
 ki:∀n C,clR K RN n=some C->XK6 K C
def ch(H6:Hp):Fc:=⟨[],[],λa=>H6 a=none,H6,λ_=>False,λ_ _=>False,λ_=>none,[]⟩
theorem qil {K:Fr0} {n i:Nat} {H6:Hp} {σ:St} {d:D} {v:V} (hl:σ.length=n) (hi:∀{A:Addr->Prop},Is K A H6 d v) (tb:qaQ K H6):Rep K (ch H6) ((yan n none).set i (some d)) (σ.set i (some v)) H6:=by
 refine⟨by simp[hl],λj d' h=>?_,λj hj=>(nomatch hj),λj _ _ hj=>(nomatch hj),⟨λ_ h=>h,tb⟩,λ_ _ h _=>h,λ_ h=>h,λ_ h=>h,λj hj=>(nomatch hj)⟩
 rw[List.getElem?_set]at h
 split at h
 ·rename_i e
  subst e
  rw[yaZ]at h
  split at h
  ·rename_i hlt
   cases h
   exact⟨v,List.getElem?_set_self (by rw[hl];exact hlt),.inr ⟨by simp[ch],hi⟩⟩
  ·cases h
 ·rw[List.getElem?_replicate]at h
  split at h<;>cases h
theorem qcz {X:Cx} {pins:List (Addr×Obj)} {σ:St} {H:Hp} {s:yaa} {n:Str} {c:Addr} {h':Heap} {tk:Nat} (I:Inv X pins σ H s) (hc:X.env.cells.lookup n=some c) (hfn:X.fn n=true) (hs:yb4 c s.heap h') (hv:h'.IsCell c none) :
  Inv X pins (yan X.N.length none) H {s with heap:=h',toks:=tk}:=by
 obtain⟨m,hn0,_⟩:=id I.loc
 obtain⟨v0,oc,hoc,hocd⟩:=I.cell n c hc
 have big:=I.ok.cab n c hfn hc
 have ne:∀b o,X.s₀.heap.get? b=some o->b≠c:=λb o q=>yaw (yat (yag q) big)
 refine⟨I.ok,I.os,I.bare,⟨λb o e q hb hx=>(hs.2 b (ne b o e)).trans (I.base.keep b o e q hb hx),λb o e q hb hx=>?_,I.base.free,λb o e hx=>?_,I.base.tups,I.base.frzs,I.base.tbls⟩,⟨m,hn0.sameBut hs (yaU (I.cne n c hc)),λj y v e1 e2 e3=>?_⟩,λy c' e=>?_,I.free,I.freeC,λp hp=>?_,λb ob e=>?_,by simp⟩
 ·obtain⟨sl,z⟩:=I.base.slot b o e q hb hx
  exact⟨sl,(hs.2 b (ne b o e)).trans z⟩
 ·obtain⟨o',z⟩:=I.base.there b o e hx
  exact⟨o',(hs.2 b (ne b o e)).trans z⟩
 ·rw[List.getElem?_replicate]at e2
  split at e2<;>cases e2
 ·by_cases q:c'=c
  ·subst q;exact⟨_,hv⟩
  ·obtain⟨w',z⟩:=I.cell y c' e
   exact⟨w',z.sameBut hs q⟩
 ·obtain⟨e,q,nl,nf,d⟩:=I.pin p hp
  refine⟨(hs.2 p.1 λz=>?_).trans e,q,nl,nf,d⟩
  rw[z,hoc]at e
  exact d v0 (by rw[<-yaA e];exact hocd)
 ·refine(I.hok b ob e).stay (λb2 w' hb2 q=>(hs.2 b2 ?_).trans q) (λ_ q=>q) λ_ _ q=>q
  rintro rfl
  have z:=I.freeC n b2 hc
  rcases hb2 with rfl|hb2
  ·rw[z]at e;cases e
  ·rw[z]at hb2;cases hb2
theorem qfJ {X:Cx} {pins:List (Addr×Obj)} {σ:St} {H:Hp} {s:yaa} {n:Str} {i:Nat} {pos:Pos} {M:Model} {A:yaj} {E:Value->yaa->Prop} {Q:Unit->yaa->Prop} (I:Inv X pins σ H s) (hN:X.N.Nodup) (hi:X.N[i]? = some n) (hx:X.env.scope.names.lookup n=some .cell) (hkn:X.env.kindOf n=some .cell) (hfn:X.fn n=true)
  (k:∀s',Inv X pins (yan X.N.length none) H s'->Q () s'):wpAny M A (do yew X.env n .none;yeB X.env n pos) Q E s:=by
 refine yab (yeh (yS (v:=.non) (u:=.none) I hN hi (.inr hx) rfl (λs5 I5=>?_) (.inl hfn)))
 obtain⟨c,hc⟩:=I5.ok.has n (.inl hkn)
 obtain⟨m,hn,hl⟩:=id I5.loc
 have hil:i<σ.length:=by rw[I.len];exact(gI_.mp hi).1
 obtain⟨u,ru,lk⟩:=hl i n .non hi (List.getElem?_set_self hil) (.inr (.inl hx))
 have hcv:s5.heap.IsCell c (some u):=by
  rcases lk with⟨z,_⟩|⟨_,c',e,z⟩
  ·rw[hkn]at z;cases z
  ·rw[hc]at e;cases e;exact z
 unfold yeB
 refine wpAny_onRaise ?_
 unfold unbindName
 refine yab (yfv (yab ?_))
 unfold deleteName
 simp only[hkn]
 refine yab (wpAny_cellOf hc (yab (wpAny_cellGet hcv ?_)))
 simp only[Option.isSome_some,if_true]
 exact wpAny_cellSet hcv λh' hv hs=>yfv (k _ (qcz (tk:=s5.toks) I5 hc hfn hs hv))
end L2.Sk
namespace L2.Sk
open PySem PySem.Spec PyProof.Rows PySem.W
def bmV:List Value:=[.type "ValueError",.type "Exception",.type "BaseException",.type "object"]
def qbW (K:Fr0) (C S:Addr):Bool:=match K.lookup C with
 |some ⟨_,_,.cls cd,_⟩=>cd.mro.contains (.ref S)
 |_=>false
theorem qdq {K:Fr0} {h:Heap} {C S:Addr} (X:K.In h) (q:excIn K C bmV "ValueError.__new__"=true) (hs:qbW K C S=true):∃bm,XC h C bm/\(yam C::bm).contains (.ref S)=true:=by
 unfold excIn at q
 split at q
 ·rename_i dd cd sl ho
  split at q
  ·rename_i C' bm k0 k1 k2 k3 n k5 hm hl
   simp only[yad,beq_iff_eq,yaT]at q
   obtain⟨⟨⟨⟨⟨e1,e2⟩,hdel⟩,ht⟩,hok⟩,hni⟩:=q
   subst e1 e2
   unfold qbW at hs
   rw[ho]at hs
   dsimp only at hs
   rw[hm]at hs
   obtain⟨nm,bs,mro,ns,qn,hd,sn,sub,ab,col,del⟩:=cd
   dsimp only at hm hdel hok hni
   subst hm hdel
   have hz:sl = #[k0,k1,k2,k3,some (.builtin _),k5]:=Array.toList_inj.mp hl
   subst hz
   have hT:=tail_of_in X ht
   refine⟨bm,⟨hT.hasType (by decide +kernel),nm,qn,ns,bs,hd,sn,sub,ab,col,dd,k0,k1,k2,k3,k5,_,"ValueError.__init__","ValueError",bmV,_,X _ _ ho,.of_isNs (isNs_of_in X hok),nsMap_none_of_in X hok hni,hT,yck⟩,hs⟩
  ·cases q
 ·cases q
def vm (K:Fr0) (C:Addr) (bmB:List Value) (newId:String):Bool:=match K.lookup C with
 |some ⟨.type "type",_,.cls cd,sl⟩=>(match cd.mro,sl.toList with
  |.ref C'::bm,[_,_,_,_,some (.builtin n),_]=>C'==C&&n==newId && !cd.hasDel&&tailIn K bmB bm&&nsOkIn K cd.ns
  |_,_=>false)
 |_=>false
theorem qjG {K:Fr0} {C:Addr} {bmB:List Value} {newId:String} (q:excIn K C bmB newId=true):vm K C bmB newId=true:=by
 unfold excIn at q
 unfold vm
 split at q
 ·rename_i dd cd sl ho
  simp only[ho]
  split at q
  ·rename_i C' bm k0 k1 k2 k3 n k5 hm hl
   simp only[hm,hl]
   simp only[yad]at q |-
   exact q.1
  ·cases q
 ·cases q
theorem qfK {K:Fr0} {h:Heap} {C S:Addr} (X:K.In h) (q:vm K C bmV "ValueError.__new__"=true) (hs:qbW K C S=true):∃bm,XC0 h C bm/\(yam C::bm).contains (.ref S)=true:=by
 unfold vm at q
 split at q
 ·rename_i dd cd sl ho
  split at q
  ·rename_i C' bm k0 k1 k2 k3 n k5 hm hl
   simp only[yad,beq_iff_eq,yaT]at q
   obtain⟨⟨⟨⟨e1,e2⟩,hdel⟩,ht⟩,hok⟩:=q
   subst e1 e2
   unfold qbW at hs
   rw[ho]at hs
   dsimp only at hs
   rw[hm]at hs
   obtain⟨nm,bs,mro,ns,qn,hd,sn,sub,ab,col,del⟩:=cd
   dsimp only at hm hdel hok
   subst hm hdel
   have hz:sl = #[k0,k1,k2,k3,some (.builtin _),k5]:=Array.toList_inj.mp hl
   subst hz
   have hT:=tail_of_in X ht
   exact⟨bm,⟨hT.hasType (by decide +kernel),nm,qn,ns,bs,hd,sn,sub,ab,col,dd,k0,k1,k2,k3,k5,_,X _ _ ho⟩,hs⟩
  ·cases q
 ·cases q
def qjH (K:Fr0) (D:Addr):Bool :=
 findIn K (.ref D) "__getattribute__"==some (some (.builtin "BaseException.__getattribute__"))&&findIn K (.ref D) "__getattr__"==some none &&
 findIn K (.ref D) "__class__"==some (some (.builtin "object.__class__"))&&mroIn K D (.type "object")==some true&&subIn K (.ref D) (.type "BaseException")==some true&&(clsIn K D).isSome &&
 (["int","bool","str","tuple","list","dict"].all λT=>kitOne K (.ref D) (.type T)==some false)
theorem ql2 {K:Fr0} {D:Addr} (h:qjH K D=true):XK6 K D:=by
 unfold qjH at h
 simp only[yad,beq_iff_eq]at h
 obtain⟨⟨⟨⟨⟨⟨h1,h2⟩,h3⟩,h4⟩,h5⟩,h6⟩,h7⟩:=h
 exact⟨h1,h2,h3,h4,h5,h6,λT hT=>by simpa using List.all_eq_true.mp h7 T hT⟩
def qbX(n m:Str):Bool:=n==m||m=="SackError"
def ql3 (K:Fr0) (S:Addr) (TN:List Str) (n:Str):Bool:=match jq K n with
 | some C=>(excIn K C bmV "ValueError.__new__"||n=="NoText"&&vm K C bmV "ValueError.__new__")&&qbW K C S&&qjH K C&&kitOne K (.ref C) (.type "ValueError")==some true &&
  TN.all λm=>match jq K m with
   |some Cm=>kitOne K (.ref C) (.ref Cm)==some (qbX n m)
   |none=>false
 |none=>false
def qnq (K:Fr0) (RN TN:List Str):Bool:=match jq K "SackError" with
 |some S=>excIn K S bmV "ValueError.__new__"&&qbW K S S&&RN.all (ql3 K S TN)
 |none=>false
structure XT (K:Fr0) (mg:Str->Option Value) (RN TN:List Str):Prop where
 all:qnq K RN TN=true
 mgc:∀n C,jq K n=some C->mg n=some (.ref C)
theorem qdr {K:Fr0} {h:Heap} {mg:Str->Option Value} (X:K.In h) (G:h.Ns yaf mg) (n:Str) (C:Addr) (e:jq K n=some C):mg n=some (.ref C):=by
 unfold jq at e
 split at e
 ·rename_i C' q
  cases e
  exact mg_of X G q
 ·cases e
section
variable{K:Fr0}{mg:Str->Option Value}{RN TN:List Str}
theorem XT.sup (t:XT K mg RN TN):∃S,jq K "SackError"=some S/\excIn K S bmV "ValueError.__new__"=true/\qbW K S S=true/\RN.all (ql3 K S TN)=true:=by
 have h:=t.all
 unfold qnq at h
 split at h
 ·rename_i S e
  simp only[yad]at h
  exact⟨S,e,h.1.1,h.1.2,h.2⟩
 ·cases h
theorem XT.row (t:XT K mg RN TN) {S:Addr} (hS:jq K "SackError"=some S) {n:Str} (hn:RN.contains n=true):ql3 K S TN n=true:=by
 obtain⟨S',e,_,_,h⟩:=t.sup
 rw[hS]at e
 cases e
 exact List.all_eq_true.mp h n (by simpa using hn)
theorem XT.cls (t:XT K mg RN TN) {n:Str} {C:Addr} (h:clR K RN n=some C):jq K n=some C/\∃S,jq K "SackError"=some S/\(vm K C bmV "ValueError.__new__"=true/\(n≠"NoText"->excIn K C bmV "ValueError.__new__"=true))/\qbW K C S=true/\XK6 K C/\kitOne K (.ref C) (.type "ValueError")=some true /\
  ∀m∈TN,∃Cm,jq K m=some Cm/\kitOne K (.ref C) (.ref Cm)=some (qbX n m):=by
 unfold clR at h
 split at h
 ·rename_i hn
  obtain⟨S,hS,_⟩:=t.sup
  have r:=t.row hS hn
  unfold ql3 at r
  rw[h]at r
  simp only[yad,beq_iff_eq]at r
  obtain⟨⟨⟨⟨r1,r2⟩,r3⟩,r4⟩,r5⟩:=r
  have r1':vm K C bmV "ValueError.__new__"=true/\(n≠"NoText"->excIn K C bmV "ValueError.__new__"=true):=by
   rcases Bool.or_eq_true_iff.mp r1 with z|z
   ·exact⟨qjG z,λ_=>z⟩
   ·have z:=Bool.and_eq_true_iff.mp z
    exact⟨z.2,λy=>absurd (beq_iff_eq.mp z.1) y⟩
  refine⟨h,S,hS,r1',r2,ql2 r3,r4,λm hm=>?_⟩
  have:=List.all_eq_true.mp r5 m hm
  split at this
  ·rename_i Cm e
   exact⟨Cm,e,by simpa using this⟩
  ·cases this
 ·cases h
theorem XT.has (t:XT K mg RN TN) {n:Str} (hn:RN.contains n=true):∃C,clR K RN n=some C:=by
 obtain⟨S,hS,_⟩:=t.sup
 have r:=t.row hS hn
 unfold ql3 at r
 split at r
 ·rename_i C e
  exact⟨C,by unfold clR;rw[if_pos hn];exact e⟩
 ·cases r
theorem XT.ask (t:XT K mg RN TN) {n m:Str} (hn:RN.contains n=true) (hm:m∈TN):∃Cm,jq K m=some Cm:=by
 obtain⟨C,hC⟩:=t.has hn
 obtain⟨_,_,_,_,_,_,_,h⟩:=t.cls hC
 obtain⟨Cm,e,_⟩:=h m hm
 exact⟨Cm,e⟩
theorem XT.xcls (t:XT K mg RN TN) {base:Heap} (X:K.In base):∃S,mg "SackError"=some (.ref S)/\qnp K base RN S:=by
 obtain⟨S,hS,h1,h2,_⟩:=t.sup
 refine⟨S,t.mgc _ _ hS,⟨(qdq X h1 h2).imp λbm h=>h.1,λn C h=>?_,λn C h hn=>?_,λn C h=>?_⟩⟩
 ·obtain⟨_,S',hS',r1,r2,_⟩:=t.cls h
  rw[hS]at hS'
  cases hS'
  exact qfK X r1.1 r2
 ·obtain⟨_,S',hS',r1,r2,_⟩:=t.cls h
  exact(qdq X (r1.2 hn) r2).imp λ_ h=>h.1
 ·obtain⟨_,_,_,_,_,r,_⟩:=t.cls h
  exact r
end
theorem qg7:ye1 (.builtin "list.count")=pure (.type "method_descriptor"):=by kernel_rfl
theorem qg8:ye1 (.builtin "list.index")=pure (.type "method_descriptor"):=by kernel_rfl
def qec (RN:List Str) (m:Str) (f:M D):M D:=bnd f λd=>match d with
 |.exc n=>if RN.contains n then ret (.bl (m=="ValueError"||qbX n m))else λ_ => .bad
 |.exv n _=>if RN.contains n then ret (.bl (m=="ValueError"||qbX n m))else λ_ => .bad
 |_=>λ_ => .bad
section
variable{X:Cx}{c:Fc}{a b e:Expr}{pos:Pos}{RN TN:List Str}
def qn3(K:Fr0)(RN:List Str)(m:Str)(Cm:V):List V->Hp->VK->Prop:=λxs H Q=>∃v n A,xs=[v,Cm]/\RN.contains n=true/\Is K A H (.exc n) v/\Q (.bl (m=="ValueError"||qbX n m)) H
theorem qds {m:Str} {Cm:V} {um:Value} (hr:jh Cm um) (hu:∀u,jh Cm u->u=um) (hk:∀n C,jq X.K n=some C->RN.contains n=true->kitOne X.K (.ref C) um=some (m=="ValueError"||qbX n m)):jV X (.builtin "isinstance") (qn3 X.K RN m Cm):=by
 intro pins s σ H xs us Q I r h
 obtain⟨v,n,A,rfl,hn,hi,q⟩:=h
 obtain⟨u,w,rfl,r1,r2⟩:=zk.two r
 rw[hu w r2]
 obtain⟨z,rfl,C,hC,h1,h2⟩:=hi
 cases (show u=yam z from r1)
 exact vI I h1 h2 (hk n C hC hn) λtk=>⟨.bl _,H,I.tok tk,rfl,q⟩
theorem qfL {m:Str} {f:M D} {t:TE} {Cm:V} (w:∀Z σ H Q,Rep X.K c Z σ H->Wp X.K c σ H Q (f Z)->t σ H Q):∀Z σ H Q,Rep X.K c Z σ H->Wp X.K c σ H Q (qec RN m f Z)->tCB (qn3 X.K RN m Cm) (qiW t (qiW (tC Cm) qnS)) σ H Q:=λZ σ H Q r h=>w Z σ H _ r (Wp.bnd h λd Z1 v H1 r1 i1 g1 h1=>by
 cases d with
 | exc n=>
  dsimp only at h1
  by_cases hn:RN.contains n=true
  ·rw[if_pos hn]at h1
   exact⟨v,n,_,rfl,hn,i1,h1 _ H1 r1 rfl .refl⟩
  ·rw[if_neg hn]at h1
   exact h1.elim
 | exv n k=>
  dsimp only at h1
  by_cases hn:RN.contains n=true
  ·rw[if_pos hn]at h1
   obtain⟨a,rfl,xa⟩:=i1
   exact⟨_,n,λ_=>True,rfl,hn,⟨a,rfl,xa.xc⟩,h1 _ H1 r1 rfl .refl⟩
  ·rw[if_neg hn]at h1
   exact h1.elim
 |_=>exact h1.elim)
theorem qad {m:Str} {mgl:Str->Option Value} {p p2:Pos} {f:M D} (t:XT X.K X.mg RN TN) (hm:m∈TN) (hne:(m=="ValueError")=false) (hg:Gl X "isinstance") (hmi:X.mg "isinstance"=none) (hg2:Gl X m) (ha:DE X c a f)
  (hs:∃Cm,jq X.K m=some Cm)
  (hv:yay "isinstance"=some (.builtin "isinstance"):=by first|rfl|exact PySem.boot_isinstance) (hdb2:(m==("__debug__":Str))=false:=by decide)
  (he:yac [a,.Name m p2] X.env=(false,eval a X.env)::yac [.Name m p2] X.env:=by rfl) (hpl:(yaz pos (yac [.Name m p2] X.env)).any (·.1)=false:=by rfl):DE X c (.Call (.Name "isinstance" p) [a,.Name m p2] [] pos) (qec RN m f):=by
 obtain⟨ta,pa,w⟩:=ha
 obtain⟨Cm,hCm⟩:=hs
 refine⟨_,vc (qds (RN:=RN) (m:=m) (Cm:=.ref Cm) (um:=.ref Cm) rfl (λu h=>h) λn C hC hn=>?_) hg hmi hv (ja pa (ja (wH (v:=.ref Cm) hg2 (t.mgc m Cm hCm) rfl hdb2) uU (by rfl)) he) (by decide) (by decide) he hpl,qfL w⟩
 have hcl:clR X.K RN n=some C:=by unfold clR;rw[if_pos hn];exact hC
 obtain⟨_,_,_,_,_,_,_,h⟩:=t.cls hcl
 obtain⟨Cm',e1,e2⟩:=h m hm
 rw[hCm]at e1
 cases e1
 rw[e2,hne];rfl
theorem qjI {p p2:Pos} {f:M D} (t:XT X.K X.mg RN TN) (hg:Gl X "isinstance") (hmi:X.mg "isinstance"=none) (hg2:Gl X "ValueError") (hm2:X.mg "ValueError"=none) (ha:DE X c a f)
  (hv:yay "isinstance"=some (.builtin "isinstance"):=by first|rfl|exact PySem.boot_isinstance) (hv2:yay "ValueError"=some (.type "ValueError"):=by rfl)
  (he:yac [a,.Name "ValueError" p2] X.env=(false,eval a X.env)::yac [.Name "ValueError" p2] X.env:=by rfl) (hpl:(yaz pos (yac [.Name "ValueError" p2] X.env)).any (·.1)=false:=by rfl):DE X c (.Call (.Name "isinstance" p) [a,.Name "ValueError" p2] [] pos) (qec RN "ValueError" f):=by
 obtain⟨ta,pa,w⟩:=ha
 refine⟨_,vc (qds (RN:=RN) (m:="ValueError") (Cm:=.ty "ValueError") (um:=.type "ValueError") rfl (λu h=>h) λn C hC hn=>?_) hg hmi hv (ja pa (ja (qeB (v:=.ty "ValueError") hg2 hm2 hv2 rfl (by decide) (by decide)) uU (by rfl)) he) (by decide) (by decide) he hpl,qfL w⟩
 have hcl:clR X.K RN n=some C:=by unfold clR;rw[if_pos hn];exact hC
 obtain⟨_,_,_,_,_,_,h,_⟩:=t.cls hcl
 rw[h];rfl
end
section
variable{P:yai}{w:World}{K:yae}{mg:Str->Option Value}{base:Heap}
theorem qdt {x qual:Str} {st:Stmt} {f:Addr} {fd:yaD} {N ps:List Str} {k:Nat} {O:List Nat} {body:MS} (F:Fun K x qual st f fd) (S:qF N ps (qh st)) (hO:∀i∈O,ps.length<=i)
  (hb:∀(cdv:Value)(A:yaj)(outer:List yax)(s:yaa)(H:Hp)(E:XK)(B:Addr->Prop),yG k (A.deeper (yaW qual (qh st) s.heap.objs.size f cdv))->AloneA (A.deeper (yaW qual (qh st) s.heap.objs.size f cdv)) H ->
   DSs (qd9 CX0 P w K mg base N qual (qh st) f cdv A outer s H E).nox (cfn O [] B H (λ_=>False) (λ_ _=>False) λ_=>none) (qE st) body) :
  qbV P w K mg base CX0 (k+1) f fd ps (spD K (dfn N.length ps.length body)):=by
 obtain⟨oc,od,kV,doc,pm,an,cdv,ct,osl,rfl,lk,hcd⟩:=F.ex
 refine ql1 lk hcd S (λvs H Q E h=>?_) (λA outer s H vs Q E hr al h=>?_)
 ·obtain⟨ds,B,il,_,h⟩:=h
  unfold dfn at h
  by_cases e:ds.length=ps.length
  ·rw[il.length];exact e
  ·rw[if_neg e]at h;exact h.elim
 ·obtain ⟨ds,B,il,tb,h⟩:=h
  obtain⟨t,p,wt⟩:=hb cdv A outer s H E B hr al
  refine⟨t,p.nox,?_⟩
  unfold dfn at h
  by_cases e:ds.length=ps.length
  ·rw [if_pos e]at h
   refine wt (j9 N.length ds) (zV N vs) H _ (w5 il tb (λi hi=>by rw[e];exact hO i hi)) ?_
   have same:∀{Z:Env}{σ:St}{H':Hp},Rep K (cfn O [] B H (λ_=>False) (λ_ _=>False) λ_=>none) Z σ H'->zX H H':=λr b o hb=>r.kp b o hb λz=>z
   cases eb:body (j9 N.length ds) with
   |bad=>rw[eb]at h;exact h.elim
   |exc z Z=>rw[eb]at h;exact h.elim
   |ok fl=>
    rw[eb]at h
    cases fl with
    |nx Z=>exact λσ' H' r' _=>h .non H' (same r') rfl
    |rt d Z=>exact λv σ' H' r' i' _=>h v H' (same r') i'
    |bk Z=>exact h.elim
    |ct Z=>exact h.elim
  ·rw[if_neg e]at h;exact h.elim
structure qcA (P:yai) (w:World) (K:yae) (mg:Str->Option Value) (base:Heap) (k:Nat) (x:Str) (ps:List Str) (sp:Sp):Prop where
 ex:∃f fd,qbV P w K mg base CX0 k f fd ps sp/\mg x=some (.ref f)/\yal K (.ref f)=true/\yT K fd ps []
end
end L2.Sk
namespace L2.Sk
open PySem PySem.Spec PyProof.Rows
section
variable{Z:Env}{f g:M D}{l:M (List D)}{p q:MS}{RN:List Str}
theorem wC (F:List D->R D):ud RN F l Z=match l Z with|.ok (xs,Z1)=>(match F xs with|.ok d => .ok (d,Z1)|.exc x _=>(if RN.contains x.cls then .exc x Z1 else .bad)|.bad => .bad)|.exc x Z' => .exc x Z'|.bad => .bad:=by
 simp only[ud,bnd]
 cases l Z with
 |ok z=>obtain⟨z1,Z1⟩:=z;cases F z1<;>rfl
 |exc x Z'=>rfl
 |bad=>rfl
theorem qa4 (F:List D->R D):ue F l Z=match l Z with|.ok (xs,Z1)=>(match F xs with|.ok d => .ok (d,Z1)|_ => .bad)|.exc x Z' => .exc x Z'|.bad => .bad:=by
 simp only[ue,bnd]
 cases l Z with
 |ok z=>obtain⟨z1,Z1⟩:=z;cases F z1<;>rfl
 |exc x Z'=>rfl
 |bad=>rfl
theorem qdu(x:Str):qdm x l Z=match l Z with|.ok (ds,Z')=>(if qT ds.length then .exc ⟨x,.non⟩ Z' else .bad)|.exc z Z' => .exc z Z'|.bad => .bad:=rfl
theorem qim (m:Str):qec RN m f Z=match f Z with|.ok (.exc n,Z1)=>(if RN.contains n then .ok (.bl (m=="ValueError"||qbX n m),Z1)else .bad)|.ok (.exv n _,Z1)=>(if RN.contains n then .ok (.bl (m=="ValueError"||qbX n m),Z1)else .bad)|.ok _ => .bad|.exc x Z' => .exc x Z'|.bad => .bad:=by
 simp only[qec,bnd]
 cases f Z with
 |ok z=>
  obtain⟨z1,Z1⟩:=z
  cases z1<;>first|rfl|(dsimp only;split<;>rfl)
 |exc x Z'=>rfl
 |bad=>rfl
theorem qfM (F:D->List D->OD):qfH F f l Z=match f Z with
  |.ok (.lst ds,Z1)=>(match l Z1 with|.ok (ys,Z2)=>(match F (.lst ds) ys with|some d => .ok (d,Z2)|none => .bad)|.exc x Z' => .exc x Z'|.bad => .bad)
  |.ok _ => .bad|.exc x Z' => .exc x Z'|.bad => .bad:=by
 simp only[qfH,bnd]
 cases f Z with
 | ok z=>
  obtain⟨z1,Z1⟩:=z
  cases z1 with
  |lst ds=>
   show bnd l (λys=>lift (F (D.lst ds) ys)) Z1=(match l Z1 with|.ok (ys,Z2)=>(match F (.lst ds) ys with|some d => .ok (d,Z2)|none => .bad)|.exc x Z' => .exc x Z'|.bad => .bad)
   unfold bnd
   cases l Z1 with
   |ok z=>obtain⟨z2,Z2⟩:=z;(dsimp only;cases F (.lst ds) z2<;>rfl)
   |exc x Z'=>rfl
   |bad=>rfl
  |_=>rfl
 |exc x Z'=>rfl
 |bad=>rfl
end
theorem qjJ {n p:Nat} {body:MS} {ds:List D} {d:D} (h:ds.length=p) (e:∃Z,body (j9 n ds)=.ok (.rt d Z)):qbU n p body ds=.ok d:=by
 obtain⟨Z,e⟩:=e
 unfold qbU;rw[if_pos h,e]
theorem ql4 {n p:Nat} {body:MS} {ds:List D} (h:ds.length=p) (e:∃Z,body (j9 n ds)=.ok (.nx Z)):qbU n p body ds=.ok .non:=by
 obtain⟨Z,e⟩:=e
 unfold qbU;rw[if_pos h,e]
theorem qin {n p:Nat} {body:MS} {ds:List D} {x:Exn} {Z:Env} (h:ds.length=p) (e:body (j9 n ds)=.exc x Z):qbU n p body ds=.exc x Z:=by
 unfold qbU;rw[if_pos h,e]
theorem qfN{p q:MS}{Z Z':Env}{x:Exn}(h:p Z=.exc x Z'):qt p q Z=.exc x Z':=by unfold qt;rw[h]
def unO(_:Nat)(c:Fc):Fc:={c with O:=[],P:=[],B:=λ_=>True}
theorem Gr.unSame{c:Fc}{σ:St}{H H':Hp}{i:Nat}(g:Gr (unO i c).O σ H H'):zX H H':=λb o h=>g.ext.at_ b o (λj hj=>by cases hj) h
theorem Rep.un {K:Fr0} {c:Fc} {Z:Env} {σ:St} {H:Hp} {i:Nat} (r:Rep K c Z σ H) (_:i∈c.O) (hJ:c.J=[]):Rep K (unO i c) Z σ H:=by
 have all:∀b:Addr,Cn (unO i c) σ b:=λb=>⟨trivial,λj hj=>by cases hj⟩
 refine⟨r.len,λk d hk=>?_,λj hj=>(by cases hj),λk j a hk=>(by cases hk),⟨λ_ _=>trivial,r.b0.2⟩,r.kp,r.dm,λj hj=>(by cases hj),λj hj=>(by cases hj)⟩
 obtain⟨v,h1,h2⟩:=r.val k d hk
 refine⟨v,h1,.inr ⟨λz=>(by cases z),?_⟩⟩
 rcases h2 with⟨hk2,ds,a,xs,h3,h5,h6,h7⟩|⟨hk2,h3⟩
 ·subst h5
  obtain⟨t,xs⟩:=xs
  cases t with
  |d C dx l=>have:=h3.2.1;rw[hJ]at this;cases this
  |l=>
   cases (show d=.lst ds from h3)
   exact⟨a,xs,rfl,all a,h6,IsL.ext Ext.refl (λb _ _=>all b) h7⟩
 ·exact Is.ext Ext.refl (λb _ _=>all b) h3
theorem Gr.un{c:Fc}{σ:St}{H H':Hp}{i:Nat}(g:Gr (unO i c).O σ H H'):Gr c.O σ H H':=.of_same g.unSame
theorem Rep.re{K:Fr0}{c:Fc}{Z:Env}{σ:St}{H H':Hp}{i:Nat}(r:Rep K c Z σ H)(_:i∈c.O)(_:Rep K (unO i c) Z σ H')(g:Gr (unO i c).O σ H H'):Rep K c Z σ H':=r.same g.unSame
open Classical in
noncomputable def qcB (f:M D):M D:=λZ=>match f Z with
 |.ok (d,Z')=>if imm d=true/\Z'=Z then .ok (d,Z)else .bad
 |.exc x Z'=>if Z'=Z then .exc x Z else .bad
 |.bad => .bad
open Classical in
open Classical in
section
variable{X:Cx}{c:Fc}{e:Expr}{pos:Pos}
theorem qjK {i:Nat} {f:M D} (h:DE X (unO i c) e f) (ho:i∈c.O:=by exact of_decide_eq_true rfl) (hJ:c.J=[]:=by rfl):DE X c e (qcB f):=by
 obtain⟨t,p,w⟩:=h
 refine⟨t,p,λZ σ H Q r h=>w Z σ H Q (r.un ho hJ) ?_⟩
 unfold qcB at h
 cases ef:f Z with
 |bad=>rw[ef]at h;exact h.elim
 | exc x Z'=>
  rw[ef]at h
  simp only at h
  split at h
  ·rename_i e1
   subst e1
   exact λH' r' g'=>h H' (r.re ho r' g') g'.un
  ·exact h.elim
 | ok q=>
  obtain⟨d,Z'⟩:=q
  rw[ef]at h
  simp only at h
  split at h
  ·rename_i e1
   obtain⟨e1,e2⟩:=e1
   subst e2
   exact λv H' r' i' g'=>h v H' (r.re ho r' g') (Is.imm e1 i') g'.un
  ·exact h.elim
end
def qmT(K:Fr0)(neg:Bool):R2:=λx y H Q=>∃d e ds A,Is K A H d x/\Is K A H e y/\sqD e=some ds/\wA d=true/\wA e=true/\Q (.bl (if neg then !((toPDs ds).any λy=>yb0 y (zI d)) else(toPDs ds).any λy=>yb0 y (zI d))) H
def inA (x y:D):OD:=match sqD y with
 |some ds=>if wA x&&wA y then some (.bl ((toPDs ds).any λy=>yb0 y (zI x)))else none
 |none=>none
section
variable{X:Cx}
theorem qa5 {d:D} (h:wA d=true):(zI d).canLay0=true/\(zI d).depth<=50:=by
 unfold wA at h
 rw[yad,decide_eq_true_eq]at h
 exact h
theorem ql5 {k:Nat} (hr:yv k X.A):OpR X (yaM .In) (qmT X.K false):=by
 intro pins s σ H x y v u Q I rx ry h
 obtain⟨d,e,ds,A,h1,h2,es,o1,o2,q⟩:=h
 obtain⟨as,r1,_⟩:=jI I (v7 o1) h1 rx
 obtain⟨bs,r2,_⟩:=jI I (v7 o2) h2 ry
 have c1:=(qa5 o1).1
 have c2:=(qa5 o2).1
 have u1:=(qa5 o1).2
 have u:=hr.units
 cases e<;>simp only[sqD]at es<;>try (cases es;done)
 ·cases es
  exact SeqAt.in_tuple_reads r2 r1 (by simpa [zI,ybs] using c2) c1 (by omega) ⟨.bl _,H,I,rfl,by simpa using q⟩
 ·cases es
  exact SeqAt.in_list_reads r2 r1 (by simpa [zI,ybs] using c2) c1 (by omega) ⟨.bl _,H,I,rfl,by simpa using q⟩
end
theorem qjL {K:Fr0}:OpS K inA (qmT K false):=by
 intro A H x y d v u Q hn ix iy e k
 unfold inA at e
 split at e
 ·rename_i ds es
  obtain⟨e1,e2⟩:=zD e
  subst e2
  rw[yad]at e1
  exact⟨x,y,ds,A,ix,iy,es,e1.1,e1.2,k _ H (zX.refl H) rfl⟩
 ·cases e
def inB(x y:D):OD:=(inD x y).or (inA x y)
theorem ql6{X:Cx}{k:Nat}(hr:yv k X.A):OpR X (yaM .In) (λx y H Q=>rIn X.K false x y H Q\/qmT X.K false x y H Q):=OpR.or qeW (ql5 hr)
theorem qjM {K:Fr0}:OpS K inB (λx y H Q=>rIn K false x y H Q\/qmT K false x y H Q):=by
 intro A H x y d v u Q hn ix iy e k
 unfold inB at e
 cases e1:inD x y with
 |some b=>rw[e1]at e;exact .inl (qlZ A H x y d v u Q hn ix iy (by rw[e1];exact e) k)
 |none=>rw[e1]at e;exact .inr (qjL A H x y d v u Q hn ix iy e k)
theorem qdv {prog:yai} {w:World} {A:yaj} (hh:A.handled=none) (it tu:Addr) (hne:tu≠it) (arr:Array Value) :
  Draws prog w A it [it,tu] arr.size (λi x=>arr[i]? = some x) (λi h=>h.IsListIter it tu i/\h.IsList tu arr) where
 live:=λi h st=>by obtain⟨⟨o,e,_⟩,_⟩:=st;exact⟨o,e⟩
 frame:=λi h h' st k=>by
  obtain⟨h1,o,e,r⟩:=st
  exact⟨h1.at λo q=>k it (by simp) o q,o,k tu (by simp) o e,r⟩
 item:=λi s Q E hi st q=>wpAny_nextOf_list_item st.1 st.2 (Array.getElem?_eq_getElem hi) λh' h1 sb=>q _ h' s.toks (Array.getElem?_eq_getElem hi) ⟨h1,by
  obtain⟨o,e,r⟩:=st.2
  exact⟨o,sb.extBut _ _ hne e,r⟩⟩ sb
 done:=λs Q E st q=>wpAny_nextOf_list_end hh st.1 st.2 (Array.getElem?_eq_none (yah _)) q
section
variable{prog:yai}{w:World}{A:yaj}{E:Value->yaa->Prop}{s:yaa}
theorem qed {l:Addr} {xs:Array Value} {Q:Value->yaa->Prop} (t1:s.heap.IsList l xs)
  (fin:∀h',IsEnum h' (s.heap.objs.size+1) s.heap.objs.size 0 .none->h'.IsListIter s.heap.objs.size l 0->(∀c o,s.heap.get? c=some o->h'.get? c=some o)->Q (.ref (s.heap.objs.size+1)) {s with heap:=h' }) :
  wpAny (model prog w) A (call (.type "enumerate") [.ref l]) Q E s:=by
 have meets:Meets (yda.«enumerate.__new__» ⟨[.type "enumerate",.ref l],[]⟩) (λ_ R s=>s.heap.IsList l xs /\
   R (.ok (.ret (.ref (s.heap.objs.size+1)))) {s with heap:=(s.heap.push {cls:=.type "list_iterator",data:=.fields #[.ref l,.int 0 0]}).push {cls:=.type "enumerate",data:=.fields #[.none,.bool false,.ref s.heap.objs.size,ya7 0,.none,.none]} }) :=
  .of_wp λprog w A R s h=>by
   obtain⟨hp,g,d,tk,os⟩:=s
   obtain⟨ha,h⟩:=h
   have hsub:=sub_enumerate
   have hA:Heap.IsList (Shared.heap ⟨hp,g,d,tk,os⟩) l xs:=ha
   obtain⟨o,ho,_⟩:=id ha
   have ho':hp.get? l=some o:=ho
   wp_walk using yaQ ho'
   refine wpAny_stack_any λst=>yaq ?_
   split
   ·rename_i c _ _ _ _ _
    cases (c==ycz "enumerate")
    ·wp_walk using yaQ ho',yb3 hA
     simp only[ybt]at *
     exact⟨_,rfl,h⟩
    ·wp_walk using yaQ ho',yb3 hA
     simp only[ybt]at *
     exact⟨_,rfl,h⟩
   ·wp_walk using yaQ ho',yb3 hA
    simp only[ybt]at *
    exact⟨_,rfl,h⟩
 refine callType_new ye5 (by decide) (yec _) (yeq _) (λobj=>yeA obj _) yer meets ⟨t1,?_⟩
 generalize e1:s.heap.push {cls:=.type "list_iterator",data:=.fields #[.ref l,.int 0 0]}=m1
 have s1:m1.objs.size=s.heap.objs.size+1:=by rw[<-e1,ybt]
 have q1:m1.get? s.heap.objs.size=some {cls:=.type "list_iterator",data:=.fields #[.ref l,.int 0 0]}:=by rw[<-e1];exact Heap.get?_push_size _ rfl
 have k1:∀c o,s.heap.get? c=some o->m1.get? c=some o:=λc o x=>by rw[<-e1];exact Heap.get?_push_of_some _ x
 generalize e2:m1.push {cls:=.type "enumerate",data:=.fields #[.none,.bool false,.ref s.heap.objs.size,ya7 0,.none,.none]}=m2
 have q2:m2.get? (s.heap.objs.size+1)=some {cls:=.type "enumerate",data:=.fields #[.none,.bool false,.ref s.heap.objs.size,ya7 0,.none,.none]}:=by rw[<-e2,<-s1];exact Heap.get?_push_size _ rfl
 have k2:∀c o,m1.get? c=some o->m2.get? c=some o:=λc o x=>by rw[<-e2];exact Heap.get?_push_of_some _ x
 show _/\_
 exact⟨⟨_,q2,rfl⟩,fin m2 q2 ⟨_,k2 _ _ q1,rfl,rfl⟩ λc o x=>k2 _ _ (k1 _ _ x)⟩
end
def qnr (K:Fr0) (a:Addr) (xs:List V):It :=
 ⟨λi H=>i<xs.length/\SqL K H a xs,λi H x H'=>∃p u,H p=none/\xs[i]? = some u/\x=.ref p/\H'=upd H p (.tup [.int i,u]),λi H=>i=xs.length/\SqL K H a xs⟩
def qor(z i1 a1:Addr)(i:Nat)(h:Heap):Prop:=(∃old,IsEnum h z i1 i old)/\h.IsListIter i1 a1 i
theorem qee {P:yai} {w:World} {K:Fr0} {es:List Expr} {kk:Nat} {pos:Pos} {z i1 a1:Addr} {xs:List V} (zi:z≠i1) (za:z≠a1) (n1:a1≠i1) :
  qiR P w K (.Tuple es kk pos) (qnr K a1 xs) [z,i1] z (qor z i1 a1) where
 mem:=by simp
 obj:=λi h st b hb=>by
  obtain⟨⟨old,h1⟩,⟨o4,h4,c4,d4⟩⟩:=st
  simp only[yar,nN_,or_false]at hb
  rcases hb with rfl|rfl
  ·exact⟨_,h1,λv e=>by cases (show yd5 _=Data.cell v from e)⟩
  ·exact⟨_,h4,λv e=>by rw[d4]at e;cases e⟩
 keep:=λi h h' st k=>by
  obtain⟨⟨old,h1⟩,h4⟩:=st
  exact⟨⟨old,k z (by simp) _ h1⟩,h4.at λo e=>k i1 (by simp) o e⟩
 item:=by
  intro X hP hw hK hc i pins s σ H E I hf st hg
  subst hP hw hK
  obtain⟨hlt,hx⟩:=hg
  obtain⟨⟨old,h1⟩,h4⟩:=st
  obtain⟨it1,r1,p1,z1⟩:=I.list hx
  have l1:i<it1.toArray.size:=by rw[sT_,<-r1.length];omega
  have hh:X.A.in1.handled=none:=I.ok.hd hc
  refine ydU (qdv hh i1 a1 n1 it1.toArray) h1 ⟨h4,p1.isList⟩ l1 zi (by simp[zi,za]) λx h' tk px ho u1 new hsz kp=>?_
  refine⟨.ref s.heap.objs.size,rfl,ydu ho λh2' zz2 sb=>?_⟩
  obtain⟨xv,hxv⟩:∃v,xs[i]? = some v:=⟨xs[i]'(by omega),gG (by omega)⟩
  obtain⟨x',ex,rx⟩:=r1.get hxv
  have exx:x'=x:=by
   have:it1.toArray[i]? = some x:=px
   rw[List.getElem?_toArray,ex]at this
   exact yaA this
  subst exx
  have lz:z<s.heap.objs.size:=yag h1
  have keep:∀b u,b ∉ [z,i1]->s.heap.get? b=some u->h2'.get? b=some u:=λb u hb e=>by
   simp only[yar,nN_,or_false,not_or]at hb
   exact(sb.2 b hb.1).trans (kp b u hb.1 hb.2 e)
  have I2:Inv X pins σ (upd H s.heap.objs.size (.tup [.int i,xv])) {s with heap:=h2',toks:=tk+1} :=
   qfk I keep hf (yah _) ⟨by show 2<=yap;decide,[.int i tk,x'],.cons ⟨tk,rfl⟩ (.cons rx .nil),⟨_,(sb.2 _ (ybx lz)).trans new,rfl,_,rfl⟩⟩
  refine⟨.ref s.heap.objs.size,upd H s.heap.objs.size (.tup [.int i,xv]),I2,rfl,⟨s.heap.objs.size,xv,I.hok.fresh (yah _),hxv,rfl,rfl⟩,?_,λb hb=>?_⟩
  ·exact⟨⟨_,by simpa using zz2⟩,u1.1.at λo e=>(sb.2 i1 zi.symm).trans e⟩
  ·have hb1:b≠s.heap.objs.size:=by
    simp only[yar,nN_,or_false]at hb
    obtain⟨o4,g4,_⟩:=h4
    rcases hb with rfl|rfl
    ·exact yaw (yag h1)
    ·exact yaw (yag g4)
   rw[qu hb1]
   exact(hf b hb).1
 done:=by
  intro X hP hw hK hc i pins s σ H E I hf st hg
  subst hP hw hK
  obtain⟨hlt,hx⟩:=hg
  obtain⟨⟨old,h1⟩,h4⟩:=st
  obtain⟨it1,r1,p1,z1⟩:=I.list hx
  have hh:X.A.in1.handled=none:=I.ok.hd hc
  have e:i=it1.toArray.size:=by rw[sT_,<-r1.length];exact hlt
  subst e
  refine yed (qdv hh i1 a1 n1 it1.toArray) h1 ⟨h4,p1.isList⟩ λh' kp=>⟨rfl,qfl (t':=s.toks) I (λb u hb e=>?_) hf⟩
  simp only[yar,nN_,or_false,not_or]at hb
  exact kp b u hb.2 e
 self:=λA i s Q E st h=>by
  obtain⟨⟨old,h1⟩,_⟩:=st
  exact ycC h1 h
section
variable{X:Cx}{c:Fc}{a b e:Expr}{pos:Pos}{es:List Expr}{kk:Nat}{tp:Pos}
def ql7(K:Fr0)(ta:TA):TI:=λσ H R=>ta σ H λvs H1=>∃a1 xs,vs=[.ref a1]/\SqL K H1 a1 xs/\R (qnr K a1 xs) H1
theorem qg9 {ta:TA} {p:Pos} (hg:Gl X "enumerate") (hm:X.mg "enumerate"=none) (ha:PA X [a] ta) (hs:yac [a] X.env=[(false,eval a X.env)]:=by rfl) :
  PI X (.Tuple es kk tp) (.Call (.Name "enumerate" p) [a] [] pos) (ql7 X.K ta):=by
 intro pins s σ H R I h
 refine Call_ (wG I hg hm ydh (yba (thn (ha pos pins s σ H _ I h) λus s1 ⟨vs,H1,I1,r1,q1⟩=>?_) (by rw[hs];rfl) (by rfl)))
 obtain⟨a1,xs,e1,hx,q⟩:=q1
 subst e1
 obtain⟨u1,rfl,ru1⟩:=zk.one r1
 cases (show u1=yam a1 from ru1)
 obtain⟨it1,v1,p1,z1⟩:=I1.list hx
 refine qed (show s1.heap.IsList a1 it1.toArray from p1.isList) λh' zz g1 kp=>?_
 refine ycC zz ?_
 have la1:a1<s1.heap.objs.size:=by obtain⟨o,e,_⟩:=p1.isList;exact yag e
 refine⟨s1.heap.objs.size+1,[s1.heap.objs.size+1,s1.heap.objs.size],_,_,H1,rfl,I1.kept (t':=s1.toks) kp,qee (xs:=xs) (Nat.succ_ne_self _) (ybx (yfo la1)) (yaw la1),⟨⟨_,zz⟩,g1⟩,λb hb=>?_,q⟩
 simp only[yar,nN_,or_false]at hb
 have hb2:s1.heap.objs.size<=b:=by
  rcases hb with e|e<;>rw[e]
  ·exact Nat.le_add_right _ _
  ·exact yah _
 exact I1.fpOk hb2 (I1.hok.fresh hb2)
end
section
variable{X:Cx}{c:Fc}{a b e:Expr}{pos:Pos}{es:List Expr}{kk:Nat}{tp:Pos}
theorem qha {K:Fr0} {A:Addr->Prop} {H:Hp} {ds:List D} {xs:List V} {a1:Addr} (hA:A a1) (t1:H a1=some (.lst xs)) (i1:IsL K A H ds xs):qgr K A H (jt 0 ds) (qnr K a1 xs) where
 go:=λH' i d ex hd=>by
  have hl:i<(jt 0 ds).length:=(gI_.mp hd).1
  rw[ur,<-i1.length]at hl
  exact⟨hl,SqL.of (ex.at_ _ _ hA t1)⟩
 yl:=λH' i d x H'' ex hd y=>by
  obtain⟨p,u,hp,hu,rfl,rfl⟩:=y
  obtain⟨dx,h1,rfl⟩:=w9 hd
  obtain⟨u',g1,g2⟩:=i1.get h1
  rw[hu]at g1
  cases g1
  have sm:=qw hp (.tup [.int i,u])
  exact⟨sm,p,[.int i,u],rfl,.inl qm,.int i,[u],rfl,by rw[ye6];rfl,u,[],rfl,Is.ext (Ext.of_same sm) (λ_ h _=>h) (Is.ext ex (λ_ h _=>h) g2),rfl⟩
 stop:=λH' ex=>⟨by rw[ur,i1.length],SqL.of (ex.at_ _ _ hA t1)⟩
def qio:List D->Option (List D)
 | [.lst xs]=>some (jt 0 xs)
 |_=>none
def qdw(f:M (List D)):M (List D):=bnd f λds=>lift (qio ds)
theorem qhb {f:M (List D)} {p:Pos} (hg:Gl X "enumerate") (hm:X.mg "enumerate"=none) (ha:DA X c [a] f) (hs:yac [a] X.env=[(false,eval a X.env)]:=by rfl) :
  DI X c (.Tuple es kk tp) (.Call (.Name "enumerate" p) [a] [] pos) (qdw f):=by
 obtain⟨t,pa,w⟩:=ha
 refine⟨_,qg9 hg hm pa hs,λZ σ H Q r h=>w Z σ H _ r (WpL.bndI h λds Z1 vs H1 r1 i1 g1 h1=>?_)⟩
 obtain⟨es',e,h2⟩:=vf h1
 unfold qio at e
 split at e
 ·obtain⟨v,rfl,j1⟩:=IsL.inv1 i1
  cases e
  obtain⟨a1,xs,rfl,hA,t1,il1⟩:=Is.tr j1
  exact⟨a1,xs,rfl,SqL.of t1,h2 _ H1 r1 (qha hA t1 il1) .refl⟩
 ·cases e
end
theorem AloneA.rep {K:Fr0} {c:Fc} {A:yaj} (x:AloneA A c.H0) (hio:∀a,¬c.Io a) (Z:Env) (σ:St) (H:Hp) (r:Rep K c Z σ H):AloneA A H:=by
 obtain⟨e,oe,u,vs,h1,h2,h3⟩:=x
 exact⟨e,oe,u,vs,h1,r.kp _ _ h2 (hio e),h3⟩
end L2.Sk
namespace L2
open PySem PySem.Spec PyProof.Rows L2.Sk
end L2
namespace L2.Sk
open PySem PySem.Spec PyProof.Rows
theorem yG.units{k:Nat}{A:yaj}(r:yG k A):A.units+64<cLine:=by have:=r.un;omega
section
variable{X:Cx}{c:Fc}{e:Expr}{es:List Expr}{pos:Pos}
theorem qjN {k:Nat} (hr:yG k X.A):OpR X (yaM .Eq) (qgs X.K false):=by
 intro pins s σ H x y v u Q I rx ry h
 obtain⟨d,e,A,h1,h2,o1,o2,q⟩:=h
 obtain⟨as,r1,_⟩:=jI I (v7 o1) h1 rx
 obtain⟨bs,r2,_⟩:=jI I (v7 o2) h2 ry
 exact yeb r1 r2 (vL o1) (vL o2) (yG.units hr) ⟨.bl _,H,I,rfl,by simpa using q⟩
theorem qns{K:Fr0}{A:yaj}{e:Addr}{H6:Hp}(al:AloneA (A.mark (some (.ref e))) H6):∀Z σ H,Rep K (ch H6) Z σ H->AloneA (A.mark (some (.ref e))) H:=Sk.AloneA.rep (c:=ch H6) al (λ_ z=>z)
theorem qjO{k:Nat}{A:yaj}{e:Addr}(hr:yv k A):yG k (A.mark (some (.ref e))):=⟨hr.dp,hr.un,hr.gd⟩
theorem qjP{k:Nat}(hr:yG k X.A):OpR X (yaM .Eq) (λx y H Q=>rEq x y H Q\/qgs X.K false x y H Q):=OpR.or qlb (qjN hr)
theorem qhc {k:Nat} {f:Addr} {fd:yaD} {ps:List Str} {F:List D->R D} {x:Str} {p:Pos} {g:M (List D)} (hal:∀Z σ H,Rep X.K c Z σ H->AloneA X.A H)
  (G:qbV X.prog X.w X.K X.mg X.base CX0 k f fd ps (spD X.K F)) (hr:yG k X.A) (hg:Gl X x) (hm:X.mg x=some (.ref f)) (hk:yal X.K (.ref f)=true) (hb:yT X.K fd ps [])
  (ha:DA X c (e::es) g) (hd:(x==("__debug__":Str))=false:=by decide) (he:yac (e::es) X.env=(false,eval e X.env)::yac es X.env:=by rfl) (hpl:(yaz pos (yac es X.env)).any (·.1)=false:=by rfl):DE X c (.Call (.Name x p) (e::es) [] pos) (qf F g):=by
 obtain⟨t,pa,w⟩:=ha
 refine⟨_,qg4 (E:=λ_ _ _=>False) G hr hg hm hk hb .nil (λ_ _ _ _ _ _ _ z=>z.elim) pa hd he hpl,λZ σ H Q r h=>w Z σ H _ r (WpL.bnd h λds Z1 vs H1 r1 i1 g1 h1=>⟨hal _ _ _ r1,?_⟩)⟩
 rw[ya4]
 refine⟨ds,Cn c σ,i1,r1.tb,?_⟩
 cases ef:F ds with
 |bad=>simp only[ef]at h1;exact h1.elim
 |exc z Z'=>simp only[ef]at h1;exact h1.elim
 |ok d=>
  simp only[ef]at h1
  exact λv H' sm i=>h1 v H' (r1.same sm) (Is.ext Ext.refl (λa ha _=>ha.elim id r1.new) i) (.of_same sm)
end
def qos (xs zs:List D):OD:=match xs,zs with
 | [.lst ds],[z]=>(qlE ds).map λns=>if ns=[]then z else .int (qn2 ns)
 |_,_=>none
def slB (x:D) (lo hi:Option Int):OD:=match x with
 |.tup ds=>some (.tup (qfa ds lo hi))
 |.lst ds=>some (.lst (qfa ds lo hi))
 |_=>none
def uL(f:M D)(g k:M (Option Int)):M D:=bnd f λd=>bnd g λl=>bnd k λu=>lift (slB d l u)
section
variable{X:Cx}{c:Fc}{a b e:Expr}{pos p2:Pos}
theorem jQ {lo hi:Option Expr} {f:M D} {g k:M (Option Int)} (ha:DE X c a f) (hl:DO X c lo g) (hu:DO X c hi k):DE X c (.Subscript a (.Slice lo hi none p2) pos) (uL f g k):=by
 obtain⟨ta,pa,wa⟩:=ha
 obtain⟨tl,pl,wl⟩:=hl
 obtain⟨tu,pu,wu⟩:=hu
 refine⟨_,qcX (SlR.or qlG qi1) pa pl pu,λZ σ H Q r h=>wa Z σ H _ r (Wp.bnd h λd Z1 v H1 r1 i1 g1 h1=>?_)⟩
 refine wl Z1 σ H1 _ r1 (λl Z2 e2 H2 r2 g2=>?_) (λx Z2 e2 H2 r2 g2=>?_) (λe2=>?_)
 ·rw [qcZ e2]at h1
  have h1:=h1.gr g2
  refine wu Z2 σ H2 _ r2 (λu Z3 e3 H3 r3 g3=>?_) (λx Z3 e3 H3 r3 g3=>?_) (λe3=>?_)
  ·rw [qcZ e3]at h1
   obtain⟨d',e4,h4⟩:=h1.lift
   have i3:=g3.is (g2.is i1)
   clear h1
   cases d<;>simp only[slB]at e4<;>try (cases e4;done)
   ·rename_i ds
    cases e4
    obtain⟨a,xs,rfl,ta,il⟩:=i3
    refine .inl ?_
    by_cases hw:HT.sIx xs.length 0 l=0/\HT.sIx xs.length xs.length u=xs.length
    ·refine .inl ⟨a,xs,rfl,ta.sq,hw,h4 _ H3 r3 ⟨a,xs,rfl,ta,?_⟩ g3⟩
     have e5:qfa ds l u=ds:=by
      unfold qfa
      rw[<-il.length,hw.1,hw.2]
      simp[il.length]
     rw[e5];exact il
    ·refine .inr ⟨a,xs,rfl,ta.sq,hw,λp hp=>h4 _ _ (r3.laid hp _) ⟨p,qgn xs l u,rfl,.inl qm,?_⟩ (g3.trans (.of_same (qw hp _)))⟩
     refine IsL.ext (Ext.of_same (qw hp _)) (λ_ h _=>h) ?_
     unfold qfa qgn
     rw[<-il.length]
     exact IsL.take _ (IsL.drop _ il)
   ·rename_i ds
    cases e4
    obtain⟨a,xs,rfl,hA,ta,il⟩:=i3
    refine .inr ⟨a,xs,rfl,.inl (.inl ta),λp hp=>h4 _ _ (r3.laid hp _) ⟨p,qgn xs l u,rfl,r3.new hp,qm,?_⟩ (g3.trans (.of_same (qw hp _)))⟩
    refine IsL.ext (Ext.of_same (qw hp _)) (λ_ h _=>h) ?_
    unfold qfa qgn
    rw[<-il.length]
    exact IsL.take _ (IsL.drop _ il)
  ·unfold bnd at h1;rw[e3]at h1;exact h1 H3 r3 g3
  ·unfold bnd at h1;rw[e3]at h1;exact h1
 ·unfold bnd at h1;rw[e2]at h1;exact h1 H2 r2 g2
 ·unfold bnd at h1;rw[e2]at h1;exact h1
theorem Wp.bndN {K:Fr0} {σ:St} {H:Hp} {Q:VK} {f:M D} {k:D->M (List D)} {Z:Env} {Q':VK} (h:WpN K c σ H Q (Sk.bnd f k Z)) (hQ:∀d Z' v H',Rep K c Z' σ H'->Is K (Cn c σ) H' d v->Gr c.O σ H H'->WpN K c σ H' Q (k d Z')->Q' v H'):Wp K c σ H Q' (f Z):=by
 unfold Sk.bnd at h
 cases e:f Z with
 |ok p=>rw[e]at h;exact λv H' hr hi hg=>hQ p.1 p.2 v H' hr hi hg (h.gr hg)
 |exc x Z'=>rw[e]at h;exact h
 |bad=>rw[e]at h;exact h
theorem qhd {K:Fr0} {σ:St} {H:Hp} {Q:VK} {o:Option (List D)} {Z:Env} (h:WpN K c σ H Q (lift o Z)):∃ds,o=some ds/\WpN K c σ H Q (.ok (ds,Z)):=by
 cases o with
 |none=>exact h.elim
 |some d=>exact⟨d,rfl,h⟩
def qcC (f:M D):M (List D):=bnd f λx=>lift (match x with
 |.lst ds=>if immL ds then some ds else none
 |.tup ds=>if immL ds then some ds else none
 |_=>none)
theorem qjQ {p:Pos} {f:M D} (hg:Gl X "list") (hm:X.mg "list"=none) (ha:DE X c a f) (hv:yay "list"=some (.type "list"):=by first|rfl|exact PySem.boot_list)
  (he:yac [a] X.env=(false,eval a X.env)::yac [] X.env:=by rfl) (hpl:(yaz pos (yac [] X.env)).any (·.1)=false:=by rfl):DN X c (.Call (.Name "list" p) [a] [] pos) (qcC f):=by
 obtain⟨ta,pa,wa⟩:=ha
 refine⟨_,wP qbz hg hm hv (ja pa uU he) (by decide) (by decide) he hpl,λZ σ H Q r h=>wa Z σ H _ r (Wp.bndN h λx Z1 v H1 r1 i1 g1 h1=>?_)⟩
 obtain⟨ds',e,h3⟩:=qhd h1
 split at e
 ·rename_i ds
  obtain⟨p,xs,rfl,hA,hp,il⟩:=i1
  split at e
  ·rename_i him
   cases e
   exact⟨p,xs,rfl,.inl (.inl (.inl hp)),λq hq=>h3 q _ _ hq (r1.laid hq _) (r1.apart hq) qm trivial (IsL.ext (Ext.of_same (qw hq _)) (λ_ h _=>h) (IsL.imm him il)) (.of_same (qw hq _))⟩
  ·cases e
 ·rename_i ds
  obtain⟨p,xs,rfl,hp,il⟩:=i1
  split at e
  ·rename_i him
   cases e
   exact⟨p,xs,rfl,.inr hp.sq,λq hq=>h3 q _ _ hq (r1.laid hq _) (r1.apart hq) qm trivial (IsL.ext (Ext.of_same (qw hq _)) (λ_ h _=>h) (IsL.imm him il)) (.of_same (qw hq _))⟩
  ·cases e
 ·cases e
theorem qhe {pins:List (Addr×Obj)} {σ:St} {H:Hp} {s:yaa} (I:Inv X pins σ H s) (j:Nat):Inv X pins (σ.set j none) H s:=by
 refine⟨I.ok,I.os,I.bare,I.base,?_,I.cell,I.free,I.freeC,I.pin,I.hok,by rw[lS_];exact I.len⟩
 obtain⟨m,hn,hl⟩:=I.loc
 refine⟨m,hn,λi x v e1 e2 e3=>?_⟩
 by_cases hij:j=i
 ·subst hij
  rw[List.getElem?_set]at e2
  simp only[if_true]at e2
  split at e2<;>cases e2
 ·rw[List.getElem?_set_ne hij]at e2
  exact hl i x v e1 e2 e3
theorem qnt {tg it:Expr} {f g h:M (List D)} (h1:DI X c tg it f) (h2:DI X c tg it g) (hh:∀Z,h Z=f Z\/h Z=g Z):DI X c tg it h:=by
 obtain⟨w1,p1,k1⟩:=h1
 obtain⟨w2,p2,k2⟩:=h2
 refine⟨λσ H R=>w1 σ H R\/w2 σ H R,λpins s σ H R I hw=>hw.elim (p1 pins s σ H R I) (p2 pins s σ H R I),λZ σ H Q r hw=>?_⟩
 rcases hh Z with e|e
 ·exact .inl (k1 Z σ H Q r (by rw[<-e];exact hw))
 ·exact .inr (k2 Z σ H Q r (by rw[<-e];exact hw))
def vn (f:M (List D)):M (List D):=λZ=>match f Z with
 |.ok ([.tup _],_)=>qgY f Z
 |_=>qdw f Z
theorem qdx {es:List Expr} {kk:Nat} {tp p:Pos} {f:M (List D)} (hg:Gl X "enumerate") (hm:X.mg "enumerate"=none) (ha:DA X c [a] f) (hs:yac [a] X.env=[(false,eval a X.env)]:=by rfl) :
  DI X c (.Tuple es kk tp) (.Call (.Name "enumerate" p) [a] [] pos) (vn f):=qnt (qjD hg hm ha hs) (qhb hg hm ha hs) (λZ=>by
 unfold vn
 split
 ·exact .inl rfl
 ·exact .inr rfl)
theorem qfO {body:List Stmt} {t:M Bool} {b:MS} (N:Nat) (hp:ycP (model X.prog X.w) X.A X.env X.xe) (ht:DT X c e t) (hb:DSs X c body b):DS X c (.While e body [] pos) (ut t b N):=by
 obtain⟨t',p,w⟩:=qgZ (pos:=pos) hp ht hb
 refine⟨t',p,λZ σ H D r h=>w Z σ H D r ?_⟩
 by_cases hbad:ut t b N Z=.bad
 ·rw[hbad]at h;exact h.elim
 ·rw[qfA rfl hbad];exact h
end
section
variable{X:Cx}{c:Fc}{e:Expr}{es:List Expr}{pos:Pos}
theorem dC {k j:Nat} {ps:List Str} {F:List D->R D} {x:Str} {p:Pos} {g:M (List D)} (C:zP X.prog X.w X.K X.mg X.base k x ps (spD X.K F)) (hr:yv j X.A) (ha:DA X c (e::es) g)
  (hk:k<=j:=by decide) (hg:Gl X x:=by rfl) (hd:(x==("__debug__":Str))=false:=by decide) (he:yac (e::es) X.env=(false,eval e X.env)::yac es X.env:=by rfl) (hpl:(yaz pos (yac es X.env)).any (·.1)=false:=by rfl):DE X c (.Call (.Name x p) (e::es) [] pos) (qf F g):=by
 obtain⟨f,fd,G,m,kk,b⟩:=C.ex
 exact qjk G (hr.mono hk) hg m kk b ha hd he hpl
theorem nC {k j:Nat} {ps:List Str} {F:List D->R D} {x:Str} {p:Pos} {g:M (List D)} (C:zP X.prog X.w X.K X.mg X.base k x ps (spD X.K F)) (hr:yv j X.A) (ha:DA X c (e::es) g)
  (hk:k<=j:=by decide) (hg:Gl X x:=by rfl) (hd:(x==("__debug__":Str))=false:=by decide) (he:yac (e::es) X.env=(false,eval e X.env)::yac es X.env:=by rfl) (hpl:(yaz pos (yac es X.env)).any (·.1)=false:=by rfl):DN X c (.Call (.Name x p) (e::es) [] pos) (qbO F g):=by
 obtain⟨f,fd,G,m,kk,b⟩:=C.ex
 exact qjv G (hr.mono hk) hg m kk b ha hd he hpl
theorem iC {k j i:Nat} {ps:List Str} {F:List D->List D->R (D×List D)} {x y:Str} {p p1:Pos} {g:M (List D)} (C:zP X.prog X.w X.K X.mg X.base k x ps (qdd X.K F)) (hr:yv j X.A) (ha:DA X c es g)
  (hk:k<=j:=by decide) (hg:Gl X x:=by rfl) (ho:i∈c.O:=by exact of_decide_eq_true rfl) (hN:X.N[i]? = some y:=by rfl) (hv:Vis X.env.scope y:=by first|exact ya0 rfl|exact yaJ (ya0 rfl)|exact yaJ (yaJ rfl)) (hdy:(y==("__debug__":Str))=false:=by decide) (hcd:(y==("__classdict__":Str))=false:=by decide)
  (hd:(x==("__debug__":Str))=false:=by decide) (he:yac (.Name y p1::es) X.env=(false,eval (.Name y p1) X.env)::yac es X.env:=by rfl) (hpl:(yaz pos (yac es X.env)).any (·.1)=false:=by rfl):DE X c (.Call (.Name x p) (.Name y p1::es) [] pos) (qo F i g):=by
 obtain⟨f,fd,G,m,kk,b⟩:=C.ex
 exact qfi G (hr.mono hk) hg m kk b ha ho hN hv hdy hcd hd he hpl
theorem xC {k j:Nat} {ps:List Str} {F:List D->R D} {x:Str} {p:Pos} {g:M (List D)} {E:XK} {cl:Str->Option Addr} {RN:List Str} (L:XL2 X c cl E) (hcl:∀n,RN.contains n=true->(cl n).isSome=true) (C:qac X.prog X.w X.K X.mg X.base k x ps (spX X.K cl F)) (hr:yv j X.A) (ha:DA X c (e::es) g)
  (hk:k<=j:=by decide) (hg:Gl X x:=by rfl) (hd:(x==("__debug__":Str))=false:=by decide) (he:yac (e::es) X.env=(false,eval e X.env)::yac es X.env:=by rfl) (hpl:(yaz pos (yac es X.env)).any (·.1)=false:=by rfl):DE X c (.Call (.Name x p) (e::es) [] pos) (ud RN F g):=by
 obtain⟨f,fd,G,m,kk,b⟩:=C.ex
 exact qg2 L hcl G (hr.mono hk) hg m kk b ha hd he hpl
theorem pC {k j:Nat} {ps:List Str} {F:List D->R D} {x:Str} {p:Pos} {g:M (List D)} {cl:Str->Option Addr} (C:qac X.prog X.w X.K X.mg X.base k x ps (spX X.K cl F)) (hr:yv j X.A) (ha:DA X c (e::es) g)
  (hk:k<=j:=by decide) (hg:Gl X x:=by rfl) (hd:(x==("__debug__":Str))=false:=by decide) (he:yac (e::es) X.env=(false,eval e X.env)::yac es X.env:=by rfl) (hpl:(yaz pos (yac es X.env)).any (·.1)=false:=by rfl):DE X c (.Call (.Name x p) (e::es) [] pos) (ue F g):=by
 obtain⟨f,fd,G,m,kk,b⟩:=C.ex
 exact qg3 G (hr.mono hk) hg m kk b ha hd he hpl
theorem lC {k j:Nat} {ps:List Str} {F:List D->R D} {x:Str} {p:Pos} {g:M (List D)} (hal:∀Z σ H,Rep X.K c Z σ H->AloneA X.A H) (C:qcA X.prog X.w X.K X.mg X.base k x ps (spD X.K F)) (hr:yG j X.A) (ha:DA X c (e::es) g)
  (hk:k<=j:=by decide) (hg:Gl X x:=by rfl) (hd:(x==("__debug__":Str))=false:=by decide) (he:yac (e::es) X.env=(false,eval e X.env)::yac es X.env:=by rfl) (hpl:(yaz pos (yac es X.env)).any (·.1)=false:=by rfl):DE X c (.Call (.Name x p) (e::es) [] pos) (qf F g):=by
 obtain⟨f,fd,G,m,kk,b⟩:=C.ex
 exact qhc hal G (hr.mono hk) hg m kk b ha hd he hpl
theorem gI {x:Str} {i:Int} (h:∃t,X.mg x=some (.int i t)) (hg:Gl X x:=by rfl) (hd:(x==("__debug__":Str))=false:=by decide):DE X c (.Name x pos) (ret (.int i)):=by
 obtain⟨t,h⟩:=h
 exact qe1 (v:=.int i) (d:=.int i) hg h ⟨_,rfl⟩ (λ_ _=>rfl) hd
theorem gS {x y:Str} (h:∃t,X.mg x=some (.str y t)) (hg:Gl X x:=by rfl) (hd:(x==("__debug__":Str))=false:=by decide):DE X c (.Name x pos) (ret (.str y)):=by
 obtain⟨t,h⟩:=h
 exact qe1 (v:=.str y) (d:=.str y) hg h ⟨_,rfl⟩ (λ_ _=>rfl) hd
end
theorem nd(N:List Str)(h:N.Nodup:=by decide +kernel):N.Nodup:=h
theorem cs {X:Cx} (N N':List Str) (nt:Nat) (fr:List Nat) (outer:Scope) {scope:Scope} (h0:scope.kind=.function:=by rfl) (h1:∀y∈scope.names,y.2 ≠ .cell:=by decide +kernel) (h2:∀y∈scope.names,y.2=.local->scope.names.lookup y.1=some .local:=by decide +kernel)
  (h3:∀y∈scope.names,y.2=.free->outer.names.lookup y.1=some .cell:=by decide +kernel) (h4:N'.length=nt+fr.length:=by rfl) (h5:∀p∈fr.zipIdx,N'[nt+p.2]? = N[p.1]? /\ ((N[p.1]?).bind λx=>scope.names.lookup x)=some .free:=by decide +kernel)
  (h6:X.env.scope=outer:=by rfl) (h7:X.N=N:=by rfl):uk X scope N' nt fr:=qjw.ok (outer:=outer) (N:=N) ⟨h0,h1,h2,h3,h4,h5⟩ h6 h7
theorem f0{c:Fc}{nt:Nat}(fr O:List Nat)(e:c.O=O:=by rfl)(h:∀j∈fr,j ∉ O:=by decide):qkJ c nt fr none:=λj hj=>by rw[e];exact h j hj
theorem f1 {c:Fc} (nt:Nat) (fr O:List Nat) (i j:Nat) (e:c.O=O:=by rfl) (h1:j∈O:=by decide) (h2:nt<=i:=by decide) (h3:fr[i-nt]? = some j:=by rfl) (h4:∀p∈fr.zipIdx,nt+p.2≠i->p.1 ∉ O:=by decide):qkJ c nt fr (some (i,j)) :=
 qjx (by rw[e];exact h1) h2 h3 (by rw[e];exact h4)
def qjR(c:Fc)(i:Nat):Fc:={c with O:=i::c.O}
theorem vo {α:Type} {l:List (Option α)} {i j:Nat} {a:α} (h:(l.set i none)[j]? = some (some a)):j≠i/\l[j]? = some (some a):=by
 by_cases e:j=i
 ·subst e
  rw[List.getElem?_set]at h
  simp only[if_true]at h
  split at h<;>cases h
 ·exact⟨e,by rw[List.getElem?_set_ne (yaU e)]at h;exact h⟩
theorem qdy {c:Fc} {i:Nat} {σ:St} {b:Addr} (h:Cl c.O σ b):Cl (qjR c i).O (σ.set i none) b:=λj hj e=>by
 obtain⟨ne,e⟩:=vo e
 exact h j ((List.mem_cons.mp hj).resolve_left ne) e
theorem Rep.into {K:Fr0} {c:Fc} {i:Nat} {Z:Env} {σ:St} {H:Hp} (r:Rep K c Z σ H) (hi:i ∉ c.O):Rep K (qjR c i) (Z.set i none) (σ.set i none) H where
 len:=by rw[lS_,lS_];exact r.len
 val:=λj d h=>by
  obtain⟨ne,h⟩:=vo h
  obtain⟨v,h1,h2⟩:=r.val j d h
  refine⟨v,by rw[List.getElem?_set_ne (yaU ne)];exact h1,?_⟩
  rcases h2 with⟨h3,ds,a,xs,g3,g5,g6,g7⟩|⟨h3,h4⟩
  ·exact .inl ⟨mM _ h3,ds,a,xs,g3,g5,g6,IsL.ext Ext.refl (λa ha _=>⟨ha.1,qdy ha.2⟩) g7⟩
  ·exact .inr ⟨λz=>(List.mem_cons.mp z).elim ne h3,Is.ext Ext.refl (λa ha _=>⟨ha.1,qdy ha.2⟩) h4⟩
 own:=λj hj v h=>by
  obtain⟨ne,h⟩:=vo h
  exact r.own j ((List.mem_cons.mp hj).resolve_left ne) v h
 inj:=λj k a hj hk h1 h2=>by
  obtain⟨n1,h1⟩:=vo h1
  obtain⟨n2,h2⟩:=vo h2
  exact r.inj j k a ((List.mem_cons.mp hj).resolve_left n1) ((List.mem_cons.mp hk).resolve_left n2) h1 h2
 b0:=r.b0
 kp:=r.kp
 dm:=r.dm
 pO:=λj hj=>mM _ (r.pO j hj)
 ps:=λj hj=>by
  have:j≠i:=λe=>hi (e▸r.pO j hj)
  rw[List.getElem?_set_ne (yaU this)];exact r.ps j hj
end L2.Sk
namespace L2.Sk
open PySem PySem.Spec PyProof.Rows
end L2.Sk
namespace HT
open PySem PySem.Spec PyProof.Rows
end HT
namespace L2
open PySem PySem.Spec PyProof.Rows
end L2
namespace L2.Sk
open PySem PySem.Spec PyProof.Rows
def qfP(i:Nat)(f:MS):MS:=λZ=>f (Z.set i none)
end L2.Sk
namespace L2
open PySem PySem.Spec PyProof.Rows
end L2
namespace L2.Srt
open PySem PySem.W PyProof.Rows
end L2.Srt
set_option maxHeartbeats 1000000
namespace L2
open PySem PySem.Spec PyProof.Rows
end L2
set_option maxHeartbeats 1000000
namespace L2
open PySem PySem.Spec PyProof.Rows
end L2
namespace L2.Sk
open PySem PySem.Spec PyProof.Rows
end L2.Sk
namespace L2
open PySem PySem.Spec PyProof.Rows
theorem walk_lam {l:yd3} {n k:Nat} {q:yai} {loose:List Str} {XP:(Str->Option Value)->Heap->Prop} {YP:World->Heap->Prop} {d:DefRec} {K:Params->yae} {CX:World->CXT} {sp:World->Sp} {x:Str}
  (hn:l.most=some n) (hn2:n<=yap) (hdf:d.params.defaults=[]) (hr:yv k ydK)
  (hY:∀(w:World)(h:Heap),YP w h->(K w.params).In h) {lm:World->Option (Addr×Addr×Pos×Str)}
  (hlm:∀(w:World)(mean:ExcName->Option Value)(mg mb:Str->Option Value)(h:Heap)(c Pt:Addr)(pos:Pos)(z:Str),Top q (PySem.W.looseW q loose) mean mg mb h->(K w.params).In h->lm w=some (c,Pt,pos,z) ->
   yen h c Pt/\h.get? Pt=some (yeo #[])/\(K w.params).lookup Pt=none)
  (F : ∀(w:World)(mg:Str->Option Value)(fa:Addr)(h:Heap),(K w.params).In h->h.Ns yaf mg->mg d.name=some (.ref fa) ->
   ∃ fd:yaD,(∀(s:yaa)(u:Value),ydJ s fd ⟨[u],[]⟩ [(x,u)]) /\
    ∀base:Heap,(K w.params).In base->base.Ns yaf mg->uY l.prog w (K w.params) mg base (CX w) k fa fd [x] (sp w))
  (hsp:∀(w:World)(H:Hp)(a:Addr)(ns:List Int),ns.length<=n->qmL H->(∀c Pt pos z,lm w=some (c,Pt,pos,z)->H Pt=some (.lam pos z))->SqL (K w.params) H a (ns.map V.int)->sp w [.ref a] H (λv _=>v=.bl true) λ_ _ _=>False)
  (hCX:∀(w:World)(H:Hp)(s:yaa)(e:Value)(s':yaa),CX w [] H s (λ_ _ _=>False) e s'->False) :
  PySem.W.WalkO q loose XP YP l.row.toRowW d [] (λf vs=>yfC f vs):=by
 refine Att.attach_call hn hdf λw s₀ sY mg mb fa o pm cd doc a vs ns G Y ho hd hcd hmg hobj hints hlen hg=>?_
 have KX:=hY w _ Y
 obtain⟨fd,hb,hF⟩:=F w mg fa _ KX G.T.g hmg
 exact qgH (lm:=lm w) KX G.T.g G.T.b G.T.builtins G.T.nolimit G.T.bmain (λc Pt pos z=>hlm w _ mg mb _ c Pt pos z G.T KX) hg hobj hints (yaH hlen hn2) hr hF hb (λH hO hT hS=>hsp w H a ns hlen hO hT hS) λH e s'=>hCX w H sY e s'
end L2
namespace L2.Sk
open PySem PySem.Spec PyProof.Rows
end L2.Sk
namespace L2.Sk
open PySem PySem.Spec PyProof.Rows
end L2.Sk
namespace L2
open PySem PySem.Spec PyProof.Rows
end L2
namespace L2.Sk
open PySem PySem.Spec PyProof.Rows
end L2.Sk
set_option maxHeartbeats 1000000
namespace L2
open PySem PySem.Spec PyProof.Rows
end L2
namespace L2
open PySem PySem.Spec PyProof.Rows
end L2
namespace L2.Sk
open PySem PySem.Spec PyProof.Rows
end L2.Sk
set_option maxHeartbeats 1000000
namespace L2.Sk
open PySem PySem.Spec PyProof.Rows
end L2.Sk
set_option maxHeartbeats 1000000
namespace L2
open PySem PySem.Spec PyProof.Rows
end L2
namespace L2.Sk
open PySem PySem.Spec PyProof.Rows
end L2.Sk
set_option maxHeartbeats 1000000
namespace L2.Sk
open PySem PySem.Spec PyProof.Rows
end L2.Sk
set_option maxHeartbeats 1000000
namespace L2.Sk
open PySem PySem.Spec PyProof.Rows
end L2.Sk
set_option maxHeartbeats 1000000
namespace L2.Sk
open PySem PySem.Spec PyProof.Rows
end L2.Sk
set_option maxHeartbeats 1000000
namespace L2.Sk
open PySem PySem.Spec PyProof.Rows
end L2.Sk
set_option maxHeartbeats 1000000
namespace L2.Sk
open PySem PySem.Spec PyProof.Rows
end L2.Sk
set_option maxHeartbeats 1000000
namespace L2.Sk
open PySem PySem.Spec PyProof.Rows
end L2.Sk
set_option maxHeartbeats 1000000
namespace L2.Sk
open PySem PySem.Spec PyProof.Rows
end L2.Sk
set_option maxHeartbeats 1000000
namespace L2.Sk
open PySem PySem.Spec PyProof.Rows
end L2.Sk
namespace L2
open PySem PySem.Spec PyProof.Rows
end L2
namespace L2
open PySem PySem.Spec PyProof.Rows
end L2
namespace L2.Sk
open PySem PySem.Spec PyProof.Rows
theorem qjS {K:Fr0} {A:Addr->Prop} {H:Hp} {x y:D} {v:V} (h:Is K A H (.tup [x,y]) v):∃l u w,v=.ref l/\SqT K H l [u,w]/\Is K A H x u/\Is K A H y w:=by
 obtain⟨l,xs,rfl,t,il⟩:=h
 obtain⟨u,ys,rfl,hu,il2⟩:=il
 obtain⟨w,zs,rfl,hw,il3⟩:=il2
 cases il3
 exact⟨l,u,w,rfl,t.sq,hu,hw⟩
def vP:List D->OD
 | [.int i]=>if decide (i.natAbs.log2<1920)then some (.str (yfx i))else none
 |_=>none
theorem vQ {K:Fr0}:vF K vP (λxs H Q=>∃i,xs=[.int i]/\i.natAbs.log2<1920/\Q (.str (yfx i)) H):=by
 intro A H xs d vs Q hn h e k
 unfold vP at e
 split at e
 ·rename_i i
  obtain⟨v,rfl,e2⟩:=IsL.inv1 h
  cases e2
  obtain⟨e6,e7⟩:=zD e
  subst e7
  exact⟨i,rfl,of_decide_eq_true e6,k _ H (zX.refl H) rfl⟩
 ·cases e
section
variable{X:Cx}{c:Fc}{e:Expr}{pos:Pos}
def qef (i j1 j2:Nat) (f:M D):MS:=sbnd f λd Z=>match d,zW i Z,Z[j1]?,Z[j2]? with
 |.tup [d1,d2],some ds,some (some (.int n1)),some (some (.int n2))=>(match ixN ds.length n1,ixN ds.length n2 with
  |some q1,some q2=>if(imm d1&&imm d2)=true then .ok (.nx (Z.set i (some (.lst ((ds.set q1 d1).set q2 d2)))))else .bad
  |_,_ => .bad)
 |_,_,_,_ => .bad
theorem qjT {i j1 j2:Nat} {x y1 y2:Str} {p1 p2 p3 p4 p5 p6 pt:Pos} {kt:Nat} {f:M D} (hc:X.calm=true) (he:DE X c e f) (ho:i∈c.O:=by exact of_decide_eq_true rfl) (o1:j1 ∉ c.O:=by exact of_decide_eq_false rfl) (o2:j2 ∉ c.O:=by exact of_decide_eq_false rfl)
  (hx:PE X (.Name x p1) (qgy i):=by exact pv _) (hx2:PE X (.Name x p4) (qgy i):=by exact pv _) (h1:PE X (.Name y1 p2) (qgy j1):=by exact pv _) (h2:PE X (.Name y2 p5) (qgy j2):=by exact pv _)
  (ha1:∀v,ycs (.Subscript (.Name x p1) (.Name y1 p2) p3) X.env v=(do
   let ov <-ybr [v] (eval (.Name x p1) X.env)
   let iv <-ybr [v,ov] (eval (.Name y1 p2) X.env)
   yc7 p3
   ybr [v,ov,iv] (yfd ov iv v)
   release [v,ov,iv] []):=by intro _;rfl)
  (ha2:∀v,ycs (.Subscript (.Name x p4) (.Name y2 p5) p6) X.env v=(do
   let ov <-ybr [v] (eval (.Name x p4) X.env)
   let iv <-ybr [v,ov] (eval (.Name y2 p5) X.env)
   yc7 p6
   ybr [v,ov,iv] (yfd ov iv v)
   release [v,ov,iv] []):=by intro _;rfl)
  (hs:yci [.Tuple [.Subscript (.Name x p1) (.Name y1 p2) p3,.Subscript (.Name x p4) (.Name y2 p5) p6] kt pt] e pos.line X.env=pure false:=by rfl) (hw:ycj [.Tuple [.Subscript (.Name x p1) (.Name y1 p2) p3,.Subscript (.Name x p4) (.Name y2 p5) p6] kt pt] e X.env=pure none:=by rfl)
  (hq:(ybd [.Tuple [.Subscript (.Name x p1) (.Name y1 p2) p3,.Subscript (.Name x p4) (.Name y2 p5) p6] kt pt] X.env).map (·.2)=[ycs (.Tuple [.Subscript (.Name x p1) (.Name y1 p2) p3,.Subscript (.Name x p4) (.Name y2 p5) p6] kt pt) X.env]:=by rfl) :
  DS X c (.Assign [.Tuple [.Subscript (.Name x p1) (.Name y1 p2) p3,.Subscript (.Name x p4) (.Name y2 p5) p6] kt pt] e pos) (qef i j1 j2 f):=by
 obtain⟨t,p,w⟩:=he
 refine⟨_,qeG p (qhP (n:=2) hc (qaL (qeF hx h1 qaM ha1) (qaL (qeF hx2 h2 qaM ha2) qeE))) hs hw hq,λZ σ H D r h=>w Z σ H _ r (Wp.sbnd h λd Z1 v H1 r1 i1 g1 z=>?_)⟩
 split at z
 ·rename_i d1 d2 ds n1 n2 e0 e1 e2
  split at z
  ·rename_i q1 q2 eq1 eq2
   by_cases hb:(imm d1&&imm d2)=true
   ·rw [if_pos hb]at z
    rw[yad]at hb
    obtain⟨a,u,v2,rfl,hq2,iu,iv⟩:=qjS i1
    obtain⟨l,xs,him,hl,hH,il⟩:=r1.getLO ho e0
    obtain⟨w1,hw1,iw1⟩:=r1.get o1 e1
    obtain⟨w2,hw2,iw2⟩:=r1.get o2 e2
    cases iw1
    cases iw2
    refine⟨a,[u,v2],rfl,hq2,rfl,u,[v2],rfl,.ref l,hl,.int n1,hw1,l,xs,n1,q1,rfl,rfl,hH,by rw[il.length];exact eq1,?_⟩
    have ext:Ext (Cn c σ) H1 (upd H1 l (.lst (xs.set q1 u))):=⟨λb us hb=>zd (vb hb hH (by intro z;cases z)) hb,λb o u hb=>zd (vb hb hH (by intro z;cases z)) hb,λb o hb hq=>zd (λe=>hb.2 i ho (by rw[hl,e])) hq⟩
    obtain ⟨r3,g3⟩:=r1.io (H':=upd H1 l (.lst (xs.set q1 u))) (bs:=ds.set q1 d1) ho hl (λb o hb ho=>zd hb ho) qm trivial
     (IsL.set (Is.ext ext (λ_ h _=>h) iu) q1 (IsL.ext ext (λ_ h _=>h) il)) (λb hb=>yo hb)
    have il3:IsL X.K (Cn c σ) (upd H1 l (.lst (xs.set q1 u))) (ds.set q1 d1) (xs.set q1 u):=IsL.set (Is.ext ext (λ_ h _=>h) iu) q1 (IsL.ext ext (λ_ h _=>h) il)
    have hH3:upd H1 l (.lst (xs.set q1 u)) l=some (.lst (xs.set q1 u)):=qm
    have ext2:Ext (Cn c σ) (upd H1 l (.lst (xs.set q1 u))) (upd (upd H1 l (.lst (xs.set q1 u))) l (.lst ((xs.set q1 u).set q2 v2))):=⟨λb us hb=>zd (vb hb hH3 (by intro z;cases z)) hb,λb o u hb=>zd (vb hb hH3 (by intro z;cases z)) hb,λb o hb hq=>zd (λe=>hb.2 i ho (by rw[hl,e])) hq⟩
    obtain ⟨r4,g4⟩:=r3.io (H':=upd (upd H1 l (.lst (xs.set q1 u))) l (.lst ((xs.set q1 u).set q2 v2))) (bs:=(ds.set q1 d1).set q2 d2) ho hl (λb o hb ho=>zd hb ho) qm trivial
     (IsL.set (Is.ext ext2 (λ_ h _=>h) (Is.ext ext (λ_ h _=>h) iv)) q2 (IsL.ext ext2 (λ_ h _=>h) il3)) (λb hb=>yo hb)
    refine⟨v2,[],rfl,.ref l,hl,.int n2,hw2,l,xs.set q1 u,n2,q2,rfl,rfl,hH3,by rw[lS_,il.length];exact eq2,rfl,?_⟩
    refine z σ _ ?_ (g3.trans g4).s
    rw[List.set_set]at r4
    exact r4
   ·rw[if_neg hb]at z;exact z.elim
  ·exact z.elim
 ·exact z.elim
end
end L2.Sk
set_option maxHeartbeats 1000000
namespace L2.St
open PySem
end L2.St
set_option maxHeartbeats 1000000
namespace L2.St
open PySem
end L2.St
set_option maxHeartbeats 3200000
namespace L2.St
open PySem
end L2.St
set_option maxHeartbeats 3200000
namespace L2.St
open PySem
end L2.St
set_option maxHeartbeats 3200000
namespace L2.St
open PySem
end L2.St
set_option maxHeartbeats 3200000
namespace L2.St
open PySem
end L2.St
set_option maxHeartbeats 3200000
namespace L2.St
open PySem
end L2.St
set_option maxHeartbeats 3200000
namespace L2.St
open PySem
end L2.St
set_option maxHeartbeats 3200000
namespace L2
open PySem PySem.Spec PyProof.Rows
end L2
namespace L2.Sk
open PySem PySem.Spec PyProof.Rows
end L2.Sk
set_option maxHeartbeats 1000000
namespace L2.Sk
open PySem PySem.Spec PyProof.Rows
end L2.Sk
set_option maxHeartbeats 1000000
namespace L2.Sk
open PySem PySem.Spec PyProof.Rows
def ixS:D->D->OD
 |.str z,.int i=>if qT z.length then(atI z.cps.toList i).map λc => .str ⟨#[c]⟩else none
 |_,_=>none
theorem qjU {K:Fr0}:OpS K ixS qmK:=by
 intro A H x y d v u Q hn ix iy e k
 unfold ixS at e
 split at e
 ·rename_i z i
  cases ix;cases iy
  by_cases h:qT z.length=true
  ·rw [if_pos h]at e
   cases e1:atI z.cps.toList i with
   |none=>rw[e1]at e;cases e
   |some c=>
    rw[e1]at e
    cases e
    exact⟨z,i,c,rfl,rfl,of_decide_eq_true h,e1,k _ H (zX.refl H) rfl⟩
  ·rw[if_neg h]at e;cases e
 ·cases e
def ixB(x y:D):OD:=(ixD x y).or (ixS x y)
theorem jb{X:Cx}:IxR X (λx y H Q=>(qlm X.K x y H Q\/qln X.K x y H Q)\/qmK x y H Q):=uo.or qlp
theorem qQ {K:Fr0}:OpS K ixB (λx y H Q=>(qlm K x y H Q\/qln K x y H Q)\/qmK x y H Q):=by
 intro A H x y d v u Q hn ix iy e k
 unfold ixB at e
 cases e1:ixD x y with
 |some b=>rw[e1]at e;exact .inl (uj A H x y d v u Q hn ix iy (by rw[e1];exact e) k)
 |none=>rw[e1]at e;exact .inr (qjU A H x y d v u Q hn ix iy e k)
def qkK(x y:Str):Bool := !(yaE y x 0 y.length 1).isEmpty
def inS:D->D->OD
 |.str x,.str y=>some (.bl (qkK x y))
 |_,_=>none
abbrev qot:R2:=λx y H Q=>∃i j,x=.str i/\y=.str j/\Q (.bl (!(yaE j i 0 j.length 1).isEmpty)) H
theorem qjV {K:Fr0}:OpS K inS qot:=by
 intro A H x y d v u Q hn ix iy e k
 unfold inS at e
 split at e
 ·rename_i i j
  cases ix;cases iy;cases e
  exact⟨i,j,rfl,rfl,k _ H (zX.refl H) rfl⟩
 ·cases e
def ya (x y:Str):List Str:=match yaE x y 0 x.length 1 with
 |i::_=>[ybz x 0 i,y,ybz x (i+y.length) x.length]
 | []=>[x,ybW,ybW]
def ql8:V->List V->Hp->VK->Prop:=λx vs H Q=>∃z y,x=.str z/\vs=[.str y]/\(y.length==0)=false/\z.length<=yap/\∀p,H p=none->Q (.ref p) (upd H p (.tup ((ya z y).map V.str)))
section
variable{X:Cx}
theorem qfQ:MtR X "str.partition" ql8:=by
 intro pins s σ H x vs v us Q I rx rv h
 obtain⟨z,y,rfl,rfl,hy,hz,q⟩:=h
 obtain⟨t,rfl⟩:=rx
 obtain⟨u,rfl,ru⟩:=zk.one rv
 obtain⟨t2,rfl⟩:=ru
 have hf:H s.heap.objs.size=none:=I.hok.fresh (yah _)
 refine ybi F.slot_str_partition (ybX _ _ _) F.entry_str_partition (F.args_str_partition_2 _ _) (meets_str_partition z y t t2 hy hz) ?_
 have key:∀(l:List Str)(its:List Value)(tk:Nat),ya z y=l->zk (l.map V.str) its->l.length<=3->EP X pins σ Q (.ref s.heap.objs.size) {s with toks:=tk,heap:=s.heap.push {cls:=.type "tuple",data:=.seq its.toArray} }:=λl its tk e r hl=>by
  subst e
  refine⟨.ref s.heap.objs.size,upd H s.heap.objs.size (.tup ((ya z y).map V.str)),I.laid (t':=tk) (λb u e=>Heap.get?_push_of_some _ e) (yah _) ?_,rfl,q _ hf⟩
  exact⟨by rw[lM_,ybh];omega,its,r,⟨_,Heap.get?_push_size _ rfl,rfl,_,rfl⟩⟩
 cases e:yaE z y 0 z.length 1 with
 |nil=>
  refine key [z,ybW,ybW] _ _ (by unfold ya;rw[e]) ?_ (by simp)
  exact .cons ⟨_,rfl⟩ (.cons ⟨_,rfl⟩ (.cons ⟨_,rfl⟩ .nil))
 |cons i l=>
  refine key _ _ _ (by unfold ya;rw[e]) ?_ (by simp)
  exact .cons ⟨_,rfl⟩ (.cons ⟨_,rfl⟩ (.cons ⟨_,rfl⟩ .nil))
end
end L2.Sk
set_option maxHeartbeats 1000000
namespace L2.Sk
open PySem PySem.Spec PyProof.Rows
def qip:V->List V->Hp->VK->Prop:=λx vs H Q=>∃z y,x=.str z/\vs=[.str y]/\(y.length==0)=false/\z.length<=yap/\(Txt.split z y).length<=yap/\∀p,H p=none->Q (.ref p) (upd H p (.lst ((Txt.split z y).map V.str)))
def ql9(K:yae):V->List V->Hp->VK->Prop:=λx vs H Q=>∃z a ws,x=.str z/\vs=[.ref a]/\SqL K H a (ws.map V.str)/\yb1 z ws=true/\Q (.str (Txt.join z ws)) H
theorem vals_strs:∀{ws:List Str}{its:List Value},zk (ws.map V.str) its->∃l:List (Str×Tok),ya5 l=its/\l.map (·.1)=ws
 | [],_,.nil=>⟨[],rfl,rfl⟩
 |w::ws,_,.cons r rs=>by
  obtain⟨t,rfl⟩:=r
  obtain⟨l,rfl,e⟩:=vals_strs rs
  exact⟨(w,t)::l,rfl,by rw[mC_,e]⟩
theorem qbY:∀l:List (Str×Tok),zk ((l.map (·.1)).map V.str) (ya5 l)
 | [] => .nil
 |(w,t)::l => .cons ⟨t,rfl⟩ (qbY l)
section
variable{X:Cx}
theorem vp:MtR X "str.split" qip:=by
 intro pins s σ H x vs v us Q I rx rv h
 obtain⟨z,y,rfl,rfl,hy,hz,hz2,q⟩:=h
 obtain⟨t,rfl⟩:=rx
 obtain⟨u,rfl,ru⟩:=zk.one rv
 obtain⟨t2,rfl⟩:=ru
 have hf:H s.heap.objs.size=none:=I.hok.fresh (yah _)
 have key:∀(l:List (Str×Tok))(tk:Nat),l.map (·.1)=Txt.split z y->EP X pins σ Q (.ref s.heap.objs.size) {s with toks:=tk,heap:=s.heap.push {cls:=.type "list",data:=.seq (ya5 l).toArray} }:=λl tk e=>by
  refine⟨.ref s.heap.objs.size,upd H s.heap.objs.size (.lst ((Txt.split z y).map V.str)),I.laid (t':=tk) (λb u e=>Heap.get?_push_of_some _ e) (yah _) ?_,rfl,q _ hf⟩
  exact⟨by rw[lM_];exact hz2,ya5 l,0,by rw[<-e];exact qbY l,Heap.get?_push_size _ rfl⟩
 cases h1:(decide (z.length<y.length)||decide (yeM z<yeM y)) with
 |true=>
  refine ybi ydQ (ybX _ _ _) ydA (ydj _ _) (meets_str_split_cannot_occur z y t t2 h1) ?_
  exact key [(z,t)] s.toks (by unfold Txt.split;rw[if_pos h1];rfl)
 | false=>
  cases h2:(yaE z y 0 z.length (z.length+1)).isEmpty with
  |true=>
   refine ybi ydQ (ybX _ _ _) ydA (ydj _ _) (meets_str_split_not_found z y t t2 h1 hy h2) ?_
   exact key [(z,t)] s.toks (by unfold Txt.split;rw[if_neg (by rw[h1];decide),if_pos h2];rfl)
  | false=>
   have e:Txt.split z y=Builtin.Str.partsBetween z (yaE z y 0 z.length (z.length+1)) y.length:=by
    unfold Txt.split;rw[if_neg (by rw[h1];decide),if_neg (by rw[h2];decide)]
   rw[e]at hz2
   refine ybi ydQ (ybX _ _ _) ydA (ydj _ _) (meets_str_split_sep z y t t2 h1 hy h2 hz hz2) ?_
   rw[<-e]at hz2 |-
   rw[strsFrom_eq]
   exact key _ _ (numbered_texts _ _)
theorem qa6:MtR X "str.join" (ql9 X.K):=by
 intro pins s σ H x vs v us Q I rx rv h
 obtain⟨z,a,ws,rfl,rfl,hx,ok,q⟩:=h
 obtain⟨t,rfl⟩:=rx
 obtain⟨u,rfl,ru⟩:=zk.one rv
 cases (show u=yam a from ru)
 obtain⟨its,r,pl,_⟩:=I.list hx
 obtain⟨l,rfl,e⟩:=vals_strs r
 exact SC.join (D:=a) (l:=l) pl.isList e ok λt' k=>⟨.str _,H,I.tok _,⟨t',rfl⟩,q⟩
end
def vq:List D->Option (List Str)
 | []=>some []
 |.str x::r=>(vq r).map (x::·)
 |_=>none
theorem qeg {d:D} {r:List D} {ws:List Str} (e:vq (d::r)=some ws):∃b rs,d=.str b/\vq r=some rs/\ws=b::rs:=by
 unfold vq at e
 split at e
 ·rename_i h;cases h
 ·rename_i b r' h
  cases h
  cases e1:vq r with
  |none=>rw[e1]at e;cases e
  |some rs=>rw[e1]at e;cases e;exact⟨b,rs,rfl,rfl,rfl⟩
 ·cases e
theorem vR {K:Fr0} {A:Addr->Prop} {H:Hp}:∀(ds:List D){xs:List V}{ws:List Str},IsL K A H ds xs->vq ds=some ws->xs=ws.map V.str
 | [],_,_,h,e=>by cases e;exact h
 |d::r,xs,ws,h,e=>by
  obtain⟨b,rs,rfl,e1,rfl⟩:=qeg e
  obtain⟨x,ys,hx,h1,h2⟩:=h
  have h1':x=V.str b:=h1
  rw[hx,h1',vR r h2 e1]
  rfl
theorem qa7 {K:Fr0} {A:Addr->Prop} {H:Hp}:∀ws:List Str,IsL K A H (ws.map D.str) (ws.map V.str)
 | []=>rfl
 |n::ns=>⟨.str n,_,rfl,rfl,qa7 ns⟩
def qcD:D->List D->OD
 |.str z,[.str y]=>if !(y.length==0)&&qT z.length then some (.tup ((ya z y).map D.str))else none
 |_,_=>none
def qO:D->List D->OD
 |.str z,[.str y]=>if !(y.length==0)&&qT z.length&&qT (Txt.split z y).length then some (.lst ((Txt.split z y).map D.str))else none
 |_,_=>none
def vt:D->List D->OD
 |.str z,[.lst ds]=>match vq ds with
  |some ws=>if yb1 z ws then some (.str (Txt.join z ws))else none
  |none=>none
 |_,_=>none
theorem qaG {K:Fr0}:qcw K qcD ql8:=by
 intro A H x ys d v vs Q hn ix iy e k
 unfold qcD at e
 split at e
 ·rename_i z y
  cases ix
  obtain⟨u,rfl,e2⟩:=IsL.inv1 iy
  cases e2
  split at e
  ·rename_i c
   cases e
   rw[yad,yaT]at c
   exact⟨z,y,rfl,rfl,c.1,of_decide_eq_true c.2,λp hp=>k _ _ (qw hp _) ⟨p,_,rfl,.inl qm,qa7 _⟩⟩
  ·cases e
 ·cases e
theorem yp {K:Fr0}:qcw K qO qip:=by
 intro A H x ys d v vs Q hn ix iy e k
 unfold qO at e
 split at e
 ·rename_i z y
  cases ix
  obtain⟨u,rfl,e2⟩:=IsL.inv1 iy
  cases e2
  split at e
  ·rename_i c
   cases e
   rw[yad,yad,yaT]at c
   exact⟨z,y,rfl,rfl,c.1.1,of_decide_eq_true c.1.2,of_decide_eq_true c.2,λp hp=>k _ _ (qw hp _) ⟨p,_,rfl,hn p hp,qm,qa7 _⟩⟩
  ·cases e
 ·cases e
theorem uM {K:Fr0}:qcw K vt (ql9 K):=by
 intro A H x ys d v vs Q hn ix iy e k
 unfold vt at e
 split at e
 ·rename_i z ds
  cases ix
  obtain⟨u,rfl,e2⟩:=IsL.inv1 iy
  cases e1:vq ds with
  |none=>rw[e1]at e;cases e
  | some ws=>
   rw[e1]at e
   dsimp only at e
   split at e
   ·rename_i c
    cases e
    obtain⟨a,xs,rfl,_,ta,il⟩:=e2
    rw[vR _ il e1]at ta
    exact⟨z,a,ws,rfl,rfl,.inl (.inl ta),c,k _ H (zX.refl H) rfl⟩
   ·cases e
 ·cases e
def qA (F:D->List D->OD) (f:M D) (g:M (List D)):M D:=bnd f λx=>match x with
 |.str z=>bnd g λys=>lift (F (.str z) ys)
 |_=>λ_ => .bad
section
variable{X:Cx}{c:Fc}{o e:Expr}{es:List Expr}{apos cpos:Pos}
theorem jm {id:String} {name:Str} {r:V->List V->Hp->VK->Prop} {F:D->List D->OD} {f:M D} {g:M (List D)} (slot:Slot "str" name id) (hty:ye1 (.builtin id)=pure (.type "method_descriptor")) (hm:MtR X id r) (hF:qcw X.K F r)
  (ho:DE X c o f) (ha:DA X c (e::es) g)
  (hbase:ybq o name X.env (eval o X.env)=eval o X.env:=by rfl)
  (hfew:((yaz cpos (yac (e::es) X.env)).all (λx => !x.1)&&(ycK cpos (yb2 [] X.env)).all (λx=>x.1.isSome)
   && decide ((e::es).length+([]:List ybQ).length+(if([]:List ybQ).isEmpty then 0 else 1)<30))=true:=by rfl)
  (hline:(apos.endLine==cpos.line)=true:=by rfl) (hs:yac (e::es) X.env=(false,eval e X.env)::yac es X.env:=by rfl) (hplain:(yaz cpos (yac es X.env)).any (·.1)=false:=by rfl) :
  DE X c (.Call (.Attribute o name apos) (e::es) [] cpos) (qA F f g):=by
 obtain⟨to,po,wo⟩:=ho
 obtain⟨t,pa,wa⟩:=ha
 refine⟨_,qi2 PySem.F.plainAttrs_str slot hty hm po pa hbase hfew hline hs hplain,λZ σ H Q r0 h=>wo Z σ H _ r0 (Wp.bnd h λx Z1 v H1 r1 i1 g1 h1=>?_)⟩
 cases x with
 |str z=>
  cases i1
  refine⟨rfl,wa Z1 σ H1 _ r1 (WpL.bnd h1 λys Z2 vs H2 r2 i2 g2 h2=>?_)⟩
  obtain⟨d,ed,h3⟩:=h2.lift
  exact hF (Cn c σ) H2 (.str z) ys d (.str z) vs Q (λa ha=>r2.new ha) rfl i2 ed λu H' sm i=>h3 u H' (r2.same sm) i (.of_same sm)
 |_=>exact h1.elim
end
end L2.Sk
set_option maxHeartbeats 1000000
namespace L2
open PySem PySem.Spec PyProof.Rows
def Its(x:Str):It:=⟨λi _=>i<x.cps.size,λi H v H'=>H'=H/\∃c,x.cps[i]? = some c/\v=.str ⟨#[c]⟩,λi _=>x.cps.size<=i⟩
theorem qhf {P:yai} {w:World} {K:yae} {tg:Expr} {T:String} (hT:T="str_ascii_iterator"\/T="str_iterator") (x:Str) (t:Tok) (it:Addr):qiR P w K tg (Its x) [it] it (λi h=>h.IsStrIter it T x t i) where
 mem:=by simp
 obj:=λi h st b hb=>by
  have e:b=it:=by simpa using hb
  subst e
  obtain⟨o,e,c,d⟩:=st
  exact⟨o,e,λv z=>by rw[d]at z;cases z⟩
 keep:=λi h h' st k=>let ⟨o,ho,r⟩:=st;⟨o,k it (by simp) o ho,r⟩
 item:=by
  intro X hP hw hK hc i pins s σ H E I hf st hg
  subst hP hw hK
  have hx:x.cps[i]? = some x.cps[i]:=Array.getElem?_eq_getElem hg
  obtain⟨f0,f1,f2,f3,f4,f5⟩:=hf it (by simp)
  have fin:∀h',h'.IsStrIter it T x t (i+1)->yb4 it s.heap h'->∃u,some (yeO ⟨#[x.cps[i]]⟩ s.toks)=some u /\
    wpAny (model X.prog X.w) X.A (yco tg (.ref it) u) (λ_ s2=>∃v H',Inv X pins σ H' s2/\jh v u/\(Its x).yld i H v H'/\s2.heap.IsStrIter it T x t (i+1)/\∀b∈[it],H' b=none) E {s with heap:=h',toks:=s.toks+1}:=λh' st' sb=>by
   have I1:Inv X pins σ H {s with heap:=h',toks:=s.toks+1}:=I.turned (t':=s.toks+1) (λb o hb e=>(sb.2 b hb).trans e) f0 f1 f3 f4 f5
   obtain⟨o,e,c,d⟩:=id st'
   refine⟨_,rfl,qgB (s:={s with heap:=h',toks:=s.toks+1}) e c d ?_ ⟨.str ⟨#[x.cps[i]]⟩,H,I1,⟨_,rfl⟩,⟨rfl,_,hx,rfl⟩,st',λb hb=>(hf b hb).1⟩⟩
   rcases hT with rfl|rfl<;>decide
  rcases hT with rfl|rfl
  ·exact wpAny_pyNext_ascii_item st hx fin
  ·exact wpAny_pyNext_wide_item st hx fin
 done:=by
  intro X hP hw hK hc i pins s σ H E I hf st hg
  subst hP hw hK
  have hx:x.cps[i]? = none:=Array.getElem?_eq_none hg
  obtain⟨f0,f1,f2,f3,f4,f5⟩:=hf it (by simp)
  rcases hT with rfl|rfl
  ·exact wpAny_pyNext_ascii_end (I.ok.hd hc) st hx λh' eb=>⟨rfl,I.turned (t':=s.toks) (λb o hb e=>eb b o hb e) f0 f1 f3 f4 f5⟩
  ·exact wpAny_pyNext_wide_end (I.ok.hd hc) st hx λh' eb=>⟨rfl,I.turned (t':=s.toks) (λb o hb e=>eb b o hb e) f0 f1 f3 f4 f5⟩
 self:=λ_ _ _ _ _ st h=>by
  rcases hT with rfl|rfl
  ·exact wpAny_pyIter_striter_ascii st h
  ·exact wpAny_pyIter_striter_wide st h
section
variable{X:Cx}{tg e:Expr}
def qou(tl:TE):TI:=λσ H R=>tl σ H λx H1=>∃z,x=.str z/\R (Its z) H1
theorem qma {tl:TE} (hl:PE X e tl):PI X tg e (qou tl):=by
 intro pins s σ H R I h
 refine thn (hl pins s σ H _ I h) λv s1 ⟨x,H1,I1,r1,q1⟩=>?_
 obtain⟨z,e,q⟩:=q1
 subst e
 obtain⟨t,rfl⟩:=r1
 have fin:∀T:String,(T="str_ascii_iterator"\/T="str_iterator")->PIE X pins σ tg R (.ref s1.heap.objs.size) {s1 with heap:=s1.heap.push {cls:=.type T,data:=.fields #[.str z t,.int 0 0]} }:=λT hT=>by
  refine⟨s1.heap.objs.size,[s1.heap.objs.size],_,_,H1,rfl,I1.kept (t':=s1.toks) λb o e=>Heap.get?_push_of_some _ e,qhf hT z t _,⟨_,Heap.get?_push_size _ rfl,rfl,rfl⟩,λb hb=>?_,q⟩
  have e:b=s1.heap.objs.size:=by simpa using hb
  subst e
  exact I1.fpOk (yah _) (I1.hok.fresh (yah _))
 cases ha:z.cps.all (·<128)
 ·exact wpAny_pyIter_wide ha (fin _ (.inr rfl))
 ·exact wpAny_pyIter_ascii ha (fin _ (.inl rfl))
end
end L2
namespace L2.Sk
open PySem PySem.Spec PyProof.Rows
def sgn(c:Nat):D:=.str ⟨#[c]⟩
def qeh(x:Str):List D:=x.cps.toList.map sgn
theorem qmb {K:Fr0} {A:Addr->Prop} {H:Hp} (x:Str):qgr K A H (qeh x) (Its x) where
 go:=λH' i d ex hd=>by
  have:=(gI_.mp hd).1
  show i<x.cps.size
  simpa [qeh] using this
 yl:=λH' i d v H'' ex hd y=>by
  obtain⟨e,c,hc,rfl⟩:=y
  subst e
  refine⟨zX.refl _,?_⟩
  unfold qeh at hd
  rw[gM_,Array.getElem?_toList,hc]at hd
  cases hd
  rfl
 stop:=λH' ex=>by show x.cps.size<=(qeh x).length;simp[qeh]
def qmc:D->Option (List D)
 |.str x=>some (qeh x)
 |_=>none
def qgt(f:M D):M (List D):=bnd f λd=>lift (qmc d)
section
variable{X:Cx}{c:Fc}{tg e:Expr}
theorem qfR {f:M D} (h:DE X c e f):DI X c tg e (qgt f):=by
 obtain⟨t,p,w⟩:=h
 refine⟨_,qma p,λZ σ H Q r h=>w Z σ H _ r (Wp.bndI h λd Z1 v H1 r1 i1 g1 h1=>?_)⟩
 obtain⟨ds,e,h2⟩:=vf h1
 cases d<;>simp only[qmc]at e<;>try (cases e;done)
 rename_i z
 cases e
 cases i1
 exact⟨z,rfl,h2 _ H1 r1 (qmb z) .refl⟩
end
end L2.Sk
set_option maxHeartbeats 2000000
namespace L2.St
open PySem
theorem qjW:yey (.type "list_reverseiterator") "__len__"=pure none:=by rw[typeLookup_type,yes];kernel_rfl
theorem qhg:yey (.type "list_reverseiterator") "__length_hint__"=pure (some (.builtin "list_reverseiterator.__length_hint__")):=by rw[typeLookup_type,yes];kernel_rfl
theorem qmd:splitId "list_reverseiterator.__length_hint__"=some ("list_reverseiterator","__length_hint__"):=by decide +kernel
section
variable{prog:yai}{w:World}{A:yaj}{E:Value->yaa->Prop}{s:yaa}{I l:Addr}{items:Array Value}
theorem collect_rev {Q:List Value->yaa->Prop} (hh:A.handled=none) (hne:l≠I) (hit:s.heap.IsRevIter I l ((items.size:Int)-1)) (hl:s.heap.IsList l items) (hn:items.size<=1000000)
  (hQ:∀h' tk,(∀b o,b≠I->s.heap.get? b=some o->h'.get? b=some o)->Q items.toList.reverse {s with heap:=h',toks:=tk}):wpAny (model prog w) A (collect (.ref I)) Q E s:=by
 have hI:I<s.heap.objs.size:=by obtain⟨o,ho,_⟩:=hit;exact yag ho
 have hL:l<s.heap.objs.size:=by obtain⟨o,ho,_⟩:=hl;exact yag ho
 have W:=(Walks.listRev (prog:=prog) (w:=w) (A:=A.in1) hh I l hne items).toS
 have nf:s.heap.objs.size ∉ [I,l]:=λh=>by
  rcases List.mem_cons.mp h with z|z
  ·exact absurd z (ybx hI)
  ·exact absurd (ms_.mp z) (ybx hL)
 unfold collect
 refine yab (wpAny_runValue (yd0 F.entry_proto_collect ?_))
 rw[yeC F.plain_proto_collect _]
 show wpAny (model prog w) A.in1 (newList [] >>= λl=>again (.builtin "list.__iadd__" ⟨[l,.ref I],[]⟩)) _ _ s
 refine yab (yaX (yaq ⟨plainId_quiet yfp _,yd0 F.entry_list_iadd ?_⟩))
 rw[yeC yfp _]
 have kp:∀b o,s.heap.get? b=some o->(s.heap.push {cls:=.type "list",data:=.seq ([]:List Value).toArray}).get? b=some o:=λb o e=>Heap.get?_push_of_some _ e
 have hit1:(s.heap.push {cls:=.type "list",data:=.seq ([]:List Value).toArray}).IsRevIter I l ((items.size:Int)-1):=hit.at λo=>kp I o
 have hl1:=hl.at λo=>kp l o
 have hT:Shared.TypeIs {s with heap:=s.heap.push {cls:=.type "list",data:=.seq ([]:List Value).toArray} } (.ref I) "list_reverseiterator":=hit1.typeIs (s:={s with heap:=s.heap.push {cls:=.type "list",data:=.seq ([]:List Value).toArray} })
 show wpAny (model prog w) A.in1 (ydk (.ref s.heap.objs.size) (.ref I) (.ref s.heap.objs.size)) _ _ _
 unfold ydk
 refine yab (ycw hT ?_)
 have h1:ydR (.ref s.heap.objs.size) (.ref I)=false:=by
  simp only[ydR,beq_eq_false_iff_ne,ne_eq]
  exact ybx hI
 rw[if_neg (by rw[h1];decide)]
 refine yab (yeD hit1 (yab (ybp ?_)))
 unfold Builtin.List.listLengthHint
 refine yab (wpAny_specialOf hT qjW ?_)
 dsimp only
 show wpAny (model prog w) A.in1 (specialOf (yam I) (ycv "__length_hint__") >>= _) _ _ _
 refine yab (wpAny_specialOf hT qhg ?_)
 dsimp only
 rw[qmd]
 dsimp only
 refine yab (wpAny_isInstance (b:=true) hT (by rw[isSubtype_type];kernel_rfl) ?_)
 rw[if_neg (by decide),if_pos (by decide +kernel),if_neg (by decide +kernel)]
 refine yaq ?_
 rw[if_neg (by decide +kernel)]
 refine yaq ⟨plainId_quiet F.plain_extend_loop _,codeAny_extend_loopS W (by rw[ybh];omega) _ nf _ items.size 0 _ _ _ rfl (yaN _) ⟨yaN _,by rw[show(items.size:Int)-1-((0:Nat):Int)=(items.size:Int)-1 by omega];exact hit1,hl1⟩ (Heap.get?_push_size _ rfl) (ItemsOf.nil _) λs' acc c hm hS' hacc=>?_⟩
 show wpAny (model prog w) A (load s.heap.objs.size >>= _) _ _ s'
 refine yab (wpAny_load hS' (yaq ?_))
 have ea:acc.toList=items.toList.reverse:=by
  refine List.ext_getElem? λj=>?_
  rw[Array.getElem?_toList]
  by_cases c:j<items.size
  ·have q:=Array.getElem?_eq_getElem (show j<acc.size by rw[hacc.1];exact c)
   have p:=hacc.2 j _ q
   rw[q,List.getElem?_reverse (by rw[yaI];exact c),Array.getElem?_toList,yaI]
   exact p.symm
  ·rw[Array.getElem?_eq_none (by rw[hacc.1];omega),List.getElem?_eq_none (by rw[List.length_reverse,yaI];omega)]
 rw[ea]
 obtain⟨h',g',d',tk',os'⟩:=s'
 obtain rfl:g'=s.gens:=hm.gens
 obtain rfl:d'=s.drawn:=hm.drawn
 obtain rfl:os'=s.os:=hm.os
 refine hQ h' tk' λb o hb e=>hm.heap b o (λz=>?_) (kp b o e)
 rcases List.mem_cons.mp z with z|z
 ·exact absurd z (yaw (yag e))
 ·exact hb (ms_.mp z)
end
end L2.St
namespace L2.Sk
open PySem PySem.Spec PyProof.Rows
def qcE:List D->OD
 | [.str x]=>if decide (x.length<=640) then(ybL x).map .int else none
 |_=>none
def qme:List V->Hp->VK->Prop:=λxs H Q=>∃x n,xs=[.str x]/\ybL x=some n/\x.length<=640/\Q (.int n) H
theorem qbZ {X:Cx}:jV X (.type "int") qme:=by
 intro pins s σ H xs us Q I r h
 obtain⟨x,n,rfl,hn,hl,q⟩:=h
 obtain⟨u,rfl,ru⟩:=zk.one r
 obtain⟨t,rfl⟩:=ru
 exact PySem.W.KIN.call_text hn hl ⟨.int n,H,I.tok _,⟨_,rfl⟩,q⟩
theorem qaH {K:Fr0}:vF K qcE qme:=by
 intro A H xs d vs Q hn h e k
 unfold qcE at e
 split at e
 ·rename_i x
  obtain⟨v,rfl,e2⟩:=IsL.inv1 h
  cases e2
  split at e
  ·rename_i c
   cases e1:ybL x with
   |none=>rw[e1]at e;cases e
   |some n=>
    rw[e1]at e
    cases e
    exact⟨x,n,rfl,e1,of_decide_eq_true c,k _ H (zX.refl H) rfl⟩
  ·cases e
 ·cases e
end L2.Sk
set_option maxHeartbeats 2000000
namespace L2
open PySem PySem.Spec PyProof.Rows
def tJR(K:yae)(to:TE)(ta:TA):TE:=λσ H Q=>to σ H λv H1=>∃z,v=V.str z/\ta σ H1 λvs H2=>∃(a:Addr)(ws:List Str),vs=[V.ref a]/\SqL K H2 a (ws.map V.str)/\ws.length<=1000000/\yb1 z ws.reverse=true/\Q (.str (Txt.join z ws.reverse)) H2
theorem gJ (z:Str) (l:List (Str×Tok)) (ok:yc6 (Array.foldl (λx1 x2=>x1+x2.length+z.length) 0 (List.map (λx=>x.fst) l).toArray)=false):Gives (joinTail z (ya5 l)) (joinMade z l):=by
 have g0:=gives_joinTail z l ok
 cases l with
 |nil=>exact g0
 |cons p r=>cases r with
  |nil=>exact g0
  |cons q r'=>exact g0
section
variable{X:Cx}{o e:Expr}{apos cpos:Pos}
theorem qjX {to:TE} {ta:TA} {p1 q:Pos} (hc:X.calm=true) (ho:PE X o to) (hg:Gl X "reversed") (hm:X.mg "reversed"=none) (ha:PA X [e] ta)
  (hbase:ybq o "join" X.env (eval o X.env)=eval o X.env:=by rfl)
  (hfew:((yaz cpos (yac [.Call (.Name "reversed" p1) [e] [] q] X.env)).all (λx => !x.1)&&(ycK cpos (yb2 [] X.env)).all (λx=>x.1.isSome)
   && decide (([.Call (.Name "reversed" p1) [e] [] q]:List Expr).length+([]:List ybQ).length+(if([]:List ybQ).isEmpty then 0 else 1)<30))=true:=by rfl)
  (hline:(apos.endLine==cpos.line)=true:=by rfl) (hs:yac [e] X.env=(false,eval e X.env)::yac [] X.env:=by rfl)
  (he:yac [.Call (.Name "reversed" p1) [e] [] q] X.env=(false,eval (.Call (.Name "reversed" p1) [e] [] q) X.env)::yac [] X.env:=by rfl) (hpl:(yaz cpos (yac [] X.env)).any (·.1)=false:=by rfl) (hpq:(yaz q (yac [] X.env)).any (·.1)=false:=by rfl) :
  PE X (.Call (.Attribute o "join" apos) [.Call (.Name "reversed" p1) [e] [] q] [] cpos) (tJR X.K to ta):=by
 intro pins s σ H Q I h
 refine yd8 hbase hfew hline rfl (thn (ho pins s σ H _ I h) λv s1 ⟨x,H1,I1,r1,z,ez,q1⟩=>?_)
 subst ez
 obtain⟨t,rfl⟩:=r1
 refine⟨"str","str.join",F.plainAttrs_str,F.slot_str_join,F.type_str_join,ybX _ _ _,(λ_ e=>nomatch e),?_⟩
 rw[he]
 refine ycF (by show(false||(yaz cpos (yac [] X.env)).any (·.1))=false;rw[hpl];rfl) (ybH ?_)
 show wpAny _ _ (spliced ((false,eval (.Call (.Name "reversed" p1) [e] [] q) X.env)::yaz cpos (yac [] X.env))) _ _ s1
 refine yeV ?_
 refine Call_ (wG I1 hg hm PyProof.Rows.boot_reversed (yba (thn (ha q pins s1 σ H1 _ I1 q1) λus s2 ⟨vs,H2,I2,r2,q2⟩=>?_) hs hpq))
 obtain⟨a,ws,rfl,hx,hz,ok,qq⟩:=q2
 obtain⟨u,rfl,ru⟩:=zk.one r2
 cases (show u=yam a from ru)
 obtain⟨its,rv,pl,_⟩:=I2.list hx
 obtain⟨l,rfl,el⟩:=Sk.vals_strs rv
 have hL:=pl.isList
 have hla:a<s2.heap.objs.size:=by obtain⟨o,ho,_⟩:=hL;exact yag ho
 have hh:X.A.handled=none:=I.ok.hd hc
 refine call_reversed_list hL (yfj ?_)
 show wpAny (model X.prog X.w) X.A (call (.builtin "str.join") [.str z t,.ref s2.heap.objs.size]) _ _ _
 refine ycV (ybj F.slot_str_join.plain F.entry_str_join (F.slot_str_join.check _ _ _ _ _ _ _ _ (ybX _ _ _) (F.args_str_join_2 _ _) ?_))
 rw[join_tree_other]
 have hit:(s2.heap.push (revObj a (((ya5 l).toArray.size:Int)-1))).IsRevIter s2.heap.objs.size a (((ya5 l).toArray.size:Int)-1):=⟨_,Heap.get?_push_size _ rfl,rfl,rfl⟩
 have hL1:(s2.heap.push (revObj a (((ya5 l).toArray.size:Int)-1))).IsList a (ya5 l).toArray:=hL.at λo e=>Heap.get?_push_of_some _ e
 refine yab (ycw (hit.typeIs (s:={s2 with heap:=s2.heap.push (revObj a (((ya5 l).toArray.size:Int)-1))})) ?_)
 rw[if_neg (by decide)]
 refine yab (wpAny_tryCatch (yeD hit ?_))
 have hlen:(ya5 l).toArray.size=ws.length:=by rw[sT_,<-el];simp[ya5]
 refine yab (St.collect_rev (s:={s2 with heap:=s2.heap.push (revObj a (((ya5 l).toArray.size:Int)-1))}) (by simp[hh]) (yaw hla) hit hL1 (by rw[hlen];exact hz) λh' tk kp=>?_)
 have er:(ya5 l).toArray.toList.reverse=ya5 l.reverse:=by simp[ya5,ydS]
 rw[er]
 have ok2:yb1 z (l.reverse.map (·.1))=true:=by rw[ydS,el];exact ok
 have ok3:=ok2
 unfold yb1 at ok3
 rw[yaT]at ok3
 have g:=gJ z l.reverse ok3
 refine g X.prog X.w X.A (wants (EP X pins σ Q) X.xe) _ (post_join l.reverse ⟨joinFit_length ok3,λt' k=>?_⟩)
 rw[ydS,el]
 exact⟨.str _,H2,I2.kept (t':=k) (h':=h') λb o e=>kp b o (yaw (yag e)) (Heap.get?_push_of_some _ e),⟨t',rfl⟩,qq⟩
end
end L2
set_option maxHeartbeats 1000000
namespace L2.Sk
open PySem PySem.Spec PyProof.Rows
def qjY (z:Str) (i:Nat):M D:=λZ=>match zW i Z with
 |some ds=>match vq ds with
  |some ws=>if decide (ws.length<=1000000)&&yb1 z ws.reverse then .ok (.str (Txt.join z ws.reverse),Z)else .bad
  |none => .bad
 |none => .bad
theorem qae:∀ws:List Str,vq (ws.map D.str)=some ws
 | []=>rfl
 |w::ws=>by
  show(vq (ws.map D.str)).map (w::·)=_
  rw[qae ws]
  rfl
section
variable{X:Cx}{c:Fc}{apos cpos:Pos}
theorem qjZ {z:Str} {jj:Nat} {pz p1 p2 q:Pos} {i:Nat} {x:Str} (hc:X.calm=true) (hg:Gl X "reversed") (hm:X.mg "reversed"=none) (ho:i∈c.O:=by exact of_decide_eq_true rfl) (hN:X.N[i]? = some x:=by rfl) (hv:Vis X.env.scope x:=by first|exact ya0 rfl|exact yaJ (ya0 rfl)|exact yaJ (yaJ rfl)) (hd:(x==("__debug__":Str))=false:=by decide) (hcd:(x==("__classdict__":Str))=false:=by decide)
  (hbase:ybq (.Constant (.str z) jj pz) "join" X.env (eval (.Constant (.str z) jj pz) X.env)=eval (.Constant (.str z) jj pz) X.env:=by rfl)
  (hfew:((yaz cpos (yac [.Call (.Name "reversed" p1) [.Name x p2] [] q] X.env)).all (λx => !x.1)&&(ycK cpos (yb2 [] X.env)).all (λx=>x.1.isSome)
   && decide (([.Call (.Name "reversed" p1) [.Name x p2] [] q]:List Expr).length+([]:List ybQ).length+(if([]:List ybQ).isEmpty then 0 else 1)<30))=true:=by rfl)
  (hline:(apos.endLine==cpos.line)=true:=by rfl) (hs:yac [.Name x p2] X.env=(false,eval (.Name x p2) X.env)::yac [] X.env:=by rfl)
  (he:yac [.Call (.Name "reversed" p1) [.Name x p2] [] q] X.env=(false,eval (.Call (.Name "reversed" p1) [.Name x p2] [] q) X.env)::yac [] X.env:=by rfl) (hpl:(yaz cpos (yac [] X.env)).any (·.1)=false:=by rfl) (hpq:(yaz q (yac [] X.env)).any (·.1)=false:=by rfl) :
  DE X c (.Call (.Attribute (.Constant (.str z) jj pz) "join" apos) [.Call (.Name "reversed" p1) [.Name x p2] [] q] [] cpos) (qjY z i):=by
 refine⟨_,qjX hc qeA hg hm (ja (yI hN hv hd hcd) uU hs) hbase hfew hline hs he hpl hpq,λZ σ H Q r h=>?_⟩
 unfold qjY at h
 cases e0:zW i Z with
 |none=>simp only[e0]at h;exact h.elim
 | some ds=>
  simp only[e0]at h
  cases e1:vq ds with
  |none=>simp only[e1]at h;exact h.elim
  | some ws=>
   simp only[e1]at h
   cases e2:(decide (ws.length<=1000000)&&yb1 z ws.reverse) with
   |false=>rw[e2]at h;exact h.elim
   |true=>
    rw[e2,if_pos rfl]at h
    rw[yad,decide_eq_true_eq]at e2
    obtain⟨l,xs,him,hl,hH,il⟩:=r.getLO ho e0
    rw[vR _ il e1]at hH
    exact⟨z,rfl,.ref l,hl,l,ws,rfl,.inl (.inl hH),e2.1,e2.2,h _ H r rfl .refl⟩
end
end L2.Sk
set_option maxHeartbeats 1000000
namespace L2.Sk
open PySem PySem.Spec PyProof.Rows
def qmf:D->D->OD
 |.str x,.str y=>some (.bl (!qkK x y))
 |_,_=>none
abbrev qmg:R2:=λx y H Q=>∃i j,x=.str i/\y=.str j/\Q (.bl (!(!(yaE j i 0 j.length 1).isEmpty))) H
theorem qhh {K:Fr0}:OpS K qmf qmg:=by
 intro A H x y d v u Q hn ix iy e k
 unfold qmf at e
 split at e
 ·rename_i i j
  cases ix;cases iy;cases e
  exact⟨i,j,rfl,rfl,k _ H (zX.refl H) rfl⟩
 ·cases e
theorem qj0{X:Cx}:OpR X (yaM .NotIn) qmg:=qbw
end L2.Sk
set_option maxHeartbeats 1000000
namespace L2.Sk
open PySem PySem.Spec PyProof.Rows
def qov:V->Option Int->Option Int->Hp->VK->Prop:=λx lo hi H Q=>∃z,x=.str z/\z.length<=yap/\Q (.str (Txt.slice z lo hi)) H
section
variable{X:Cx}{c:Fc}{a:Expr}{pos p2:Pos}
theorem qmh:SlR X qov:=by
 intro pins s σ H x v vl vu lo hi sl Q I rx hs pl pu h
 obtain⟨z,rfl,hz,q⟩:=h
 obtain⟨t,rfl⟩:=rx
 refine⟨"str",_,F.slot_str_getitem.lookup,ybX _ _ _,?_⟩
 have fin:∀(l u:Option (Int×Tok)),s.heap.IsSlice sl l u none->l.map (·.1)=lo->u.map (·.1)=hi->wpAny (model X.prog X.w) X.A (yc9 (.str z t) (.ref sl)) (EP X pins σ Q) X.xe s:=λl u hs' e1 e2=>by
  subst e1 e2
  exact wpAny_getItem_str_slice (l:=l) (u:=u) (st:=none) hs' rfl (post_val_or_str ⟨yaH (Txt.slice_le z _ _) hz,λt' k=>⟨.str _,H,I.tok _,⟨t',rfl⟩,q⟩⟩)
 cases pl with
 |none=>
  cases pu with
  |none=>exact fin none none hs rfl rfl
  |int j u=>exact fin none (some (j,u)) hs rfl rfl
 |int i t1=>
  cases pu with
  |none=>exact fin (some (i,t1)) none hs rfl rfl
  |int j u=>exact fin (some (i,t1)) (some (j,u)) hs rfl rfl
def qhi(f:M D)(g k:M (Option Int)):M D:=bnd f λd=>bnd g λl=>bnd k λu=>lift (match d with|.str z=>if qT z.length then some (.str (Txt.slice z l u))else none|_=>none)
theorem qb0 {lo hi:Option Expr} {f:M D} {g k:M (Option Int)} (ha:DE X c a f) (hl:DO X c lo g) (hu:DO X c hi k):DE X c (.Subscript a (.Slice lo hi none p2) pos) (qhi f g k):=by
 obtain⟨ta,pa,wa⟩:=ha
 obtain⟨tl,pl,wl⟩:=hl
 obtain⟨tu,pu,wu⟩:=hu
 refine⟨_,qcX qmh pa pl pu,λZ σ H Q r h=>wa Z σ H _ r (Wp.bnd h λd Z1 v H1 r1 i1 g1 h1=>?_)⟩
 refine wl Z1 σ H1 _ r1 (λl Z2 e2 H2 r2 g2=>?_) (λx Z2 e2 H2 r2 g2=>?_) (λe2=>?_)
 ·rw [qcZ e2]at h1
  have h1:=h1.gr g2
  refine wu Z2 σ H2 _ r2 (λu Z3 e3 H3 r3 g3=>?_) (λx Z3 e3 H3 r3 g3=>?_) (λe3=>?_)
  ·rw [qcZ e3]at h1
   obtain⟨d',e4,h4⟩:=h1.lift
   clear h1
   cases d with
   | str z=>
    cases i1
    dsimp only at e4
    split at e4
    ·rename_i cz
     cases e4
     exact⟨z,rfl,of_decide_eq_true cz,h4 _ H3 r3 rfl g3⟩
    ·cases e4
   |_=>cases e4
  ·unfold bnd at h1;rw[e3]at h1;exact h1 H3 r3 g3
  ·unfold bnd at h1;rw[e3]at h1;exact h1
 ·unfold bnd at h1;rw[e2]at h1;exact h1 H2 r2 g2
 ·unfold bnd at h1;rw[e2]at h1;exact h1
end
end L2.Sk
namespace L2.Sk
open PySem PySem.Spec PyProof.Rows
end L2.Sk
namespace L2.Sk
open PySem PySem.Spec PyProof.Rows
def xo(C t:Addr)(x:Option Addr):Obj:={cls:=.ref C,dict:=x,data:=.fields #[.ref t,.none,.none,.none,.bool false,.none]}
section
variable{prog:yai}{w:World}{A:yaj}{E:Value->yaa->Prop}{h:Heap}{g:Array ycr}{d:Drawn}{t:Nat}{os:yff}
variable{nm q:Str}{C N:Addr}{bs bm bmB:List Value}{hdct:Bool}{sn:List Str}{sub:List Value}{ab:Bool}{col:Option Bool}{dd:Option Addr}{k0 k1 k2 k3 k5:Option Value}{B newId initId:String}
theorem qb1 (F:ydP B newId initId bmB) (T:yfg h bmB bm) {mN:Str->Option Value} {rest:List Value} {fI:Addr} {oI:Obj} {Q:Fin->yaa->Prop}
  (hC:h.get? C=some (ybu nm q C N bs bm hdct sn sub ab col dd k0 k1 k2 k3 k5 newId)) (hn:h.Ns N mN) (hi:mN "__init__"=some (.ref fI)) (hfI:h.get? fI=some oI) (hfc:oI.cls=.type "function")
  (hq:∀h' e,yca h h' e (.ref C) rest->wpAny (model prog w) A (call (.ref fI) (.ref e::rest)) (λr s'=>r=.none/\Q (.done (.ret (.ref e))) s') E ⟨h',g,d,t,os⟩) (hrest:rest.length<=yap) :
  wpAny (model prog w) A (yda.«type.__call__» ⟨.ref C::rest,[]⟩) Q E ⟨h,g,d,t,os⟩:=by
 repeat (first|with_reducible refine yaS hC ?_|with_reducible refine wpAny_madeBy_exc hC ?_|wp_step)
 refine codeAny_call_builtin_code (ydf _ F.quiet) (wpAny_check_new_subT F T hC ?_)
 refine codeAny_exc_new_subT F T hC ?_ hrest
 show wpAny _ _ _ _ _ _
 have hCK:=Heap.get?_push_of_some {cls:=.ref C,data:=.fields #[.ref h.objs.size,.none,.none,.none,.bool false,.none]}
  (Heap.get?_push_of_some {cls:=.type "tuple",data:=.seq rest.toArray} hC)
 have hfI1:=Heap.get?_push_of_some {cls:=.ref C,data:=.fields #[.ref h.objs.size,.none,.none,.none,.bool false,.none]}
  (Heap.get?_push_of_some {cls:=.type "tuple",data:=.seq rest.toArray} hfI)
 have hn1:((h.push {cls:=.type "tuple",data:=.seq rest.toArray}).push {cls:=.ref C,data:=.fields #[.ref h.objs.size,.none,.none,.none,.bool false,.none]}).Ns N mN :=
  let ⟨o,es,ep,e,r⟩:=hn;⟨o,es,ep,Heap.get?_push_of_some _ (Heap.get?_push_of_some _ e),r⟩
 have hget:((h.push {cls:=.type "tuple",data:=.seq rest.toArray}).push
   {cls:=.ref C,data:=.fields #[.ref h.objs.size,.none,.none,.none,.bool false,.none]}).get? (h.objs.size+1)=some
   {cls:=.ref C,data:=.fields #[.ref h.objs.size,.none,.none,.none,.bool false,.none]}:=by heap_get
 have hcC:(yam C::bm).contains (.ref C)=true:=by simp
 have TK:=T.keeps (h':=(h.push {cls:=.type "tuple",data:=.seq rest.toArray}).push {cls:=.ref C,data:=.fields #[.ref h.objs.size,.none,.none,.none,.bool false,.none]})
  λb o e=>Heap.get?_push_of_some _ (Heap.get?_push_of_some _ e)
 unfold yfD
 repeat (first|with_reducible refine yaS hget ?_|(with_reducible refine ycm hCK ?_;rw[hcC])|wp_step)
 show wpAny _ _ (yey (.ref C) _) _ _ _
 refine wpAny_typeLookup_tail hCK hn1 TK F.mroIs F.init.lookup ?_
 rw[hi]
 refine ybp (yab ?_)
 unfold bindSpecial
 refine yab (ycw (T:="function") ⟨_,hfI1,hfc⟩ ?_)
 rw[if_pos (by decide)]
 refine yaq (yab (yaF (hq _ (h.objs.size+1) ⟨λb o hb=>Heap.get?_push_of_some _ (Heap.get?_push_of_some _ hb),Heap.get?_none_of_le (Nat.le_succ _),h.objs.size,hget,Heap.get?_none_of_le (yah _),?_⟩) (λr s' hr=>?_) λ_ _ x=>x))
 ·exact Heap.get?_push_of_some _ (Heap.get?_push_at rfl rfl)
 ·obtain⟨rfl,hQ⟩:=hr
  wp_walk
  exact hQ
theorem qj1 (F:ydP B newId initId bmB) (T:yfg h bmB bm) {mN:Str->Option Value} {rest:List Value} {fI:Addr} {oI:Obj} {Q:Value->yaa->Prop}
  (hC:h.get? C=some (ybu nm q C N bs bm hdct sn sub ab col dd k0 k1 k2 k3 k5 newId)) (hn:h.Ns N mN) (hi:mN "__init__"=some (.ref fI)) (hfI:h.get? fI=some oI) (hfc:oI.cls=.type "function")
  (hq:∀h' e,yca h h' e (.ref C) rest->wpAny (model prog w) (A.under (.builtin "type.__call__" ⟨.ref C::rest,[]⟩)) (call (.ref fI) (.ref e::rest)) (λr s'=>r=.none/\Q (.ref e) s') E ⟨h',g,d,t,os⟩) (hrest:rest.length<=yap) :
  wpAny (model prog w) A (call (.ref C) rest) Q E ⟨h,g,d,t,os⟩:=by
 have f1:=tc_lookup
 have f2:=tc_bind (.ref C)
 have hT:(⟨h,g,d,t,os⟩:yaa).TypeIs (.ref C) "type":=⟨_,hC,rfl⟩
 refine ycV (codeAny_of_tree ?_)
 show wpAny _ _ (callAny (.ref C) _) _ _ _
 repeat (any_goals (first|assumption|with_reducible refine yaS hC ?_|wp_step))
 refine⟨rfl,?_⟩
 refine codeAny_call_builtin_at (ydf _ (by decide +kernel)) entry_typeCall (wpAny_check_type_call_sub hC (qb1 (hrest:=hrest) F T hC hn hi hfI hfc λh' e hm=>?_))
 exact hq h' e hm
theorem uv {M:Model} {env:yax} {s:yaa} {x:Sem Value} {Q:Flow->yaa->Prop} (hbase:bm.contains (.type "BaseException")=true) (hh:A.handled=none)
  (h:wpAny M A x (λv sY=>∃e t x,v=.ref e/\sY.heap.get? C=some (ybu nm q C N bs bm hdct sn sub ab col dd k0 k1 k2 k3 k5 newId)/\sY.heap.get? e=some (xo C t x)/\E (.ref e) sY) E s) :
  wpAny M A (raiseStmt env (some x) none) Q E s:=by
 have hcB:(yam C::bm).contains (.type "BaseException")=true:=by rw[ydi,hbase,yc4]
 unfold raiseStmt
 refine yab (yaF h (λv sY h₁=>?_) λ_ _ x=>x)
 obtain⟨e,t,x,rfl,hC,he,hE⟩:=h₁
 unfold xo at he
 obtain⟨hp,g,d,tk,os⟩:=sY
 repeat (first|with_reducible refine yaS he ?_|with_reducible refine yaS hC ?_|(with_reducible refine ycm hC ?_;rw[hcB])|wp_step)
 exact wpAny_raiseNew_none hh hE
theorem qhj (F:ydP B newId initId bmB) {env:yax} {s:yaa} {mN:Str->Option Value} {x:Str} {np cpos pos:Pos} {args:List Expr} {fI:Addr} {oI:Obj} {Q:Flow->yaa->Prop}
  (hbase:bm.contains (.type "BaseException")=true) (hh:A.handled=none) (hplain:(yaz cpos (yac args env)).any (·.1)=false) (hi:mN "__init__"=some (.ref fI)) (hfc:oI.cls=.type "function")
  (h : wpAny (model prog w) A (eval (.Name x np) env) (λf sY=>f=.ref C/\wpAny (model prog w) A (evalArgs (.ref C) true (yaz cpos (yac args env)) [])
   (fun a sV=>a.kw=[]/\a.pos.length<=yap/\sV.heap.get? C=some (ybu nm q C N bs bm hdct sn sub ab col dd k0 k1 k2 k3 k5 newId)/\sV.heap.Ns N mN/\yfg sV.heap bmB bm/\sV.heap.get? fI=some oI /\
    ∀ h' e,yca sV.heap h' e (.ref C) a.pos->wpAny (model prog w) (A.under (.builtin "type.__call__" ⟨.ref C::a.pos,[]⟩)) (call (.ref fI) (.ref e::a.pos))
     (λr sJ=>r=.none/\sJ.heap.get? C=some (ybu nm q C N bs bm hdct sn sub ab col dd k0 k1 k2 k3 k5 newId)/\(∃t x,sJ.heap.get? e=some (xo C t x))/\E (.ref e) sJ) E {sV with heap:=h' }) E sY) E s) :
  wpAny (model prog w) A (exec (.Raise (some (.Call (.Name x np) args [] cpos)) none pos) env) Q E s:=by
 rw[arm_exec_Raise]
 first
  |refine yab (ya6 (uv (C:=C) (nm:=nm) (q:=q) (N:=N) (bs:=bs) (bm:=bm) (hdct:=hdct) (sn:=sn) (sub:=sub) (ab:=ab) (col:=col) (dd:=dd) (k0:=k0) (k1:=k1) (k2:=k2) (k3:=k3) (k5:=k5) (newId:=newId) hbase hh (yab (yaF (ydB (yaF h (λf sY h₁=>?_) λ_ _ x=>x)) (λv sJ h₃=>yab (ya6 (yaq h₃))) λ_ _ x=>x))))
  |(simp only[evalOpt,Option.map];refine yab (ya6 (uv (C:=C) (nm:=nm) (q:=q) (N:=N) (bs:=bs) (bm:=bm) (hdct:=hdct) (sn:=sn) (sub:=sub) (ab:=ab) (col:=col) (dd:=dd) (k0:=k0) (k1:=k1) (k2:=k2) (k3:=k3) (k5:=k5) (newId:=newId) hbase hh (yab (yaF (ydB (yaF h (λf sY h₁=>?_) λ_ _ x=>x)) (λv sJ h₃=>yab (ya6 (yaq h₃))) λ_ _ x=>x)))))
  |(refine yab (ya6 (uv (C:=C) (nm:=nm) (q:=q) (N:=N) (bs:=bs) (bm:=bm) (hdct:=hdct) (sn:=sn) (sub:=sub) (ab:=ab) (col:=col) (dd:=dd) (k0:=k0) (k1:=k1) (k2:=k2) (k3:=k3) (k5:=k5) (newId:=newId) hbase hh ?_));refine yab (yaF (ydB (yaF h (λf sY h₁=>?_) λ_ _ x=>x)) (λv sJ h₃=>yab (ya6 (yaq h₃))) λ_ _ x=>x))
 obtain⟨rfl,h₁⟩:=h₁
 unfold yfz
 refine yab (ybp (yaF h₁ (λa sV hG=>yab (ya6 ?_)) λ_ _ x=>x))
 obtain⟨apos,akw⟩:=a
 obtain⟨hkw,hlen,hC,hn,T,hfI,hG⟩:=hG
 obtain rfl:akw=[]:=hkw
 obtain⟨hp,g,d,tk,os⟩:=sV
 simp only[hplain]
 refine yab (wpAny_keeperOf_exc hC ?_)
 refine yab (qj1 (hrest:=hlen) F T hC hn hi hfI hfc λh' e hm=>yaF (hG h' e hm) (λr sJ h₃=>⟨h₃.1,yab (ybp (yfv (yaq ?_)))⟩) λ_ _ x=>x)
 obtain⟨_,hC3,⟨t,x,he⟩,hE⟩:=h₃
 exact⟨e,t,x,rfl,hC3,he,hE⟩
end
end L2.Sk
namespace L2.Sk
open PySem PySem.Spec PyProof.Rows PySem.W
open Builtin Builtin.ObjectAttr
section
variable{prog:yai}{w:World}{A:yaj}{K:yae}{x C t:Addr}{cd:ClassData}{name:Str}{v:Value}
theorem qb2 {h:Heap} (X:K.In h) (hc:clsIn K C=some cd):∃c0 dd sl,h.get? C=some ⟨c0,dd,.cls cd,sl⟩:=by
 unfold clsIn at hc
 split at hc
 ·rename_i c0 dd cd' sl e
  cases hc
  exact⟨c0,dd,sl,X _ _ e⟩
 ·cases hc
theorem qj2 {R:ycU->yaa->Prop} {tk:Tok} {h:Heap} {g:Array ycr} {d:Drawn} {tt:Nat} {os:yff} (X:K.In h) (hx:h.get? x=some (xo C t none)) (hc:clsIn K C=some cd) (hp:refuseLoop (.ref x) "__setattr__" cd.mro=pure ()) (ho:cd.mro.contains (.type "object")=true) (hd:cd.hasDict=true) (ht:takerIn K C name=some none)
  (hq:∀h' tk' dx,h.get? dx=none->h'.get? x=some (xo C t (some dx))->h'.Ns1 dx (λy=>if y=name then some v else none)->(∀b o,b≠x->h.get? b=some o->h'.get? b=some o)->R (.ok (.ret .none)) ⟨h',g,d,tk',os⟩) :
  yb6 (model prog w) A (.call (.builtin "object.__setattr__") ⟨[.ref x,.str name tk,v],[]⟩) R ⟨h,g,d,tt,os⟩:=by
 have SF:=PySem.F.store_object
 have I:InstAt h x (xo C t none) C none:=⟨hx,rfl,rfl,trivial⟩
 have ne:cd.mro.isEmpty=false:=by cases q:cd.mro with|nil=>rw[q]at ho;cases ho|cons _ _=>rfl
 have sub:Looks (model prog w) h (yfD (.ref x) (.type "object")) true:=I.type.andThen (looks_mroIn X (by unfold mroIn;rw[hc,ycM,if_neg (by rw[ne];decide),ho]))
 refine ybj SF.slot.plain SF.entry (@check_slot (model prog w) _ _ ⟨h,g,d,tt,os⟩ "object.__setattr__" "object" "__setattr__" (.ref x) [.str name tk,v] [] _ SF.kind SF.split sub (SF.args (.ref x) (.str name tk) v) ?_)
 obtain⟨attr,ha,hr⟩:=Option.bind_eq_some_iff.mp ht
 have hm:Looks (model prog w) h (mroOf (.ref C)) cd.mro:=(looks_clsIn X hc).andThen .now
 have L3:Looks (model prog w) h (storeTaker? attr) none:=by
  cases attr with
  |none=>exact .now
  |some a=>
   obtain⟨b,hb,e⟩:=Option.map_eq_some_iff.mp hr
   refine(looks_takesIn X hb).andThen ?_
   cases b with
   |true=>simp at e
   |false=>exact .now
 rw[osa_eq,refuse_eq]
 refine yab (yab (I.type.here (yab (hm.here ?_))))
 rw[hp]
 refine yaq (yab (I.type.here (yab ((looks_findIn X ha).here (yab (L3.here ?_))))))
 obtain⟨c0,dd,sl,hC⟩:=qb2 X hc
 unfold storeInOwnDict
 have hx':=hx
 unfold xo at hx'
 generalize hS:storeInDict=S
 repeat (first|with_reducible refine yaS hx' ?_|with_reducible refine yaS hC ?_|wp_step)
 subst hS
 have hxK:(h.push {cls:=.type "dict",data:=.dict #[]}).get? x=some (xo C t none):=Heap.get?_push_of_some _ hx
 have hxs:x≠h.objs.size:=yaw (yag hx)
 have hgd:((h.push {cls:=.type "dict",data:=.dict #[]}).update x λo=>{cls:=o.cls,dict:=some h.objs.size,data:=o.data,slots:=o.slots}).get? h.objs.size
   = some {cls:=.type "dict",data:=.dict #[]} :=
  (Heap.get?_update_ne _ _ _ _ hxs.symm).trans (Heap.get?_push_at rfl rfl)
 have hnd:((h.push {cls:=.type "dict",data:=.dict #[]}).update x λo=>{cls:=o.cls,dict:=some h.objs.size,data:=o.data,slots:=o.slots}).Ns h.objs.size (λ_=>none) :=
  ⟨_,#[],_,hgd,rfl,λe he=>absurd he (by simp),λ_=>rfl⟩
 unfold storeInDict newKeyGuard
 refine yab (yaq (yab (wpAny_nsSet1 (Heap.Ns1.of_empty hnd) λh' hn' hs=>?_)))
 obtain⟨oD,esD,epD,hoD,hdD,hcD⟩:=hn'.count (Within.cons name v Within.nil)
 refine yab (wpAny_lookBehind hoD (by rw[hdD];exact pastItsLine_dict (yaH hcD (by rw[lC_,lN_,ybh];omega))) ?_)
 wp_walk
 refine hq h' _ h.objs.size (Heap.get?_none_of_le (yah _)) ?_ hn' (λb ob hbx hb=>?_)
 ·refine(hs.2 x hxs).trans (Heap.get?_update_self _ hxK rfl)
 ·exact(hs.2 b (yaw (yag hb))).trans ((Heap.get?_update_ne _ _ _ _ hbx).trans (Heap.get?_push_of_some _ hb))
end
end L2.Sk
namespace L2.Sk
open PySem PySem.Spec PyProof.Rows PySem.W
def XO(e C t:Addr)(x:Option Addr):HO:=.ext λh=>h.get? e=some (xo C t x)
def vv:List Value->Bool
 |.ref _::r=>vv r
 |l=>l==bmV
theorem qb3:∀{l:List Value},vv l=true->l.contains (.type "object")=true/\∀x:Value,refuseLoop x "__setattr__" l=pure ()
 |.ref c::r,e=>by
  obtain⟨h1,h2⟩:=qb3 (l:=r) e
  exact⟨by rw[ydi,h1,yc4],λx=>by rw[refuseLoop_ref];exact h2 x⟩
 | [],e=>by simp[vv,bmV]at e
 |.type n::r,e=>by
  have h:(ycz n::r)=bmV:=beq_iff_eq.mp e
  rw[h]
  exact⟨by decide +kernel,λx=>PySem.F.store_ValueError.passes x⟩
 |.none::r,e=>by simp[vv,bmV]at e
 |.bool _::r,e=>by simp[vv,bmV]at e
 |.int _ _::r,e=>by simp[vv,bmV]at e
 |.str _ _::r,e=>by simp[vv,bmV]at e
 |.builtin _::r,e=>by simp[vv,bmV]at e
 |.ellipsis::r,e=>by simp[vv,bmV]at e
 |.notImplemented::r,e=>by simp[vv,bmV]at e
 |.float _ _::r,e=>by simp[vv,bmV]at e
 |.bytes _ _::r,e=>by simp[vv,bmV]at e
structure qhk (K:Fr0) (C:Addr):Prop where
 cd:∃cd,clsIn K C=some cd/\vv cd.mro=true/\cd.hasDict=true
 sa:findIn K (.ref C) "__setattr__"=some (some (.builtin "object.__setattr__"))
 fa:findIn K (.ref C) "at"=some none
theorem qhk.tk{K:Fr0}{C:Addr}(x:qhk K C):takerIn K C "at"=some none:=by unfold takerIn;rw[x.fa];rfl
section
variable{X:Cx}{pins:List (Addr×Obj)}{σ:St}{H:Hp}{s:yaa}{A:yaj}{E:Value->yaa->Prop}{e C t:Addr}{x:Option Addr}
theorem qj3(I:Inv X pins σ H s)(he:H e=some (XO e C t x)):s.heap.get? e=some (xo C t x):=(show jf X.prog X.w H s.heap e (XO e C t x)from I.hok e _ he).1
theorem qj4{P:yai}{w:World}{H:Hp}{h:Heap}(he:h.get? e=some (xo C t x)):jf P w H h e (XO e C t x):=⟨he,⟨_,he⟩,λ_ _ h1 k=>k _ h1⟩
theorem qfS {P:yai} {w:World} {H':Hp} {h':Heap} {e:Addr} {o:HO} (hok:HOk P w H' h') (hHe:H' e=none) (new:jf P w (upd H' e o) h' e o):HOk P w (upd H' e o) h':=λb ob q=>by
 by_cases hb:b=e
 ·subst hb
  rw[qm]at q
  cases q
  exact new
 ·rw[qu hb]at q
  have ne':∀c u,H' c=some u->c≠e:=λc u q z=>by rw[z,hHe]at q;cases q
  exact(hok b ob q).stay (λ_ _ _ q=>q) (λc q=>by rw[qu (ne' c _ q)];exact q) (λc xs q=>by rw[qu (ne' c _ q)];exact q) λc ob y q=>by rw[qu (ne' c _ q)];exact q
theorem qj5 {v:V} {u:Value} {Q:Unit->yaa->Prop} (I:Inv X pins σ H s) (he:H e=some (XO e C t none)) (xc:qhk X.K C) (rv:jh v u)
  (h:∀dx s',H dx=none->Inv X pins σ (upd (upd H e (XO e C t (some dx))) dx (.xd [("at",v)])) s'->Q () s'):wpAny (model X.prog X.w) A (setAttr (.ref e) "at" u) Q E s:=by
 obtain⟨cd,h1,h2,h3⟩:=xc.cd
 obtain⟨m1,m2⟩:=qb3 h2
 have hx:=qj3 I he
 refine set_plain I.kIn (I:=(⟨hx,rfl,rfl,trivial⟩:InstAt s.heap e (xo C t none) C none)) xc.sa ?_
 refine qj2 (h:=s.heap) I.kIn hx h1 (m2 _) m1 h3 xc.tk λh' tk' dx n1 n2 n3 n4=>?_
 have hdx:H dx=none:=by
  cases q:H dx with
  |none=>rfl
  |some o=>
   obtain⟨o',q'⟩:=zv (I.hok _ _ q)
   rw[n1]at q';cases q'
 have ned:dx≠e:=λz=>by rw[z,he]at hdx;cases hdx
 have mu:Mut (H e):=by rw[he];exact ycf
 have u1:Un (frs X.stack) [] H (upd H e (XO e C t (some dx))) s.heap h':=Un.write mu (.inl rfl) (λb u hb q=>n4 b u hb q) ⟨_,n2⟩
 have k1:HOk X.prog X.w (upd H e (XO e C t (some dx))) h':=I.hok.write mu (.inl rfl) (λb u hb q=>n4 b u hb q) ⟨_,n2⟩ (qj4 n2)
 have hd1:upd H e (XO e C t (some dx)) dx=none:=by rw[qu ned];exact hdx
 refine h dx _ hdx (I.call' (s':={s with heap:=h',toks:=tk' }) (ch:=[]) rfl (qa3 u1 n1 hd1) (qfS k1 hd1 ⟨_,n3,λf=>?_⟩) I.bare (λb hb=>nomatch hb))
 by_cases q:f="at"
 ·subst q
  exact rv
 ·have:(f==("at":Str))=false:=beq_eq_false_iff_ne.mpr q
  show qkP (yfu f [("at",v)]) (if f="at" then some u else none)
  rw[if_neg q,yaP,this]
  exact ycf
def qnu(ta tv:TE)(K:Fr0):TS:=λD σ H=>tv σ H λy H1=>ta σ H1 λx H2=>∃e C t,x=.ref e/\H2 e=some (XO e C t none)/\qhk K C/\∀dx,H2 dx=none->D.nx σ (upd (upd H2 e (XO e C t (some dx))) dx (.xd [("at",y)]))
theorem qj6 {o value:Expr} {ta tv:TE} {pos pos':Pos} (ha:PE X o ta) (hv:PE X value tv) (hs:ycO value (some (.Attribute o "at" pos')) pos.line X.env=pure false):PS X (.Assign [.Attribute o "at" pos'] value pos) (qnu ta tv X.K):=by
 intro pins s σ H D I h
 refine plainObj_wpAny_Assign_Attribute (thn (hv pins s σ H _ I h) λu s1 ⟨y,H1,I1,ry,q⟩=>thn (ha pins s1 σ H1 _ I1 q) λov s2 ⟨x,H2,I2,rx,e,C,t,ex,ea,c,q2⟩=>?_) hs
 subst ex
 obtain rfl:ov=yam e:=rx
 exact qj5 I2 ea c ry λdx s3 hd I3=>⟨σ,_,I3,q2 dx hd⟩
end
end L2.Sk
namespace L2.Sk
open PySem PySem.Spec PyProof.Rows PySem.W
structure XI (base:Heap) (C fI:Addr):Prop where
 ex:∃nm q N bs bm hdct sn sub ab col dd k0 k1 k2 k3 k5 mN,base.get? C=some (ybu nm q C N bs bm hdct sn sub ab col dd k0 k1 k2 k3 k5 "ValueError.__new__")/\base.Ns N mN/\mN "__init__"=some (.ref fI)/\yfg base bmV bm
section
variable{X:Cx}{pins:List (Addr×Obj)}{σ:St}{H:Hp}{s:yaa}{A:yaj}{E:Value->yaa->Prop}{e C t fI:Addr}{x:Option Addr}
theorem qei {v:V} {u:Value} {Q:Value->yaa->Prop} (I:Inv X pins σ H s) (he:H e=some (XO e C t x)) (xi:XI X.base C fI) (rv:jh v u)
  (h:∀t' s',H t'=none->Inv X pins σ (upd (upd H t' (.tup [v])) e (XO e C t' x)) s'->Q .none s'):wpAny (model X.prog X.w) A (call (.builtin "ValueError.__init__") [.ref e,u]) Q E s:=by
 obtain⟨nm,q,N,bs,bm,hdct,sn,sub,ab,col,dd,k0,k1,k2,k3,k5,mN,hC,hN,hi,T⟩:=xi.ex
 have F:=yck
 have hx:=qj3 I he
 have hC1:=I.bk _ _ hC
 have T1:=T.keeps I.bk
 have I':=I
 obtain⟨hp,g,d,tk,os⟩:=s
 refine ycV (ybj F.init.plain F.initEntry (wpAny_check_init_subT F T1 hC1 hx rfl ?_))
 have hx':(hp.push {cls:=.type "tuple",data:=.seq #[u]}).get? e=some (xo C t x):=Heap.get?_push_of_some _ hx
 unfold xo at hx'
 wp_walk
 have nt:H hp.objs.size=none:=I.hok.fresh (yah _)
 have e1:(hp.push {cls:=.type "tuple",data:=.seq #[u]}).get? hp.objs.size=some {cls:=.type "tuple",data:=.seq #[u]}:=Heap.get?_push_size _ rfl
 have I1:=I.laid (a:=hp.objs.size) (o:=.tup [v]) (h':=hp.push {cls:=.type "tuple",data:=.seq #[u]}) (t':=tk) (λb u q=>Heap.get?_push_of_some _ q) (yah _) ⟨by rw[ybh];show 1<=_;omega,[u],.cons rv .nil,yde hp _⟩
 have ne:e≠hp.objs.size:=yaw (yag hx)
 have he1:upd H hp.objs.size (.tup [v]) e=some (XO e C t x):=by rw[qu ne];exact he
 have e2:((hp.push {cls:=.type "tuple",data:=.seq #[u]}).update e (ybR λx=>x.setIfInBounds 0 (yam hp.objs.size))).get? e=some (xo C hp.objs.size x):=Heap.get?_update_self _ (Heap.get?_push_of_some _ hx) rfl
 have I2:=I1.write (x:=e) (e:=e) (o:=XO e C hp.objs.size x) (h':=(hp.push {cls:=.type "tuple",data:=.seq #[u]}).update e (ybR λx=>x.setIfInBounds 0 (yam hp.objs.size))) (t':=tk) (by rw[he1];exact ycf) (.inl rfl) (λb u hb q=>(Heap.get?_update_other _ _ (yaU hb)).trans q) ⟨_,e2⟩ (qj4 e2)
 exact h hp.objs.size _ nt I2
end
structure qnv (K:Fr0) (S:Addr):Prop where
 rd:readsIn K S (.type "type")=true
 fc:findCls K (.ref S) (.type "type") "__init__"=some (.val (.builtin "ValueError.__init__"))
 ga:specialIn K (.ref S) "__getattribute__"=some (some (.builtin "type.__getattribute__"))
def qmi(base:Heap)(t:TA):TE:=λσ H Q=>t σ H λvs H1=>∃e C tt xx v fI,vs=[.ref e,v]/\H1 e=some (XO e C tt xx)/\XI base C fI/\∀t',H1 t'=none->Q .non (upd (upd H1 t' (.tup [v])) e (XO e C t' xx))
theorem qhl {X:Cx} {x:Str} {S:Addr} {e:Expr} {es:List Expr} {t:TA} {np apos pos:Pos} {pl:Sem Bool} (hg:Gl X x) (hm:X.mg x=some (.ref S)) (xs:qnv X.K S) (ha:PA X (e::es) t)
  (hd:(x==("__debug__":Str))=false:=by decide) (hst:yac (e::es) X.env=(false,eval e X.env)::yac es X.env:=by rfl) (hpl:(yaz pos (yac es X.env)).any (·.1)=false:=by rfl)
  (ht:eval (.Call (.Attribute (.Name x np) "__init__" apos) (e::es) [] pos) X.env=(do
   let ov <-eval (.Name x np) X.env
   yc7 apos.atName
   let (f,first) <-ybr [ov] (getMethod ov "__init__" pl)
   yfz pos f first (yaz pos (yac (e::es) X.env)) (ycK pos (yb2 [] X.env))):=by rfl) :
  PE X (.Call (.Attribute (.Name x np) "__init__" apos) (e::es) [] pos) (qmi X.base t):=by
 intro pins s σ H Q I h
 have hn:PE X (.Name x np) (λ_ H Q=>Q (.ref S) H):=wH hg hm rfl hd
 refine PySem.W.methodCall_KW (pl:=pl) (thn (hn pins s σ H (λv H1=>v=.ref S/\H1=H) I ⟨rfl,rfl⟩) λf s1 h1=>?_) ht
 obtain⟨v,H1,I1,rv,rfl,rfl⟩:=h1
 obtain rfl:f=yam S:=rv
 refine method_cls I1.kIn xs.ga (cls_value I1.kIn xs.rd xs.fc (by decide +kernel) ?_)
 have I2:Inv X pins σ H1 {s1 with toks:=s1.toks+1}:=I1.tok _
 have hA:=ha pos pins _ σ H1 _ I2 h
 show wpAny _ _ (yfz pos (.builtin "ValueError.__init__") [] _ _) _ _ _
 rw[hst]at hA |-
 refine ycF (by show(false||(yaz pos (yac es X.env)).any (·.1))=false;rw[hpl]<;>rfl) (ybH ?_)
 refine thn hA λus s2 ⟨vs,H2,I3,r2,e',C,tt,xx,v',fI,ev,he,xi,q2⟩=>?_
 subst ev
 obtain⟨u1,u2,rfl,ru1,ru2⟩:=r2.two
 obtain rfl:u1=yam e':=ru1
 exact qei I3 he xi ru2 λt' s' ht' I4=>⟨.non,_,I4,rfl,q2 t' ht'⟩
def qmj (base:Heap) (C:Addr):Sp:=λvs H Q _=>∃e t n,vs=[.ref e,.int n]/\H e=some (XO e C t none)/\(∃fI,XI base C fI)/\∀t' dx H',H dx=none->H' dx=some (.xd [("at",.int n)])->H' e=some (XO e C t' (some dx)) ->
 (∀b o,b≠e->H b=some o->H' b=some o)->(∀b,H' b=none->H b=none)->Q .non H'
end L2.Sk
namespace L2.Sk
open PySem PySem.Spec PyProof.Rows PySem.W
theorem qhm {P:yai} {w:World} {K:yae} {mg:Str->Option Value} {base:Heap} {st:Stmt} {f C S:Addr} {fd:yaD} {x qual txt:Str} {p1 p2 p3 p4 p5 p6 p7 p8 p9 p10:Pos} {j1} (F:Fun K "__init__" qual st f fd) (Sc:qF ["self","at"] ["self","at"] (qh st))
  (hm:mg x=some (.ref S)) (xs:qnv K S) (xc:qhk K C)
  (hb:qE st=[.Expr (.Call (.Attribute (.Name x p1) "__init__" p2) [.Name "self" p3,.Constant (.str txt) j1 p4] [] p5) p6,.Assign [.Attribute (.Name "self" p7) "at" p8] (.Name "at" p9) p10])
  (hs:∀(X:Cx),X.N=(["self","at"]:List Str)->X.env.scope=qh st->Gl X x/\PE X (.Name "self" p3) (qgy 0)/\PE X (.Name "self" p7) (qgy 0)/\PE X (.Name "at" p9) (qgy 1))
  (ht:∀env:yax,env.scope=qh st->∃pl:Sem Bool,eval (.Call (.Attribute (.Name x p1) "__init__" p2) [.Name "self" p3,.Constant (.str txt) j1 p4] [] p5) env=(do
   let ov <-eval (.Name x p1) env
   yc7 p2.atName
   let (f,first) <-ybr [ov] (getMethod ov "__init__" pl)
   yfz p5 f first (yaz p5 (yac [.Name "self" p3,.Constant (.str txt) j1 p4] env)) (ycK p5 (yb2 [] env))))
  (hd:(x==("__debug__":Str))=false:=by decide) (hw:∀env,ycO (.Name "at" p9) (some (.Attribute (.Name "self" p7) "at" p8)) p10.line env=pure false:=by intro _;rfl) :
  uY P w K mg base CX0 1 f fd ["self","at"] (qmj base C):=by
 refine F.ok Sc (λvs H Q E h=>?_) (λcdv A outer s H vs Q E hr h=>?_)
 ·obtain⟨e,t,n,rfl,_⟩:=h
  rfl
 ·obtain⟨e,t,n,rfl,he,⟨fI,xi⟩,k⟩:=h
  obtain⟨g1,v1,v2,v3⟩:=hs ((qch CX0 P w K mg base ["self","at"] qual (qh st) f cdv A outer s H E).nox) rfl rfl
  obtain⟨pl,ht⟩:=ht ((qch CX0 P w K mg base ["self","at"] qual (qh st) f cdv A outer s H E).nox).env rfl
  rw[hb]
  refine⟨_,wx (qeD (qhl (pl:=pl) g1 hm xs (ja v1 (ja qeA uU)) hd rfl rfl ht)) (qeC (qj6 v2 v3 (hw _))),?_⟩
  refine⟨_,rfl,e,C,t,none,_,fI,rfl,he,xi,λt' ht'=>?_⟩
  have net:e≠t':=qL he ht'
  refine⟨_,rfl,_,rfl,e,C,t',rfl,qm,xc,λdx hdx=>?_⟩
  have h1:=yo hdx
  have h2:=yo h1
  have ned:e≠dx:=λz=>by subst z;rw[qm]at hdx;cases hdx
  have netd:t'≠dx:=λz=>by subst z;rw[qm]at h1;cases h1
  refine k t' dx _ h2 qm (by rw[qu ned,qm]) (λb o hb hq=>?_) λb hb=>yo (yo (yo (yo hb)))
  rw[qu (qL hq h2),qu hb,qu hb,qu (qL hq ht')];exact hq
end L2.Sk
namespace L2.Sk
open PySem PySem.Spec PySem.Calls PyProof.Rows PySem.W
open Builtin Builtin.ObjectAttr
section
variable{prog:yai}{w:World}{A:yaj}{E:Value->yaa->Prop}{K:Frag}{h:Heap}{g:Array ycr}{d:Drawn}{t:Nat}{os:yff}{e C dx:Addr}{oe:Obj}{vs:Array Value}{cd:ClassData}{mA:Str->Option Value}{v:Value}
theorem qhn (hc:clsIn K C=some cd) (hd:cd.hasDict=true) (ha:findIn K (.ref C) "at"=some none) (X:K.In h) (hx:h.get? e=some oe) (hcl:oe.cls=.ref C) (hdt:oe.data=.fields vs) (hdx:oe.dict=some dx) (hns:h.Ns1 dx mA) (hv:mA "at"=some v)
  {tk:Tok} {Q:Fin->yaa->Prop} (hq:Q (.done (.ret v)) ⟨h,g,d,t,os⟩) :
  wpAny (model prog w) A (yda.«object.__getattribute__» ⟨[.ref e,.str "at" tk],[]⟩) Q E ⟨h,g,d,t,os⟩:=by
 have L1:=looks_findIn (M:=model prog w) X ha
 have L2:=looks_clsIn (M:=model prog w) X hc
 obtain⟨c0,d0,o0,s0⟩:=oe
 dsimp only at hcl hdt hdx
 subst hcl hdt hdx
 have I:qgp h e C:=⟨_,hx,rfl⟩
 have L0:=I.looks (M:=model prog w)
 obtain⟨cc0,cdd,csl,hC⟩:=qb2 X hc
 unfold yda.«object.__getattribute__» find
 repeat (first|with_reducible refine L0.at ?_|with_reducible refine L1.at ?_|with_reducible refine L2.at ?_|with_reducible refine yaS hx ?_|with_reducible refine yaS hC ?_|(with_reducible refine wpAny_nsGet hns.ns ?_;rw[hv])|wp_step)
 exact hq
theorem qj7 (FA:ye3 "ValueError") (hga:findIn K (.ref C) "__getattribute__"=some (some (.builtin "BaseException.__getattribute__"))) (hgt:findIn K (.ref C) "__getattr__"=some none) (hb:Looks (model prog w) h (ye2 (.ref C) (.type "BaseException")) true)
  (hc:clsIn K C=some cd) (hd:cd.hasDict=true) (ha:findIn K (.ref C) "at"=some none) (X:K.In h) (hx:h.get? e=some oe) (hcl:oe.cls=.ref C) (hdt:oe.data=.fields vs) (hdx:oe.dict=some dx) (hns:h.Ns1 dx mA) (hv:mA "at"=some v) (hh:handedOut v=pure v)
  {expr:Bool} {Q:Value->yaa->Prop} (hq:Q v ⟨h,g,d,t+1,os⟩):wpAny (model prog w) A (getAttr (.ref e) "at" expr) Q E ⟨h,g,d,t,os⟩:=by
 have I:qgp h e C:=⟨_,hx,hcl⟩
 have L0:=I.looks (M:=model prog w)
 have L1:=looks_findIn (M:=model prog w) X hga
 have L2:=looks_findIn (M:=model prog w) X hgt
 have f3:=FA.ga.bind (.ref e)
 have hx0:(expr&&ye4 (ybe "BaseException.__getattribute__"))=false:=by cases expr<;>rfl
 have hx2:(ybe "BaseException.__getattribute__"==ybe "object.__getattribute__")=false:=by decide +kernel
 have hx1:(ye4 (yam C)&&ybe "BaseException.__getattribute__"==ybe "object.__getattribute__")=false:=by rw[hx2];rfl
 unfold getAttr getAttrBy
 repeat (any_goals (first|assumption|with_reducible refine L0.at ?_|with_reducible refine L1.at ?_|with_reducible refine L2.at ?_|wp_step))
 refine ybj FA.ga.plain F.entry_bexc_ga (qc6 hb I (qhn hc hd ha X hx hcl hdt hdx hns hv ?_))
 repeat (any_goals (first|assumption|wp_step))
end
end L2.Sk
namespace L2.Sk
open PySem PySem.Spec PyProof.Rows
def exD (x:Exn):D:=match x.val with
 |.int k => .exv x.cls k
 |_ => .exc x.cls
def uw (RN:List Str) (n i:Nat) (f g:MS):MS:=λZ=>match f Z with
 | .exc x Z'=>if RN.contains x.cls then match g ((yan n none).set i (some (exD x))) with
   |.ok (.rt d _) => .ok (.rt d Z')
   |_ => .bad
  else .bad
 |r=>r
section
variable{X:Cx}{c:Fc}{pos np hpos p1 p2 p3 p4:Pos}{body:List Stmt}
theorem qnw {x n:Str} {i:Nat} {S:Addr} {h0:Stmt} {hs:List Stmt} {f:MS} {g:MS} {RN:List Str} (hN:X.N.Nodup) (hcx:X.stack=X.env::X.outer) (hf:X.env.frame=some X.env.locals)
  (hcl:qnp X.K X.base RN S) (hgS:Gl X x) (hmS:X.mg x=some (.ref S))
  (hh:∀(e:Addr)(H6:Hp),AloneA (X.A.mark (some (.ref e))) H6->DSs (hdX X e) (ch H6) (h0::hs) g)
  (hb:∀(xe:Value->yaa->Prop)(pn:List (Addr×Obj))(E:XK)(cE:Exn->Hp->Prop),XL2 (toX X xe pn) (reE c cE) (clR X.K RN) E->DSs (toX X xe pn) (reE c cE) body f)
  (hi:X.N[i]? = some n:=by rfl) (hx:X.env.scope.names.lookup n=some .cell:=by rfl) (hkn:X.env.kindOf n=some .cell:=by rfl) (hfn:X.fn n=true:=by rfl)
  (hdx:(x==("__debug__":Str))=false:=by decide)  :
  DS X c (.Try body [.ExceptHandler (some (.Name x np)) (some n) (h0::hs) hpos] [] [] pos) (uw RN X.N.length i f g):=by
 refine⟨λD σ H=>∃Z,Rep X.K c Z σ H/\WpS X.K c σ H D (uw RN X.N.length i f g Z),?_,λZ σ H D r h=>⟨Z,r,h⟩⟩
 rintro pins s σ H D I ⟨Z,r,w⟩
 refine wpAny_Try_except ?_
 have hk:=I.ok
 let xe:Value->yaa->Prop:=λe sY=>wpAny (model X.prog X.w) X.A (yby e X.env) (λ_ sV=>wpAny (model X.prog X.w) X.A (ybJ e none) (λ_ sJ=>wpAny (model X.prog X.w) X.A (handleBy e X.env [.ExceptHandler (some (.Name x np)) (some n) (h0::hs) hpos]) (SP X pins D) X.xe sJ) X.xe sV) X.xe sY
 let cE:Exn->Hp->Prop:=λz H'=>∃Z' σ',f Z=.exc z Z'/\Rep X.K c Z' σ' H'/\GrS c.O σ H σ' H'
 let E:XK:=λcv dd H'=>∃C z,cv=.ref C/\clR X.K RN z.cls=some C/\cE z H'/\XV z.val dd H'
 have L : XL2 (toX X xe (X.pn++pins)) (reE c cE) (clR X.K RN) E:=by
  refine⟨?_,λz C dd H' h1 h2 h3=>⟨C,z,rfl,h1,h2,h3⟩⟩
  intro pins2 σ2 H2 s2 u s' I2 hx2
  obtain⟨e,T,C,ddx,H',rfl,os,bare,un,hok,he,hT,hHe,hHT,Fl,C',z,hC',hz,⟨Z',σ',ef,r',g'⟩,xv⟩:=hx2
  have eC:C=C':=yeI hC'
  subst eC
  have I3:Inv X pins σ2 H2 s2:=jK I2
  have hz2:∀b∈[e,T],H' b=none:=λb hb=>by
   simp only[yar,nN_,or_false]at hb
   rcases hb with rfl|rfl
   ·exact hHe
   ·exact hHT
  have hz3:∀b∈[e,T],s2.heap.get? b=none:=λb hb=>by
   simp only[yar,nN_,or_false]at hb
   rcases hb with rfl|rfl
   ·exact he
   ·exact hT
  have hl:s'.heap.FunFrames X.base X.stack:=qa2 I3 un
  have hA:X.A.frames=some (X.env::X.outer):=by rw[<-hcx];exact hk.frames
  show wpAny _ _ _ _ _ _
  rw[hcx]at hl
  refine qab hA hl hf Fl λh3 T3 y1 y2 y3=>?_
  rw[<-hcx]at y1
  have un3:Un (frs X.stack) [] H2 H' s2.heap h3:=qaF un hz3 y1
  have hok3:HOk X.prog X.w H' h3:=vO I3 un hok hz2 y1
  have I4:Inv X pins σ2 H' {s' with heap:=h3}:=I3.call' (s':={s' with heap:=h3}) (ch:=[]) os un3 hok3 bare (λb hb=>nomatch hb)
  have up:∀b,s'.heap.get? b=none->s2.heap.get? b=none:=λb hb=>by
   cases q:s2.heap.get? b with
   |none=>rfl
   |some o=>
    obtain⟨o',q'⟩:=un.there b o q (by simp)
    rw[hb]at q';cases q'
  have hT3:s2.heap.get? T3=none:=y3.elim (λz=>z▸hT) (up T3)
  have hHT3:H' T3=none:=y3.elim (λz=>z▸hHT) λz=>by
   cases q:H' T3 with
   |none=>rfl
   |some o=>
    obtain⟨o',q'⟩:=zv (hok _ _ q)
    rw[z]at q';cases q'
  refine yeN (yet ?_) (by intro q;cases q)
  refine wF (X:=hdX X e) (qdn e I4) hgS hmS ?_ hdx
  obtain⟨bmS,xS⟩:=hcl.sup
  obtain⟨bm,xC,hin⟩:=hcl.own _ _ hz
  obtain⟨nmS,qS,NS,bsS,hdctS,snS,subS,abS,colS,ddS,j0,j1,j2,j3,j5,newIdS,_,_,_,_,hS,_⟩:=xS.ex
  obtain⟨nm,q,N,bs,hdct,sn,sub,ab,col,dd,k0,k1,k2,k3,k5,newId,hC⟩:=xC.ex
  obtain⟨oe,vs,oT,ts,a0,hoe,hoc,hod,_⟩:=id y2
  refine uW (M:=model X.prog X.w) (A:=X.A.mark (some (.ref e))) (h:=h3) (g:=s'.gens) (d:=s'.drawn) (t:=s'.toks) (os:=s'.os) (I4.bk _ _ hC) (I4.bk _ _ hS) hoe hoc.1 xS.hasBase ?_
  rw[hin]
  show yb6 _ _ _ _ _
  refine ydF ?_
  have hl3:h3.FunFrames X.base X.stack:=qa2 I3 un3
  refine qaD (s:={s' with heap:=h3}) hl3 y2 λh4 T4 z1 z2 z3=>?_
  have hz4:∀b∈[e,T3],H' b=none:=λb hb=>by
   simp only[yar,nN_,or_false]at hb
   rcases hb with rfl|rfl
   ·exact hHe
   ·exact hHT3
  have hz5:∀b∈[e,T3],s2.heap.get? b=none:=λb hb=>by
   simp only[yar,nN_,or_false]at hb
   rcases hb with rfl|rfl
   ·exact he
   ·exact hT3
  have un4:Un (frs X.stack) [] H2 H' s2.heap h4:=qaF un3 hz5 z1
  have hok4:HOk X.prog X.w H' h4:=vO I3 un3 hok3 hz4 z1
  obtain⟨oe4,vs4,oT4,ts4,a04,hoe4,hoc4,hod4,_⟩:=id z2
  have I5:Inv X pins σ2 (upd H' e (.frz oe4 (.own e))) {s' with heap:=h4}:=I3.call' (s':={s' with heap:=h4}) (ch:=[]) os (qa3 un4 he hHe) (qdp hok4 hHe hoe4) bare (λb hb=>nomatch hb)
  refine yS (v:=.ref e) I5 hN hi (.inr hx) rfl (λs5 I6=>?_) (.inl hfn)
  have sm:zX H' (upd H' e (.frz oe4 (.own e))):=qw hHe _
  have al:AloneA (X.A.mark (some (.ref e))) (upd H' e (.frz oe4 (.own e))):=⟨e,oe4,.own e,vs4,rfl,qm,hod4,hoc4.2.1⟩
  have hσl:i<σ2.length:=by rw[I5.len];exact(gI_.mp hi).1
  have hex:∀{A:Addr->Prop},Is X.K A (upd H' e (.frz oe4 (.own e))) (exD z) (.ref e):=λ{A}=>by
   unfold exD
   unfold XV at xv
   split
   ·rename_i k ek
    rw[ek]at xv
    obtain⟨dx,od,h1,h2⟩:=xv
    have nd:dx≠e:=λq=>by rw[q,hHe]at h2;cases h2
    exact⟨e,rfl,C,(v4 hz).2,hcl.ki _ _ hz,oe4,vs4,qm,⟨hoc4.1,hod4⟩,dx,od,hoc4.2.2.2.trans h1,by rw[qu nd];exact h2⟩
   ·exact⟨e,rfl,C,(v4 hz).2,hcl.ki _ _ hz,oe4,vs4,qm,hoc4.1,hod4⟩
  have rh:=qil (K:=X.K) (n:=X.N.length) (i:=i) (H6:=upd H' e (.frz oe4 (.own e))) (σ:=σ2) (d:=exD z) (v:=.ref e) I5.len hex (r'.tb.same sm)
  have bad:∀r,g ((yan X.N.length none).set i (some (exD z)))=r->(∀d Zd,r ≠ .ok (.rt d Zd))->False:=λr em hr=>by
   simp only[uw,ef,(v4 hz).1,em,if_true]at w
   first
    |exact w.elim
    | (split at w
       ·exact hr _ _ rfl
       ·exact w.elim)
  cases em:g ((yan X.N.length none).set i (some (exD z))) with
  |bad=>exact(bad _ em λ_ _ q=>by cases q).elim
  |exc z' Z''=>exact(bad _ em λ_ _ q=>by cases q).elim
  | ok fl=>
   cases fl with
   |nx _=>exact(bad _ em λ_ _ q=>by cases q).elim
   |bk _=>exact(bad _ em λ_ _ q=>by cases q).elim
   |ct _=>exact(bad _ em λ_ _ q=>by cases q).elim
   | rt d Zd=>
    simp only[uw,ef,(v4 hz).1,em,if_true]at w
    obtain⟨te,pe,we⟩:=hh e _ al
    have run:=pe pins s5 _ _ ({nx:=λ_ _=>False,rt:=D.rt}:qes) (qdn e I6) (we _ _ _ _ rh (by
     rw[em]
     exact λv σ7 H6 r6 i6 _=>by
      have sm6:zX (upd H' e (.frz oe4 (.own e))) H6:=λb o q=>r6.kp b o q λz=>z
      exact w v σ' H6 (r'.same (λb o q=>sm6 b o (sm b o q))) (Is.ext Ext.refl (λa ha _=>r'.b0.1 a (r'.dm a (sm.free ha))) i6) (g'.trans (Gr.of_same (λb o q=>sm6 b o (sm b o q))).s)))
    refine yaF run (λfl s6 h6=>?_) (λ_ _ z=>z.elim)
    cases fl with
    |next=>obtain⟨_,_,_,z⟩:=h6;exact z.elim
    |brk=>obtain⟨_,_,_,z⟩:=h6;exact z.elim
    |cont=>obtain⟨_,_,_,z⟩:=h6;exact z.elim
    |ret u=>
     obtain⟨v,σ7,H7,I7,rv,q7⟩:=h6
     have I8:=qdo hk I7
     exact qfJ I8 hN hi hx hkn hfn λs9 I9=>⟨v,_,H7,I9,rv,q7⟩
 obtain⟨t,p,wt⟩:=hb xe (X.pn++pins) E cE L
 have w':WpS X.K (reE c cE) σ H D (f Z):=by
  cases ef:f Z with
  |bad=>simp only[uw,ef]at w;exact w
  |exc z Z'=>exact λσ' H' r' g'=>⟨Z',σ',ef,r'.unE,g'⟩
  |ok fl=>
   simp only[uw,ef]at w
   cases fl with
   |nx Z'=>exact λσ' H' r' g'=>w σ' H' r'.unE g'
   |rt d Z'=>exact λv σ' H' r' i' g'=>w v σ' H' r'.unE i' g'
   |bk Z'=>exact λσ' H' r' g'=>w σ' H' r'.unE g'
   |ct Z'=>exact λσ' H' r' g'=>w σ' H' r'.unE g'
 have run:=p [] s σ H D (qik I) (wt Z σ H D r.reE w')
 refine yaF run (λfl s1 h1=>?_) (λ_ _ z=>z)
 cases fl with
 |next=>
  obtain⟨σ1,H1,I1,q1⟩:=h1
  exact ybV ⟨σ1,H1,jK I1,q1⟩
 |brk=>obtain⟨σ1,H1,I1,q1⟩:=h1;exact⟨σ1,H1,jK I1,q1⟩
 |cont=>obtain⟨σ1,H1,I1,q1⟩:=h1;exact⟨σ1,H1,jK I1,q1⟩
 |ret u=>obtain⟨v,σ1,H1,I1,rv,q1⟩:=h1;exact⟨v,σ1,H1,jK I1,rv,q1⟩
theorem qj8 {x n:Str} {i:Nat} {S:Addr} {h0:Stmt} {hs:List Stmt} {f:MS} {g:MS} {RN:List Str} (hN:X.N.Nodup) (hcx:X.stack=X.env::X.outer) (hf:X.env.frame=some X.env.locals)
  (hcl:qnp X.K X.base RN S) (hgS:Gl X x) (hmS:X.mg x=some (.ref S))
  (hh:∀(e:Addr)(H6:Hp),AloneA (X.A.mark (some (.ref e))) H6->DSs (hdX X e) (ch H6) (h0::hs) g)
  (hb:∀(xe:Value->yaa->Prop)(pn:List (Addr×Obj))(E:XK)(cE:Exn->Hp->Prop),XL2 (toX X xe pn) (reE c cE) (clR X.K RN) E->DSs (toX X xe pn) (reE c cE) body f)
  (hi:X.N[i]? = some n:=by rfl) (hx:X.env.scope.names.lookup n=some .local:=by rfl) (hkn:X.env.kindOf n=some .local:=by rfl)
  (hdx:(x==("__debug__":Str))=false:=by decide)  :
  DS X c (.Try body [.ExceptHandler (some (.Name x np)) (some n) (h0::hs) hpos] [] [] pos) (uw RN X.N.length i f g):=by
 refine⟨λD σ H=>∃Z,Rep X.K c Z σ H/\WpS X.K c σ H D (uw RN X.N.length i f g Z),?_,λZ σ H D r h=>⟨Z,r,h⟩⟩
 rintro pins s σ H D I ⟨Z,r,w⟩
 refine wpAny_Try_except ?_
 have hk:=I.ok
 let xe:Value->yaa->Prop:=λe sY=>wpAny (model X.prog X.w) X.A (yby e X.env) (λ_ sV=>wpAny (model X.prog X.w) X.A (ybJ e none) (λ_ sJ=>wpAny (model X.prog X.w) X.A (handleBy e X.env [.ExceptHandler (some (.Name x np)) (some n) (h0::hs) hpos]) (SP X pins D) X.xe sJ) X.xe sV) X.xe sY
 let cE:Exn->Hp->Prop:=λz H'=>∃Z' σ',f Z=.exc z Z'/\Rep X.K c Z' σ' H'/\GrS c.O σ H σ' H'
 let E:XK:=λcv dd H'=>∃C z,cv=.ref C/\clR X.K RN z.cls=some C/\cE z H'/\XV z.val dd H'
 have L : XL2 (toX X xe (X.pn++pins)) (reE c cE) (clR X.K RN) E:=by
  refine⟨?_,λz C dd H' h1 h2 h3=>⟨C,z,rfl,h1,h2,h3⟩⟩
  intro pins2 σ2 H2 s2 u s' I2 hx2
  obtain⟨e,T,C,ddx,H',rfl,os,bare,un,hok,he,hT,hHe,hHT,Fl,C',z,hC',hz,⟨Z',σ',ef,r',g'⟩,xv⟩:=hx2
  have eC:C=C':=yeI hC'
  subst eC
  have I3:Inv X pins σ2 H2 s2:=jK I2
  have hz2:∀b∈[e,T],H' b=none:=λb hb=>by
   simp only[yar,nN_,or_false]at hb
   rcases hb with rfl|rfl
   ·exact hHe
   ·exact hHT
  have hz3:∀b∈[e,T],s2.heap.get? b=none:=λb hb=>by
   simp only[yar,nN_,or_false]at hb
   rcases hb with rfl|rfl
   ·exact he
   ·exact hT
  have hl:s'.heap.FunFrames X.base X.stack:=qa2 I3 un
  have hA:X.A.frames=some (X.env::X.outer):=by rw[<-hcx];exact hk.frames
  show wpAny _ _ _ _ _ _
  rw[hcx]at hl
  refine qab hA hl hf Fl λh3 T3 y1 y2 y3=>?_
  rw[<-hcx]at y1
  have un3:Un (frs X.stack) [] H2 H' s2.heap h3:=qaF un hz3 y1
  have hok3:HOk X.prog X.w H' h3:=vO I3 un hok hz2 y1
  have I4:Inv X pins σ2 H' {s' with heap:=h3}:=I3.call' (s':={s' with heap:=h3}) (ch:=[]) os un3 hok3 bare (λb hb=>nomatch hb)
  have up:∀b,s'.heap.get? b=none->s2.heap.get? b=none:=λb hb=>by
   cases q:s2.heap.get? b with
   |none=>rfl
   |some o=>
    obtain⟨o',q'⟩:=un.there b o q (by simp)
    rw[hb]at q';cases q'
  have hT3:s2.heap.get? T3=none:=y3.elim (λz=>z▸hT) (up T3)
  have hHT3:H' T3=none:=y3.elim (λz=>z▸hHT) λz=>by
   cases q:H' T3 with
   |none=>rfl
   |some o=>
    obtain⟨o',q'⟩:=zv (hok _ _ q)
    rw[z]at q';cases q'
  refine yeN (yet ?_) (by intro q;cases q)
  refine wF (X:=hdX X e) (qdn e I4) hgS hmS ?_ hdx
  obtain⟨bmS,xS⟩:=hcl.sup
  obtain⟨bm,xC,hin⟩:=hcl.own _ _ hz
  obtain⟨nmS,qS,NS,bsS,hdctS,snS,subS,abS,colS,ddS,j0,j1,j2,j3,j5,newIdS,_,_,_,_,hS,_⟩:=xS.ex
  obtain⟨nm,q,N,bs,hdct,sn,sub,ab,col,dd,k0,k1,k2,k3,k5,newId,hC⟩:=xC.ex
  obtain⟨oe,vs,oT,ts,a0,hoe,hoc,hod,_⟩:=id y2
  refine uW (M:=model X.prog X.w) (A:=X.A.mark (some (.ref e))) (h:=h3) (g:=s'.gens) (d:=s'.drawn) (t:=s'.toks) (os:=s'.os) (I4.bk _ _ hC) (I4.bk _ _ hS) hoe hoc.1 xS.hasBase ?_
  rw[hin]
  show yb6 _ _ _ _ _
  refine ydF ?_
  have hl3:h3.FunFrames X.base X.stack:=qa2 I3 un3
  refine qaD (s:={s' with heap:=h3}) hl3 y2 λh4 T4 z1 z2 z3=>?_
  have hz4:∀b∈[e,T3],H' b=none:=λb hb=>by
   simp only[yar,nN_,or_false]at hb
   rcases hb with rfl|rfl
   ·exact hHe
   ·exact hHT3
  have hz5:∀b∈[e,T3],s2.heap.get? b=none:=λb hb=>by
   simp only[yar,nN_,or_false]at hb
   rcases hb with rfl|rfl
   ·exact he
   ·exact hT3
  have un4:Un (frs X.stack) [] H2 H' s2.heap h4:=qaF un3 hz5 z1
  have hok4:HOk X.prog X.w H' h4:=vO I3 un3 hok3 hz4 z1
  obtain⟨oe4,vs4,oT4,ts4,a04,hoe4,hoc4,hod4,_⟩:=id z2
  have I5:Inv X pins σ2 (upd H' e (.frz oe4 (.own e))) {s' with heap:=h4}:=I3.call' (s':={s' with heap:=h4}) (ch:=[]) os (qa3 un4 he hHe) (qdp hok4 hHe hoe4) bare (λb hb=>nomatch hb)
  refine yS (v:=.ref e) I5 hN hi (.inl hx) rfl (λs5 I6=>?_) (.inr hx)
  have sm:zX H' (upd H' e (.frz oe4 (.own e))):=qw hHe _
  have al:AloneA (X.A.mark (some (.ref e))) (upd H' e (.frz oe4 (.own e))):=⟨e,oe4,.own e,vs4,rfl,qm,hod4,hoc4.2.1⟩
  have hσl:i<σ2.length:=by rw[I5.len];exact(gI_.mp hi).1
  have hex:∀{A:Addr->Prop},Is X.K A (upd H' e (.frz oe4 (.own e))) (exD z) (.ref e):=λ{A}=>by
   unfold exD
   unfold XV at xv
   split
   ·rename_i k ek
    rw[ek]at xv
    obtain⟨dx,od,h1,h2⟩:=xv
    have nd:dx≠e:=λq=>by rw[q,hHe]at h2;cases h2
    exact⟨e,rfl,C,(v4 hz).2,hcl.ki _ _ hz,oe4,vs4,qm,⟨hoc4.1,hod4⟩,dx,od,hoc4.2.2.2.trans h1,by rw[qu nd];exact h2⟩
   ·exact⟨e,rfl,C,(v4 hz).2,hcl.ki _ _ hz,oe4,vs4,qm,hoc4.1,hod4⟩
  have rh:=qil (K:=X.K) (n:=X.N.length) (i:=i) (H6:=upd H' e (.frz oe4 (.own e))) (σ:=σ2) (d:=exD z) (v:=.ref e) I5.len hex (r'.tb.same sm)
  have bad:∀r,g ((yan X.N.length none).set i (some (exD z)))=r->(∀d Zd,r ≠ .ok (.rt d Zd))->False:=λr em hr=>by
   simp only[uw,ef,(v4 hz).1,em,if_true]at w
   first
    |exact w.elim
    | (split at w
       ·exact hr _ _ rfl
       ·exact w.elim)
  cases em:g ((yan X.N.length none).set i (some (exD z))) with
  |bad=>exact(bad _ em λ_ _ q=>by cases q).elim
  |exc z' Z''=>exact(bad _ em λ_ _ q=>by cases q).elim
  | ok fl=>
   cases fl with
   |nx _=>exact(bad _ em λ_ _ q=>by cases q).elim
   |bk _=>exact(bad _ em λ_ _ q=>by cases q).elim
   |ct _=>exact(bad _ em λ_ _ q=>by cases q).elim
   | rt d Zd=>
    simp only[uw,ef,(v4 hz).1,em,if_true]at w
    obtain⟨te,pe,we⟩:=hh e _ al
    have run:=pe pins s5 _ _ ({nx:=λ_ _=>False,rt:=D.rt}:qes) (qdn e I6) (we _ _ _ _ rh (by
     rw[em]
     exact λv σ7 H6 r6 i6 _=>by
      have sm6:zX (upd H' e (.frz oe4 (.own e))) H6:=λb o q=>r6.kp b o q λz=>z
      exact w v σ' H6 (r'.same (λb o q=>sm6 b o (sm b o q))) (Is.ext Ext.refl (λa ha _=>r'.b0.1 a (r'.dm a (sm.free ha))) i6) (g'.trans (Gr.of_same (λb o q=>sm6 b o (sm b o q))).s)))
    refine yaF run (λfl s6 h6=>?_) (λ_ _ z=>z.elim)
    cases fl with
    |next=>obtain⟨_,_,_,z⟩:=h6;exact z.elim
    |brk=>obtain⟨_,_,_,z⟩:=h6;exact z.elim
    |cont=>obtain⟨_,_,_,z⟩:=h6;exact z.elim
    |ret u=>
     obtain⟨v,σ7,H7,I7,rv,q7⟩:=h6
     have I8:=qdo hk I7
     obtain⟨m8,hn8,_⟩:=id I8.loc
     exact wpAny_nameGoes hkn hn8 (by rw[hk.kind];rfl) λh9 m9 hn9 hs9=>⟨v,_,H7,qeb I8 hn9 hs9,rv,q7⟩
 obtain⟨t,p,wt⟩:=hb xe (X.pn++pins) E cE L
 have w':WpS X.K (reE c cE) σ H D (f Z):=by
  cases ef:f Z with
  |bad=>simp only[uw,ef]at w;exact w
  |exc z Z'=>exact λσ' H' r' g'=>⟨Z',σ',ef,r'.unE,g'⟩
  |ok fl=>
   simp only[uw,ef]at w
   cases fl with
   |nx Z'=>exact λσ' H' r' g'=>w σ' H' r'.unE g'
   |rt d Z'=>exact λv σ' H' r' i' g'=>w v σ' H' r'.unE i' g'
   |bk Z'=>exact λσ' H' r' g'=>w σ' H' r'.unE g'
   |ct Z'=>exact λσ' H' r' g'=>w σ' H' r'.unE g'
 have run:=p [] s σ H D (qik I) (wt Z σ H D r.reE w')
 refine yaF run (λfl s1 h1=>?_) (λ_ _ z=>z)
 cases fl with
 |next=>
  obtain⟨σ1,H1,I1,q1⟩:=h1
  exact ybV ⟨σ1,H1,jK I1,q1⟩
 |brk=>obtain⟨σ1,H1,I1,q1⟩:=h1;exact⟨σ1,H1,jK I1,q1⟩
 |cont=>obtain⟨σ1,H1,I1,q1⟩:=h1;exact⟨σ1,H1,jK I1,q1⟩
 |ret u=>obtain⟨v,σ1,H1,I1,rv,q1⟩:=h1;exact⟨v,σ1,H1,jK I1,rv,q1⟩
end
section
variable{X:Cx}{c:Fc}{e:Expr}{es:List Expr}{pos cpos np:Pos}{pins:List (Addr×Obj)}{σ:St}{H:Hp}{s:yaa}
def qgu(H':Hp)(a dx:Addr)(od:Obj)(n:Int):Hp:=λb=>if b=a then none else if b=dx then some (.frz od (.xd [("at",.int n)]))else H' b
structure XL3 (X:Cx) (c:Fc) (cl:Str->Option Addr) (E:XK):Prop where
 madeV:∀C dd pins σ H s H2 s2 a,Inv X pins σ H s->s2.os=s.os->ybO s2.gens->Un (frs X.stack) [] H H2 s.heap s2.heap->HOk X.prog X.w H2 s2.heap->s.heap.get? a=none->H2 a=none->qno s2.heap a C dd->E (.ref C) dd H2->X.xe (.ref a) s2
 wish:∀x C dd H',cl x.cls=some C->c.E x H'->XV x.val dd H'->E (.ref C) dd H'
theorem XL.three{X:Cx}{c:Fc}{cl:Str->Option Addr}{E:XK}(L:XL X c cl E):XL3 X c cl E:=⟨L.madeV,L.wish⟩
theorem qfT {x:Str} {C fI:Addr} {fd:yaD} {k:Nat} {t:TA} {E:XK} {cl:Str->Option Addr} (hc:X.calm=true) (L:XL3 X c cl E) (hg:Gl X x) (hm:X.mg x=some (.ref C)) (xi:XI X.base C fI)
  (hfn:∃oI,X.base.get? fI=some oI/\oI.cls=.type "function") (G:uY X.prog X.w X.K X.mg X.base CX0 k fI fd ["self","at"] (qmj X.base C)) (hb:yT X.K fd ["self","at"] []) (hr:yv (k+1) X.A) (ha:PA X (e::es) t)
  (hd:(x==("__debug__":Str))=false:=by decide) (he:yac (e::es) X.env=(false,eval e X.env)::yac es X.env:=by rfl) (hpl:(yaz cpos (yac es X.env)).any (·.1)=false:=by rfl) :
  PS X (.Raise (some (.Call (.Name x np) (e::es) [] cpos)) none pos) (λ_ σ H=>t σ H λvs H1=>∃n,vs=[.int n]/\∀dx od H2,zX H1 H2->H2 dx=some (.frz od (.xd [("at",.int n)]))->E (.ref C) (some dx) H2):=by
 intro pins s σ H D I h
 obtain⟨nm,q,N,bs,bm,hdct,sn,sub,ab,col,dd,k0,k1,k2,k3,k5,mN,hC,hN,hi,T⟩:=xi.ex
 obtain⟨oI,hfI,hfc⟩:=hfn
 refine qhj (C:=C) (nm:=nm) (q:=q) (N:=N) (bs:=bs) (bm:=bm) (hdct:=hdct) (sn:=sn) (sub:=sub) (ab:=ab) (col:=col) (dd:=dd) (k0:=k0) (k1:=k1) (k2:=k2) (k3:=k3) (k5:=k5)
  yck (mN:=mN) (T.hasType (by decide +kernel)) (I.ok.hd hc) (by rw[he];show(false||(yaz cpos (yac es X.env)).any (·.1))=false;rw[hpl];rfl) hi hfc ?_
 have hn:PE X (.Name x np) (λ_ H Q=>Q (.ref C) H):=wH hg hm rfl hd
 refine thn (hn pins s σ H (λv H1=>v=.ref C/\H1=H) I ⟨rfl,rfl⟩) λf s1 h1=>?_
 obtain⟨v,H1,I1,rv,rfl,rfl⟩:=h1
 refine⟨rv,?_⟩
 have h2:=ha cpos pins s1 σ _ _ I1 h
 rw[he]at h2 |-
 refine ybH (thn h2 λus s2 h3=>?_)
 obtain⟨ws,H2,I2,r2,n,rfl,hE⟩:=h3
 obtain⟨u,rfl,ru⟩:=r2.one
 refine⟨rfl,by rw[ybh];show 1<=_;omega,I2.bk _ _ hC,hN.keeps I2.bk,T.keeps I2.bk,I2.bk _ _ hfI,λh' a hx=>?_⟩
 obtain⟨t0,m1,m2,m3⟩:=hx.there
 have hHa:H2 a=none:=by
  cases q:H2 a with
  |none=>rfl
  |some o=>
   obtain⟨o',q'⟩:=zv (I2.hok _ _ q)
   rw[hx.new]at q';cases q'
 have u0:Un (frs X.stack) [] H2 H2 s2.heap h':=Un.kept hx.keeps
 have I3:Inv X pins σ (upd H2 a (XO a C t0 none)) {s2 with heap:=h' }:=I2.call' (s':={s2 with heap:=h' }) (ch:=[]) rfl (qa3 u0 hx.new hHa) (qfS (I2.hok.kept hx.keeps) hHa (qj4 m1)) I2.bare (λb hb=>nomatch hb)
 have r3:zk [V.ref a,V.int n] [yam a,u]:=.cons rfl (.cons ru .nil)
 have hq:qmj X.base C [V.ref a,V.int n] (upd H2 a (XO a C t0 none)) (λv H'=>v=.non/\∃t' dx,upd H2 a (XO a C t0 none) dx=none/\H' dx=some (.xd [("at",.int n)])/\H' a=some (XO a C t' (some dx))/\(∀b o,b≠a->upd H2 a (XO a C t0 none) b=some o->H' b=some o)) (λ_ _ _=>False) :=
  ⟨a,t0,n,rfl,qm,⟨fI,xi⟩,λt' dx H' z1 z2 z3 z4 _=>⟨rfl,t',dx,z1,z2,z3,z4⟩⟩
 refine ycV (ycW (G.run _ X.stack _ _ ⟨[yam a,u],[]⟩ [yam a,u] _ _ (λ_ _ _=>False) (hr.make C [u] []) (I3.env0.make C [u] []) (hb _ [yam a,u] I3.kIn rfl) r3 hq) λr s' hq'=>?_)
 cases r with
 |error z=>exact(show False from hq').elim
 | ok fl=>
  cases fl with
  |next=>exact yaR hq'
  |brk=>exact yaR hq'
  |cont=>exact yaR hq'
  | ret uu=>
   obtain⟨v,H',os,bare,un,hok,rv2,ev,t',dx,z1,z2,z3,z4⟩:=hq'
   subst ev
   have I4:Inv X pins σ H' s':=I3.call' (ch:=[]) os un hok bare (λb hb=>nomatch hb)
   have ea:=qj3 I4 z3
   have hdx:H2 dx=none:=yo z1
   have nda:dx≠a:=λz=>by rw[z,qm]at z1;cases z1
   obtain⟨od,hod⟩:=zv (hok _ _ z2)
   have sm:zX H2 (qgu H' a dx od n):=λb o hb=>by
    have n1:b≠a:=λz=>by rw[z,hHa]at hb;cases hb
    have n2:b≠dx:=λz=>by rw[z,hdx]at hb;cases hb
    unfold qgu
    rw[if_neg n1,if_neg n2]
    exact z4 b o n1 (by rw[qu n1];exact hb)
   have keep:∀b o,H' b=some o->(∀φ,o ≠ .ext φ)->(∀fs,o ≠ .xd fs)->qgu H' a dx od n b=some o:=λb o hb ne1 ne2=>by
    have n1:b≠a:=λz=>by rw[z,z3]at hb;cases hb;exact ne1 _ rfl
    have n2:b≠dx:=λz=>by rw[z,z2]at hb;cases hb;exact ne2 _ rfl
    unfold qgu
    rw[if_neg n1,if_neg n2]
    exact hb
   have na:∀b o,s2.heap.get? b=some o->b≠a:=λb o q z=>by rw[z,hx.new]at q;cases q
   have hok2:HOk X.prog X.w (qgu H' a dx od n) s'.heap:=λb o hb=>by
    unfold qgu at hb
    by_cases n1:b=a
    ·rw[if_pos n1]at hb;cases hb
    ·rw [if_neg n1]at hb
     by_cases n2:b=dx
     ·rw[if_pos n2]at hb
      cases hb
      subst n2
      exact⟨hod,(show jf X.prog X.w H' s'.heap b (.xd _)from hok _ _ z2)⟩
     ·rw[if_neg n2]at hb
      exact(hok b o hb).stay (λ_ _ _ q=>q) (λc q=>keep c _ q (λ_ z=>by cases z) (λ_ z=>by cases z)) (λc xs q=>keep c _ q (λ_ z=>by cases z) (λ_ z=>by cases z)) λc ob y q=>keep c _ q (λ_ z=>by cases z) (λ_ z=>by cases z)
   have un2:Un (frs X.stack) [] H2 (qgu H' a dx od n) s2.heap s'.heap:=by
    refine⟨λb o q n hb hx'=>un.keep b o (hx.keeps _ _ q) (by rw[qu (na b o q)];exact n) hb hx',λb o q n hb hx'=>un.slot b o (hx.keeps _ _ q) (by rw[qu (na b o q)];exact n) hb hx',λb o q n hx'=>?_,λb o q hx'=>un.there b o (hx.keeps _ _ q) hx',λb xs q=>sm _ _ q,λb ob w q=>sm _ _ q,λb ps y q=>?_⟩
    ·have:=un.free b o (hx.keeps _ _ q) (by rw[qu (na b o q)];exact n) hx'
     have n2:b≠dx:=λz=>by rw[z,z2]at this;cases this
     unfold qgu
     rw[if_neg (na b o q),if_neg n2]
     exact this
    ·exact sm _ _ q
   exact⟨rv2,I4.bk _ _ hC,⟨t',some dx,ea⟩,L.madeV C (some dx) pins σ H2 s2 _ s' a I2 os bare un2 hok2 hx.new (by unfold qgu;rw[if_pos rfl]) ⟨_,_,_,ea,rfl,rfl,rfl,rfl,rfl,rfl⟩ (hE dx od _ sm (by unfold qgu;rw[if_neg nda,if_pos rfl]))⟩
end
end L2.Sk
namespace L2.Sk
open PySem PySem.Spec PyProof.Rows PySem.W
def jn (x:Str) (f:M (List D)):MS:=λZ=>match f Z with
 |.ok ([.int n],Z') => .exc ⟨x,.int n⟩ Z'
 |.ok _ => .bad
 |.exc z Z' => .exc z Z'
 |.bad => .bad
section
variable{X:Cx}{c:Fc}{e:Expr}{es:List Expr}{pos cpos np:Pos}
theorem qb4 {x:Str} {C fI:Addr} {fd:yaD} {k:Nat} {f:M (List D)} {E:XK} {cl:Str->Option Addr} (hc:X.calm=true) (L:XL3 X c cl E) (hcl:cl x=some C) (hg:Gl X x) (hm:X.mg x=some (.ref C)) (xi:XI X.base C fI)
  (hfn:∃oI,X.base.get? fI=some oI/\oI.cls=.type "function") (G:uY X.prog X.w X.K X.mg X.base CX0 k fI fd ["self","at"] (qmj X.base C)) (hb:yT X.K fd ["self","at"] []) (hr:yv (k+1) X.A) (ha:DA X c (e::es) f)
  (hd:(x==("__debug__":Str))=false:=by decide) (he:yac (e::es) X.env=(false,eval e X.env)::yac es X.env:=by rfl) (hpl:(yaz cpos (yac es X.env)).any (·.1)=false:=by rfl) :
  DS X c (.Raise (some (.Call (.Name x np) (e::es) [] cpos)) none pos) (jn x f):=by
 obtain⟨t,pa,w⟩:=ha
 refine⟨_,qfT (E:=E) hc L hg hm xi hfn G hb hr pa hd he hpl,λZ σ H D r h=>w Z σ H _ r ?_⟩
 unfold jn at h
 cases ef:f Z with
 |bad=>rw[ef]at h;exact h
 |exc z Z'=>rw[ef]at h;exact λH' r' g'=>h σ H' r' g'.s
 | ok p=>
  obtain⟨ds,Z'⟩:=p
  rw[ef]at h
  intro vs H' r' i' g'
  match ds,h,i' with
  | [.int n],h,i'=>
   obtain⟨v,ys,rfl,i1,i2⟩:=i'
   cases i1
   cases i2
   exact⟨n,rfl,λdx od H2 sm hx=>L.wish ⟨x,.int n⟩ C (some dx) H2 hcl (h σ H2 (r'.same sm) ((g'.trans (Gr.of_same sm)).s)) ⟨dx,od,rfl,hx⟩⟩
  | [],h,_=>exact h.elim
  |.non::_,h,_=>exact h.elim
  |.bl _::_,h,_=>exact h.elim
  |.str _::_,h,_=>exact h.elim
  |.tup _::_,h,_=>exact h.elim
  |.lst _::_,h,_=>exact h.elim
  |.dic _::_,h,_=>exact h.elim
  |.fz _::_,h,_=>exact h.elim
  |.exc _::_,h,_=>exact h.elim
  |.exv _ _::_,h,_=>exact h.elim
  |.int _::_::_,h,_=>exact h.elim
def dat (f:M D):M D:=bnd f λd=>match d with
 |.exv n k=>if n="NoText" then ret (.int k)else λ_ => .bad
 |_=>λ_ => .bad
def qow(K:Fr0)(t:TE):TE:=λσ H Q=>t σ H λx H1=>∃a k,x=.ref a/\qmN K H1 a "NoText" k/\Q (.int k) H1
theorem qnx {C:Addr} {t:TE} (hC:jq X.K "NoText"=some C) (xc:qhk X.K C) (p:PE X e t) (hb:ybq e "at" X.env (eval e X.env)=eval e X.env:=by rfl):PE X (.Attribute e "at" pos) (qow X.K t):=by
 intro pins s σ H Q I h
 refine qiV hb (thn (p pins s σ H _ I h) λu s1 ⟨x,H1,I1,rx,a,k,ex,xv,q⟩=>?_)
 subst ex
 obtain rfl:u=yam a:=rx
 obtain⟨C',hC',hk,o,vs,h1,h2,dx,od,h3,h4⟩:=xv
 rw[hC]at hC'
 cases hC'
 obtain⟨cd,c1,_,c3⟩:=xc.cd
 have g1:s1.heap.get? a=some o:=(show jf X.prog X.w H1 s1.heap a (.frz o (.own a))from I1.hok _ _ h1).1
 obtain⟨mA,m1,m2⟩:=(show jf X.prog X.w H1 s1.heap dx (.frz od (.xd [("at",.int k)]))from I1.hok _ _ h4).2
 have m3:=m2 "at"
 cases em:mA "at" with
 |none=>rw[em]at m3;exact(show False from m3).elim
 |some v=>
  rw[em]at m3
  obtain⟨tk,rfl⟩:=(show ∃t,v=ybT k t from m3)
  have I2:=I1.tok (s1.toks+1)
  obtain⟨hh,g,d,t0,os⟩:=s1
  exact qj7 PySem.F.excAttr_ValueError hk.ga hk.gt (looks_subIn I1.kIn hk.be) c1 c3 xc.fa I1.kIn g1 h2.1 h2.2 h3 m1 em rfl ⟨.int k,H1,I2,⟨_,rfl⟩,q⟩
theorem qmk {C:Addr} {f:M D} (hC:jq X.K "NoText"=some C) (xc:qhk X.K C) (ha:DE X c e f) (hb:ybq e "at" X.env (eval e X.env)=eval e X.env:=by rfl):DE X c (.Attribute e "at" pos) (dat f):=by
 obtain⟨t,p,w⟩:=ha
 refine⟨_,qnx hC xc p hb,λZ σ H Q r h=>w Z σ H _ r (Wp.bnd h λd Z1 v H1 r1 i1 g1 h1=>?_)⟩
 cases d with
 | exv n k=>
  dsimp only at h1
  by_cases hn:n="NoText"
  ·rw[if_pos hn]at h1
   subst hn
   obtain⟨a,rfl,xv⟩:=i1
   exact⟨a,k,rfl,xv,h1 _ H1 r1 rfl .refl⟩
  ·rw[if_neg hn]at h1
   exact h1.elim
 |_=>exact h1.elim
end
end L2.Sk
namespace L2.Sk
open PySem PySem.Spec PyProof.Rows PySem.W
theorem qej {K:Frag} {h:Heap} {N:Addr} {mg:Str->Option Value} {n:Str} {v:Value} (X:K.In h) (G:h.Ns N mg) (e:nsIn K N n=some (some v)):mg n=some v:=by
 obtain⟨o,es,ep,ho,hd,_,hf⟩:=G
 unfold nsIn at e
 split at e
 ·rename_i c d es' n' sl q
  have:=X _ _ q
  rw[ho]at this
  cases this
  cases hd
  split at e
  ·rename_i en he
   cases e
   rw[<-hf]
   unfold nsFind findBy
   rw[<-Array.find?_toList,he]
   rfl
  ·split at e<;>cases e
 ·cases e
def qmU (K:Fr0) (C fI:Addr):Bool:=match jq K "SackError",clsIn K C with
 |some S,some cd=>vm K C bmV "ValueError.__new__"&&nsIn K cd.ns "__init__"==some (some (.ref fI))&&vv cd.mro&&cd.hasDict&&findIn K (.ref C) "__setattr__"==some (some (.builtin "object.__setattr__"))&&findIn K (.ref C) "at"==some none &&
  readsIn K S (.type "type")&&(match findCls K (.ref S) (.type "type") "__init__" with|some (.val (.builtin i))=>i=="ValueError.__init__"|_=>false)&&specialIn K (.ref S) "__getattribute__"==some (some (.builtin "type.__getattribute__"))
 |_,_=>false
structure qa8 (P:yai) (w:World) (K:yae) (mg:Str->Option Value) (base:Heap):Prop where
 ex:∃C fI fd,jq K "NoText"=some C/\XI base C fI/\(∃oI,base.get? fI=some oI/\oI.cls=.type "function")/\uY P w K mg base CX0 1 fI fd ["self","at"] (qmj base C)/\yT K fd ["self","at"] []/\qhk K C
theorem qny {K:Fr0} {base:Heap} {C fI:Addr} (X:K.In base) (h:qmU K C fI=true):∃S,jq K "SackError"=some S/\qnv K S/\qhk K C/\XI base C fI:=by
 unfold qmU at h
 split at h
 ·rename_i S cd hS hcd
  simp only[yad,beq_iff_eq]at h
  obtain⟨⟨⟨⟨⟨⟨⟨⟨h1,h2⟩,h3⟩,h4⟩,h5⟩,h6⟩,h7⟩,h8⟩,h9⟩:=h
  have hf:findCls K (.ref S) (.type "type") "__init__"=some (.val (.builtin "ValueError.__init__")):=by
   split at h8
   ·rename_i i e
    rw[e,beq_iff_eq.mp h8]
   ·cases h8
  refine⟨S,hS,⟨h7,hf,h9⟩,⟨⟨cd,hcd,h3,h4⟩,h5,h6⟩,?_⟩
  unfold vm at h1
  split at h1
  ·rename_i dd cd' sl ho
   split at h1
   ·rename_i C' bm k0 k1 k2 k3 n k5 hm hl
    simp only[yad,beq_iff_eq,yaT]at h1
    obtain⟨⟨⟨⟨e1,e2⟩,hdel⟩,ht⟩,hok⟩:=h1
    subst e1 e2
    unfold clsIn at hcd
    rw[ho]at hcd
    cases hcd
    obtain⟨nm,bs,mro,ns,qn,hd,sn,sub,ab,col,del⟩:=cd
    dsimp only at hm hdel hok h2
    subst hm hdel
    have hz:sl = #[k0,k1,k2,k3,some (.builtin _),k5]:=Array.toList_inj.mp hl
    subst hz
    have G:base.Ns ns (base.nsMap ns):=.of_isNs (isNs_of_in X hok)
    exact⟨nm,qn,ns,bs,bm,hd,sn,sub,ab,col,dd,k0,k1,k2,k3,k5,_,X _ _ ho,G,qej X G h2,tail_of_in X ht⟩
   ·cases h1
  ·cases h1
 ·cases h
theorem qek {K:Fr0} {base:Heap} {f:Addr} (X:K.In base) (h:isFn K (.ref f)=true):∃o,base.get? f=some o/\o.cls=.type "function":=by
 have h:=beq_iff_eq.mp h
 obtain⟨o,h1,h2⟩:=Option.map_eq_some_iff.mp (show(K.lookup f).map (·.cls)=some (.type "function")from h)
 exact⟨o,X _ _ h1,h2⟩
end L2.Sk
namespace L2.Sk
open PySem PySem.Spec PyProof.Rows
theorem Rep.keepof {K:Fr0} {c:Fc} {i:Nat} {Z:Env} {σ:St} {H:Hp} (r:Rep K (qjR c i) Z σ H) (hi:i ∉ c.O) (hJ:i ∉ c.J) (hpO:∀j∈c.P,j∈c.O):Rep K c Z σ H where
 len:=r.len
 val := λj d h=>by
  obtain⟨v,h1,h2⟩:=r.val j d h
  refine⟨v,h1,?_⟩
  have sub:∀b,Cl (qjR c i).O σ b->Cl c.O σ b:=λb hb k hk e=>hb k (mM _ hk) e
  rcases h2 with⟨h3,ds,a,xs,g3,g5,g6,g7⟩|⟨h3,h4⟩
  ·rcases List.mem_cons.mp h3 with e|h3
   ·subst e
    obtain⟨tg,ys⟩:=xs
    cases tg with
    |d C dx l=>exact absurd g3.2.1 hJ
    |l=>
    obtain rfl:d=.lst ds:=g3
    subst g5
    have hB:c.B a:=by
     obtain⟨a',_,e2,_,e3⟩:=r.own j mS_ _ h1
     cases e2
     exact r.b0.1 a (e3.resolve_right λz=>hi (hpO j z.1))
    refine .inr ⟨hi,a,ys,rfl,⟨hB,λk hk e=>?_⟩,g6,IsL.ext Ext.refl (λa ha _=>⟨ha.1,sub a ha.2⟩) g7⟩
    exact hi (r.inj k j a (mM _ hk) mS_ e h1▸hk)
   ·exact .inl ⟨h3,ds,a,xs,g3,g5,g6,IsL.ext Ext.refl (λa ha _=>⟨ha.1,sub a ha.2⟩) g7⟩
  ·exact .inr ⟨λz=>h3 (mM _ z),Is.ext Ext.refl (λa ha _=>⟨ha.1,sub a ha.2⟩) h4⟩
 own:=λj hj v h=>r.own j (mM _ hj) v h
 inj:=λj k a hj hk h1 h2=>r.inj j k a (mM _ hj) (mM _ hk) h1 h2
 b0:=r.b0
 kp:=r.kp
 dm:=r.dm
 pO:=hpO
 ps:=r.ps
theorem yb {c:Fc} {i:Nat} {σ σ':St} {H H':Hp} (g:GrS (qjR c i).O (σ.set i none) H σ' H'):GrS c.O σ H σ' H' :=
 ⟨⟨g.ext.tup,g.ext.frz,λb o hb h=>g.ext.at_ b o (qdy hb) h⟩,λb hb hs k hk e=>g.cl b (qdy hb) hs k (mM _ hk) e,g.dom⟩
section
variable{X:Cx}{c:Fc}
theorem qfU {i:Nat} {s1 s2:Stmt} {sts:List Stmt} {f g k:MS} (h1:DS X (qjR c i) s1 f) (h2:DS X (qjR c i) s2 g) (h3:DSs X c sts k) (hi:i ∉ c.O:=by exact of_decide_eq_false rfl) (hJ:i ∉ c.J:=by exact of_decide_eq_false rfl):DSs X c (s1::s2::sts) (qt (qfP i (qt f g)) k):=by
 obtain⟨t1,p1,w1⟩:=h1
 obtain⟨t2,p2,w2⟩:=h2
 obtain⟨t3,p3,w3⟩:=h3
 have q1:PS X s1 (λD σ H=>t1 D (σ.set i none) H):=by
  intro pins s σ H D I hq
  exact p1 pins s _ H D (qhe I i) hq
 refine⟨_,wx q1 (wx p2 p3),λZ σ H D r hw=>?_⟩
 refine w1 _ _ H _ (r.into hi) ?_
 unfold qt qfP at hw
 cases ef:f (Z.set i none) with
 |bad=>simp only[qt,ef]at hw;exact hw
 |exc z Z'=>simp only[qt,ef]at hw;exact λσ' H' r' g'=>hw σ' H' (r'.keepof hi hJ r.pO) (yb g')
 | ok fl=>
  cases fl with
  | nx Z1=>
   intro σ1 H1 r1 g1
   refine w2 Z1 σ1 H1 _ r1 ?_
   cases eg:g Z1 with
   |bad=>simp only[qt,ef,eg]at hw;exact hw
   |exc z Z'=>simp only[qt,ef,eg]at hw;exact λσ' H' r' g'=>hw σ' H' (r'.keepof hi hJ r.pO) (yb (g1.trans g'))
   | ok fl2=>
    cases fl2 with
    |nx Z2=>
     simp only[qt,ef,eg]at hw
     intro σ2 H2 r2 g2
     exact w3 Z2 σ2 H2 D (r2.keepof hi hJ r.pO) (hw.gr (yb (g1.trans g2)))
    |rt d Z'=>simp only[qt,ef,eg]at hw;exact λv σ' H' r' i' g'=>hw v σ' H' (r'.keepof hi hJ r.pO) i' (yb (g1.trans g'))
    |bk Z'=>simp only[qt,ef,eg]at hw;exact λσ' H' r' g'=>hw σ' H' (r'.keepof hi hJ r.pO) (yb (g1.trans g'))
    |ct Z'=>simp only[qt,ef,eg]at hw;exact λσ' H' r' g'=>hw σ' H' (r'.keepof hi hJ r.pO) (yb (g1.trans g'))
  |rt d Z'=>simp only[qt,ef]at hw;exact λv σ' H' r' i' g'=>hw v σ' H' (r'.keepof hi hJ r.pO) i' (yb g')
  |bk Z'=>simp only[qt,ef]at hw;exact λσ' H' r' g'=>hw σ' H' (r'.keepof hi hJ r.pO) (yb g')
  |ct Z'=>simp only[qt,ef]at hw;exact λσ' H' r' g'=>hw σ' H' (r'.keepof hi hJ r.pO) (yb g')
end
def qfV (h:Heap) (e T L:Addr) (cls:Value) (dd:Option Addr):Prop :=
 ∃oe vs oT ts a0,h.get? e=some oe/\(oe.cls=cls/\vs[2]? = some .none/\vs[0]? = some a0/\oe.dict=dd)/\oe.data=.fields vs/\vs[1]? = some (.ref T)/\T≠e/\h.get? T=some oT/\oT.data=.fields ts/\ts[3]? = some (ya7 L)
section
variable{M:Model}{A:yaj}{E E':Value->yaa->Prop}{s:yaa}
abbrev qfW(L:Addr):Obj->Obj:=ybR (·.setIfInBounds 3 (ya7 L))
theorem qdz {e T L:Addr} {oe oT:Obj} {vs ts:Array Value} {Q:Unit->yaa->Prop} (he:s.heap.get? e=some oe) (hd:oe.data=.fields vs) (h1:vs[1]? = some (.ref T)) (hT:s.heap.get? T=some oT) (hdT:oT.data=.fields ts) (h3:3<ts.size)
  (k:Q () {s with heap:=s.heap.update T (qfW L)}):wpAny M A (do
   if(<-field (.ref e) 1) == .none then yfw "frame.own-activation:exception-without-traceback"
   ybJ (.ref e) (some L)) Q E s:=by
 refine yab (yaL he hd h1 ?_)
 have t0:¬((yam T==yaG)=true):=by simp
 rw[if_neg t0]
 unfold ybJ
 refine yab (yaL he hd h1 ?_)
 have t:(yam T != yaG)=true:=by simp
 rw[if_pos t]
 exact yb8 hT hdT h3 k
theorem qb5 {h:Heap} {T L:Addr} {oT:Obj} {ts:Array Value} (hT:h.get? T=some oT) (hdT:oT.data=.fields ts) (h3:3<ts.size):∃o2 t2,(h.update T (qfW L)).get? T=some o2/\o2.data=.fields t2/\t2[3]? = some (ya7 L) :=
 ⟨_,_,Heap.get?_update_self _ hT (yb9 (ya1 hdT _)),ya1 hdT _,by simp[h3]⟩
theorem yN{h:Heap}{T b L:Addr}(n:b≠T):(h.update T (qfW L)).get? b=h.get? b:=Heap.get?_update_other _ _ (yaU n)
theorem qho {base:Heap} {env:yax} {outer:List yax} {L e:Addr} {oe:Obj} {vs:Array Value} {a0:Value} {Q:Unit->yaa->Prop} (hfr:A.frames=some (env::outer)) (hl:s.heap.FunFrames base (env::outer)) (hf:env.frame=some L)
  (he:s.heap.get? e=some oe) (hd:oe.data=.fields vs) (h1:vs[1]? = some .none) (h2:vs[2]? = some .none) (h0:vs[0]? = some a0)
  (k:∀h' T',Lft s.heap h' [e] (frs (env::outer))->qfV h' e T' L oe.cls oe.dict->s.heap.get? T'=none->Q () {s with heap:=h' }) :
  wpAny M A (yby (.ref e) env) (λ_ sV=>wpAny M A (do
   if(<-field (.ref e) 1) == .none then yfw "frame.own-activation:exception-without-traceback"
   ybJ (.ref e) (some L)) Q E' sV) E s:=by
 have z1:1<vs.size:=(Array.getElem?_eq_some_iff.mp h1).1
 unfold yby
 simp only[hf]
 refine yab (yaL he hd h1 ?_)
 rw[if_neg (by decide)]
 refine qdl hfr hl hf he hd z1 λh' T nT ne kp sl ee eT _=>?_
 obtain⟨oT,ts,gT,dT,sT⟩:=eT
 have dd:=ya1 hd (·.setIfInBounds 1 (yam T))
 refine qdz (s:={s with heap:=h' }) ee dd (by simp[z1]) gT dT sT ?_
 obtain⟨o2,t2,q1,q2,q3⟩:=qb5 (L:=L) gT dT sT
 have nf:∀b o,s.heap.get? b=some o->b≠T:=λb o q z=>by rw[z,nT]at q;cases q
 refine k _ T ⟨λb o hb hf q=>(yN (nf b o q)).trans (kp b o (by simpa using hb) hf q),λb o hb q=>?_⟩ ⟨_,_,o2,t2,a0,(yN (yaU ne)).trans ee,⟨ydz _ _,?_,?_,qbT _ _⟩,dd,by simp[z1],ne,q1,q2,q3⟩ nT
 ·obtain⟨sl,q'⟩:=sl b o hb q
  exact⟨sl,(yN (nf b o q)).trans q'⟩
 ·rw[Array.getElem?_setIfInBounds_ne (by decide)];exact h2
 ·rw[Array.getElem?_setIfInBounds_ne (by decide)];exact h0
theorem qel {base:Heap} {env:yax} {outer:List yax} {L e T:Addr} {cls:Value} {dd:Option Addr} {Q:Unit->yaa->Prop} (hl:s.heap.FunFrames base (env::outer)) (hf:env.frame=some L) (F:qfV s.heap e T L cls dd)
  (k:∀h',Lft s.heap h' [e,T] (frs (env::outer))->qfV h' e T L cls dd->Q () {s with heap:=h' }) :
  wpAny M A (yby (.ref e) env) (λ_ sV=>wpAny M A (do
   if(<-field (.ref e) 1) == .none then yfw "frame.own-activation:exception-without-traceback"
   ybJ (.ref e) (some L)) Q E' sV) E s:=by
 obtain⟨oe,vs,oT,ts,a0,he,hc,hd,h1,hne,hT,hdT,h3⟩:=F
 have z3:3<ts.size:=(Array.getElem?_eq_some_iff.mp h3).1
 have nf:=qfB hl hT hdT
 have tT:(yam T != yaG)=true:=by simp
 have tL:(ya7 L==ya7 L)=true:=by simp
 unfold yby
 simp only[hf]
 refine yab (yaL he hd h1 ?_)
 rw[if_pos tT]
 refine yab (yaL hT hdT h3 ?_)
 rw[if_pos tL]
 refine yaq ?_
 refine qdz he hd h1 hT hdT z3 ?_
 obtain⟨o2,t2,q1,q2,q3⟩:=qb5 (L:=L) hT hdT z3
 refine k _ ⟨λb o hb _ q=>?_,λb o hb q=>⟨o.slots,(yN λ(z:b=T)=>nf (z▸hb)).trans q⟩⟩ ⟨oe,vs,o2,t2,a0,(yN (yaU hne)).trans he,hc,hd,h1,hne,q1,q2,q3⟩
 simp only[yar,nN_,or_false,not_or]at hb
 exact(yN hb.2).trans q
theorem qhp {base:Heap} {env:yax} {outer:List yax} {L e T:Addr} {cls:Value} {dd:Option Addr} {Q:Unit->yaa->Prop} (hl:s.heap.FunFrames base (env::outer)) (hf:env.frame=some L) (F:qfV s.heap e T L cls dd)
  (k:∀h',Lft s.heap h' [e,T] (frs (env::outer))->qaa h' e T cls dd->Q () {s with heap:=h' }):wpAny M A (ybK env (.ref e)) Q E s:=by
 obtain⟨oe,vs,oT,ts,a0,he,hc,hd,h1,hne,hT,hdT,h3⟩:=F
 have z3:3<ts.size:=(Array.getElem?_eq_some_iff.mp h3).1
 have nf:=qfB hl hT hdT
 have tT:(yam T != yaG)=true:=by simp
 have tL:(ya7 L==ya7 L)=true:=by simp
 unfold ybK yby
 simp only[hf]
 refine yab (yab (yaL he hd h1 ?_))
 rw[if_pos tT]
 refine yab (yaL hT hdT h3 ?_)
 rw[if_pos tL]
 refine yaq ?_
 refine qa0 he hd h1 hT hdT z3 ?_
 obtain⟨o2,t2,q1,q2,q3⟩:=uK hT hdT z3
 refine k _ ⟨λb o hb _ q=>?_,λb o hb q=>⟨o.slots,(zb λ(z:b=T)=>nf (z▸hb)).trans q⟩⟩ ⟨oe,vs,o2,t2,a0,(zb (yaU hne)).trans he,hc,hd,h1,hne,q1,q2,q3⟩
 simp only[yar,nN_,or_false,not_or]at hb
 exact(zb hb.2).trans q
end
def xe2 (X:Cx) (E:XK) (L:Addr):Value->yaa->Prop:=λu s2=>∃a C dd pins σ H s H2,u=.ref a/\Inv X pins σ H s/\s2.os=s.os/\ybO s2.gens/\Un (frs X.stack) [] H H2 s.heap s2.heap/\HOk X.prog X.w H2 s2.heap/\s.heap.get? a=none/\H2 a=none/\E (.ref C) dd H2 /\
 (qno s2.heap a C dd\/∃T,s.heap.get? T=none/\H2 T=none/\qfV s2.heap a T L (.ref C) dd)
section
variable{X:Cx}{c:Fc}{cl:Str->Option Addr}{E:XK}{L:Addr}
theorem qj9 {pins:List (Addr×Obj)} {σ:St} {H H2:Hp} {h h2:Heap} {fs:List Addr} {b:Addr} (un:Un fs [] H H2 h h2) (hb:h2.get? b=none):h.get? b=none:=by
 cases q:h.get? b with
 |none=>rfl
 |some o=>
  obtain⟨o',q'⟩:=un.there b o q (by simp)
  rw[hb]at q';cases q'
theorem qhq {P:yai} {w:World} {H2:Hp} {h2:Heap} {b:Addr} (hok:HOk P w H2 h2) (hb:h2.get? b=none):H2 b=none:=by
 cases q:H2 b with
 |none=>rfl
 |some o=>
  obtain⟨o',q'⟩:=zv (hok _ _ q)
  rw[hb]at q';cases q'
theorem qem (hcx:X.stack=X.env::X.outer) (hf:X.env.frame=some L):ycP (model X.prog X.w) X.A X.env (xe2 X E L):=by
 rintro u s2 ⟨a,C,dd,pins,σ,H,s,H2,rfl,I,os,bare,un,hok,ha,hHa,hE,hn⟩
 have hl:s2.heap.FunFrames X.base (X.env::X.outer):=by have:=qcv I un;rwa [hcx]at this
 have hfr:X.A.frames=some (X.env::X.outer):=by rw[<-hcx];exact I.ok.frames
 unfold notedBy cameBackBy
 rw[hf]
 rcases hn with⟨oe,vs,a0,n1,n2,n3,n4,n5,n6,n7⟩|⟨T,hT,hHT,F⟩
 ·refine qho hfr hl hf n1 n3 n5 n6 n4 λh' T' y1 y2 y3=>?_
  rw[n2,n7]at y2
  rw[<-hcx]at y1
  have c1:∀b∈[a],s.heap.get? b=none:=λb hb=>by rw[ms_]at hb;subst hb;exact ha
  have c2:∀b∈[a],H2 b=none:=λb hb=>by rw[ms_]at hb;subst hb;exact hHa
  exact⟨a,C,dd,pins,σ,H,s,H2,rfl,I,os,bare,qaF un c1 y1,vO I un hok c2 y1,ha,hHa,hE,.inr ⟨T',qj9 (pins:=pins) (σ:=σ) un y3,qhq hok y3,y2⟩⟩
 ·refine qel hl hf F λh' y1 y2=>?_
  rw[<-hcx]at y1
  have c1:∀b∈[a,T],s.heap.get? b=none:=λb hb=>by
   simp only[yar,nN_,or_false]at hb
   rcases hb with rfl|rfl
   ·exact ha
   ·exact hT
  have c2:∀b∈[a,T],H2 b=none:=λb hb=>by
   simp only[yar,nN_,or_false]at hb
   rcases hb with rfl|rfl
   ·exact hHa
   ·exact hHT
  exact⟨a,C,dd,pins,σ,H,s,H2,rfl,I,os,bare,qaF un c1 y1,vO I un hok c2 y1,ha,hHa,hE,.inr ⟨T,hT,hHT,y2⟩⟩
theorem qka (L0:XL3 X c cl E):XL3 (X.wish (xe2 X E L)) c cl E where
 madeV:=λC dd pins σ H s H2 s2 a I os bare un hok ha hHa N hE=>⟨a,C,dd,pins,σ,H,s,H2,rfl,I.unwish,os,bare,un,hok,ha,hHa,hE,.inl N⟩
 wish:=L0.wish
theorem qkb {st:Stmt} {f:MS} {xe:Value->yaa->Prop} (conv:∀u s,xe u s->X.xe u s) (h:DS (X.wish xe) c st f):DS X c st f:=by
 obtain⟨t,p,w⟩:=h
 exact⟨t,λpins s σ H D I hw=>yaF (p pins s σ H D (I.wish _) hw) (λ_ _ q=>q.unwish) conv,w⟩
theorem qhr {st:Stmt} {f:MS} (L0:XL3 X c cl E) (conv:∀u s,xe2 X E L u s->X.xe u s) (hcx:X.stack=X.env::X.outer) (hf:X.env.frame=some L) (h:ycP (model X.prog X.w) X.A X.env (xe2 X E L)->XL3 (X.wish (xe2 X E L)) c cl E->DS (X.wish (xe2 X E L)) c st f):DS X c st f :=
 qkb conv (h (qem hcx hf) (qka L0))
end
section
variable{P:yai}{w:World}{K:yae}{mg:Str->Option Value}{base:Heap}
theorem qhs {N:List Str} {qual:Str} {scope:Scope} {f:Addr} {cdv:Value} {A:yaj} {outer:List yax} {s:yaa} {H:Hp} {E:XK} {c:Fc} {cl:Str->Option Addr} (L:XL3 (qch (CX1 P w) P w K mg base N qual scope f cdv A outer s H E) c cl E) (hf:(yaW qual scope s.heap.objs.size f cdv).frame=some s.heap.objs.size) :
  ∀u s2,xe2 (qch (CX1 P w) P w K mg base N qual scope f cdv A outer s H E) E s.heap.objs.size u s2->(qch (CX1 P w) P w K mg base N qual scope f cdv A outer s H E).xe u s2:=by
 rintro u s2 ⟨a,C,dd,pins,σ,H1,s1,H2,rfl,I,os,bare,un,hok,ha,hHa,hE,hn⟩
 rcases hn with hn|⟨T,hT,hHT,F⟩
 ·exact L.madeV C dd pins σ H1 s1 H2 s2 a I os bare un hok ha hHa hn hE
 ·show wpAny (model P w) _ (ybK _ (.ref a)) _ _ _
  have hl:s2.heap.FunFrames base (yaW qual scope s.heap.objs.size f cdv::outer):=qcv I un
  refine qhp hl hf F λh2 y1 y2=>?_
  have up:∀b,s1.heap.get? b=none->s.heap.get? b=none:=λb hb=>by
   cases q:s.heap.get? b with
   |none=>rfl
   |some o=>
    obtain⟨o',q'⟩:=I.base.there b o q (by show b ∉ ([]:List Addr);simp)
    rw[hb]at q';cases q'
  have c1:∀b∈[a,T],s1.heap.get? b=none:=λb hb=>by
   simp only[yar,nN_,or_false]at hb
   rcases hb with rfl|rfl
   ·exact ha
   ·exact hT
  have c2:∀b∈[a,T],H2 b=none:=λb hb=>by
   simp only[yar,nN_,or_false]at hb
   rcases hb with rfl|rfl
   ·exact hHa
   ·exact hHT
  obtain⟨z1,z2⟩:=wB (s':=s2) I rfl hf rfl un hok c2 c1 y1
  exact⟨a,T,C,dd,H2,rfl,os.trans I.os,bare,z1,z2,up a ha,up T hT,hHa,hHT,y2,hE⟩
end
end L2.Sk
namespace L2.Sk
namespace Law
open PySem PySem.Spec PyProof.Rows
set_option maxHeartbeats 4000000
theorem qiq(ds:List D)(r:Env):zW 0 (some (.lst ds)::r)=some ds:=rfl
theorem qir(i:Nat)(o:OD)(r:Env):zW (i+1) (o::r)=zW i r:=rfl
theorem ix0(a b c:D):ixD (.tup [a,b,c]) (.int 0)=some a:=rfl
theorem ix1(a b c:D):ixD (.tup [a,b,c]) (.int 1)=some b:=rfl
theorem ix2(a b c:D):ixD (.tup [a,b,c]) (.int 2)=some c:=rfl
theorem qcF(i j:Int):neB (.int i) (.int j)=some (.bl (!decide (i=j))):=rfl
theorem qa9(i j:Int):eqB (.int i) (.int j)=some (.bl (decide (i=j))):=rfl
theorem qaf(ds:List D):wX (tyD (.tup ds)) "tuple"=true:=rfl
theorem vw(ds:List D):jW [.tup ds]=some (.int ds.length):=rfl
theorem qfX(d:D):isN d .non=some (.bl (jZ d)):=rfl
theorem qba(i j:Int):gtD (.int i) (.int j)=some (.bl (decide (j<i))):=rfl
theorem qfY(i j:Int):ltD (.int i) (.int j)=some (.bl (decide (i<j))):=rfl
local macro_rules | `(tactic| push_cast [$xs,*]) => `(tactic| simp only [j9, qfo, qn0, yV, qdh, qaB, qh6, qmS, qn1, qaX, qaY, qdi, qjy, v8, qbQ, qdj, qfq, qh7, qjz, qh8, qd5, qgW, qbR, qdk, qcs, qaZ, qia, qib, qic, uV, qid, qfr, uq, qfs, qie, qft, qfu, qfv, qif, w8, qfw, lC_, lN_, mC_, List.map_nil, List.replicate, List.nil_append, List.cons_append, List.append_nil, List.getElem?_cons_zero, List.getElem?_cons_succ, List.set_cons_zero, List.set_cons_succ, Nat.reduceAdd, Nat.reduceSub, Nat.sub_self, Nat.zero_add, reduceIte, Bool.not_true, Bool.not_false, Bool.false_eq_true, if_true, if_false, ite_true, ite_false, cond_true, cond_false, decide_true, decide_false, ix0, ix1, ix2, qaf, vw, qcF, qa9, qfX, qba, qfY, qiq, qir, wC, qa4, qdu, qim, qfM, qfz, $xs,*])
theorem qbb {n p:Nat} {body:MS} {ds:List D} {d:D} (h:ds.length=p) (e:∃Z,body (j9 n ds)=.ok (.rt d Z)):dfn n p body ds=.ok d:=by
 obtain⟨Z,e⟩:=e
 exact qjA h e
def qkc:D->Bool
 |.int _=>true
 |_=>false
def jo:D->Bool
 |.int i=>decide (0<=i)
 |_=>false
def qb6:D->Bool
 |.int i=>decide (0<i)
 |_=>false
def uf:D->Bool
 |.tup [a,b,c]=>qb6 a&&jo b&&(jZ c||jo c)
 |_=>false
theorem qox {ds:List D} (h:ds.length=3):∃a b c,ds=[a,b,c]:=by
 match ds,h with
 | [a,b,c],_=>exact⟨a,b,c,rfl⟩
theorem qen {ds:List D} (h:ds.length≠3):uf (.tup ds)=false:=by
 match ds,h with
 | [],_=>rfl
 | [_],_=>rfl
 | [_,_],_=>rfl
 | [a,b,c],h=>exact absurd rfl h
 |_::_::_::_::_,_=>rfl
theorem qp{p q:MS}{Z Z':Env}(h:p Z=.ok (.nx Z')):qt p q Z=q Z':=by rw[qh9,h]
theorem j6{p q:MS}{Z Z':Env}{d:D}(h:p Z=.ok (.rt d Z')):qt p q Z=.ok (.rt d Z'):=by rw[qh9,h]
theorem qml {e:M D} {f:D->D}:∀(ds acc:List D)(o:OD),(∀d∈ds,e [some d]=.ok (f d,[some d]))->acc.length+ds.length<=1000->∃Z',z6 (qz 0) (ret true) e ds acc [o]=.ok (acc++ds.map f,Z')
 | [],acc,o,_,_=>⟨[o],by simp[z6]⟩
 |d::ds,acc,o,h,hl=>by
  have hl':acc.length+(ds.length+1)<=1000:=hl
  obtain⟨Z',q⟩:=qml ds (acc++[f d]) (some d) (λx hx=>h x (mM _ hx)) (by rw[lA_,yaC];omega)
  refine⟨Z',?_⟩
  unfold z6
  simp only[qz,ybA,ret,h d mS_,zM (show acc.length+1<=1000000 by omega),if_true,q]
  simp
theorem qb7 (f:D->Bool):∀ds:List D,yx (ds.map λd=>D.bl (f d))=some (ds.map f)
 | []=>rfl
 |d::ds=>by simp[yx,qb7 f ds]
theorem all_map {ds:List D} {f:D->Bool}:qgq [.lst (ds.map λd=>D.bl (f d))]=some (.bl (ds.all f)):=by
 simp only[qgq,qb7,yd2]
 congr 2
 rw[List.all_map]
 rfl
theorem qkd {F:List D->R D} {f:D->Bool} {xs:M (List D)} {ds:List D} {Z:Env} (hx:xs Z=.ok (ds,Z)) (hF:∀d∈ds,F [d]=.ok (.bl (f d))) (hl:ds.length<=1000) :
  qs qgq (qb (yL 1 [] none xs (qz 0) (ret true) (qf F (qb (dv 0) (ret [])))) (ret [])) Z=.ok (.bl (ds.all f),Z):=by
 obtain⟨Z',q⟩:=qml (e:=qf F (qb (dv 0) (ret []))) (f:=λd=>D.bl (f d)) ds [] none (λx hm=>by push_cast [];rw[hF x hm]) (by simpa using hl)
 have q':z6 (qz 0) (ret true) (qf F (qb (dv 0) (ret []))) ds [] (yK 1 [] Z)=.ok ([]++ds.map λd=>D.bl (f d),Z'):=q
 simp only[qaX,yV,qct,hx,q',qfo,ybY,all_map]
 rfl
def vS:D->Bool
 |.tup ds=>decide (ds.length<=12)&&ds.all uf
 |_=>false
theorem qdA:∀bs:List Bool,yx (bs.map D.bl)=some bs
 | []=>rfl
 |b::bs=>by simp[yx,qdA bs]
theorem wD {l:M (List D)} {Z Z1:Env} {j:Int} (e:l Z=.ok ([.int j],Z1)) (h0:0<=j) (h:j<=1000000):u5 l Z=.ok (qcf 0 j.toNat,Z1):=by
 have h1:(-(2 ^ 62)<=j):=by omega
 have h2:(j<2 ^ 62):=by omega
 have e2:qh0 [.int j]=some (qcf 0 j.toNat):=by
  simp only[qh0,h1,h2,decide_true,yaY,if_true]
 have e3:u5 l Z=lift (qh0 [.int j]) Z1:=by
  show bnd l (λds=>lift (qh0 ds)) Z=_
  rw[qnm,e]
 rw[e3,e2]
 rfl
theorem qfZ {n m:Int} (h0:0<m) (h1:m<1606938044258990275541962092341162602522202993782792835301376):wV [.int n,.int m]=some (.tup [.int (n/m),.int (n%m)]):=by
 simp only[wV,qd0,h0,h1,decide_true,yaY,if_true]
theorem at0 (d:D) (r:List D):atI (d::r) 0=some d:=by
 unfold atI ixN
 rw[if_pos (by omega),if_pos (by simp)]
 rfl
theorem qoy:ixN 1 0=some 0:=by decide
theorem jM(i j:Int):qP (.int i) (.int j)=some (.int (i+j)):=rfl
theorem qht(i j:Int):qkH (.int i) (.int j)=some (.int (i-j)):=rfl
theorem qdB {ds:List D} {k:Int} (h0:0<=k) (h1:k<ds.length):∃d∈ds,ixD (.lst ds) (.int k)=some d:=by
 obtain⟨i,rfl⟩:=ydW h0
 have hi:i<ds.length:=by omega
 refine⟨ds[i],ycN hi,?_⟩
 show atI ds (i:Int)=_
 unfold atI ixN
 rw[if_pos (by omega),if_pos (by omega)]
 show ds[(i:Int).toNat]? = _
 rw[ybo,gG hi]
theorem qoz (i:Int):wv (.int 2) (.int i)=some (.int (2*i)):=by
 have h:qcm 2 i=true:=by
  unfold qcm
  have:yk 2=true:=by decide
  rw[this];rfl
 simp only[wv,h,if_true]
def qke(c m:D):Prop:=m=c\/∃j,m=.int j/\0<=j/\j<=5
def zF(k:D):Prop:=∃a b m,k=.tup [.int a,.int b,m]/\1<=a/\a<=25/\0<=b/\b<=39/\qke .non m
theorem zF.imm {k:D} (h:zF k):imm k=true:=by
 obtain⟨a,b,m,rfl,_,_,_,_,hm⟩:=h
 rcases hm with rfl|⟨j,rfl,_⟩<;>rfl
theorem zF.lay {k:D} (h:zF k):(zI k).canLay0=true/\(zI k).depth=1:=by
 obtain⟨a,b,m,rfl,_,_,_,_,hm⟩:=h
 rcases hm with rfl|⟨j,rfl,_⟩<;>exact⟨rfl,rfl⟩
theorem qis:∀ks:List D,(∀k∈ks,zF k)->ya3 (toPDs ks)=true/\ybl (toPDs ks)<=1
 | [],_=>⟨rfl,yaN _⟩
 |k::ks,h=>by
  obtain⟨h1,h2⟩:=qis ks λx hx=>h x (mM _ hx)
  obtain⟨g1,g2⟩:=(h k mS_).lay
  unfold toPDs
  simp only[ya3,ybl,h1,g1,g2,yaY,true_and]
  omega
theorem qcG {ks:List D} (h:∀k∈ks,zF k):∃b,neA (.lst ks) (.lst [])=some (.bl b)/\(b=true->ks≠[]):=by
 obtain⟨h1,h2⟩:=qis ks h
 have e1:wA (.lst ks)=true:=by
  have e:wA (.lst ks)=(ya3 (toPDs ks)&&decide (ybl (toPDs ks)+1<=50)):=by
   simp only[wA,zI,ybs,ye7]
  rw[e,h1,ybS,decide_eq_true_eq]
  omega
 have e2:wA (.lst [])=true:=rfl
 refine⟨!yb0 (zI (.lst ks)) (zI (.lst [])),by simp only[neA,e1,e2,yaY,if_true],λhb hn=>?_⟩
 subst hn
 exact absurd hb (by decide)
theorem qmm {ds:List D} {k:Int} (h0:0<=k) (h1:k<ds.length):∃d∈ds,atI ds k=some d:=by
 obtain⟨d,hd,e⟩:=qdB h0 h1
 exact⟨d,hd,e⟩
theorem qhu(j:Nat):(qcf 0 j).length=j:=by simp[qcf]
theorem uN {i j:Int} (h:0<j):qgo (.int i) (.int j)=some (.int (i%j)):=by
 simp only[qgo,qhV,h,decide_true,if_true]
theorem qag {i j:Int} (h:0<j) (h1:j<1606938044258990275541962092341162602522202993782792835301376):qbD (.int i) (.int j)=some (.int (i/j)):=by
 simp only[qbD,qhV,qd0,h,h1,decide_true,yaY,if_true]
theorem qhv {i j:Int} (h:yk i=true):wv (.int i) (.int j)=some (.int (i*j)):=by
 simp only[wv,qcm,h,ye8,if_true]
theorem qkf {i j:Int} (h:yk j=true):wv (.int i) (.int j)=some (.int (i*j)):=by
 simp only[wv,qcm,h,yc4,if_true]
theorem qkg {i:Int} (h0:0<=i) (h1:i<2000000000):yk i=true:=by
 unfold yk
 rw[yad,decide_eq_true_eq,decide_eq_true_eq]
 constructor<;>omega
def facts:List Int:=[48271,69621,16807,39373,30269,40014,40692,50021,61687,71993,83869,95561,30307]
structure qn4 (w e:Nat) (d:D):Prop where
 lv:(zI d).leavesShort 40=true
 sh:(zI d).showable=true
 wt:(zI d).weight<=w
 dp:(zI d).depth<=e
def qkh(d:D):Bool:=(zI d).leavesShort 40&&(zI d).showable&&decide ((zI d).weight<=130)&&decide ((zI d).depth<=5)
theorem qki {d:D} (h:qkh d=true):qn4 130 5 d:=by
 simp only[qkh,yad,decide_eq_true_eq]at h
 exact⟨h.1.1.1,h.1.1.2,h.1.2,h.2⟩
def dl(d:D):Bool := !(zI d).hasDict||noL d
def plain(d:D):Bool := !(zI d).hasDict&&noL d
theorem qb8:∀xs:List D,(∀d∈xs,plain d=true)->yfq (toPDs xs)=false/\noLs xs=true
 | [],_=>⟨rfl,rfl⟩
 |x::xs,h=>by
  obtain⟨h1,h2⟩:=qb8 xs λy hy=>h y (mM _ hy)
  have g:=h x mS_
  unfold plain at g
  rw[yad,yaT]at g
  simp[toPDs,yfq,noLs,h1,h2,g.1,g.2]
def qcH:List D:=[.non,.bl true,.bl false,.int (-1),.str "",.str "1",.tup [.int 0],.lst [.int 1],.dic [(.inr "a",1)],.tup [.int (-1)],.tup [.bl true],.tup [.tup [.int 1,.int 2]],.tup [.non],.int 100000000000000000000000000000]
def qcI:List D:=[.tup [.int 1,.int 2,.int 3],.tup [.tup [.int 0,.int 1,.int 1]],.tup [.tup [.int 1,.int (-1),.int 1]],.tup [.tup [.int 1,.int 1,.int (-1)]],.lst [.tup [.int 1,.int 1,.int 1]],.dic [(.inl 0,1)],.str "1/1*1",.tup [.tup [.int 1,.int 1,.bl true]]]
theorem qf0:(qcH++qcI).all (λd=>qkh d&&dl d)=true:=by decide +kernel
theorem neg_int(i:Int):qjq (.int i)=some (.int (-i)):=rfl
theorem qkj:qmR (.int 10) (.int 29)=some (.int 100000000000000000000000000000):=by
 have h:qjr 10 29=true:=by decide +kernel
 have e:(10:Int) ^ (29:Int).toNat=100000000000000000000000000000:=by decide +kernel
 simp only[qmR,qhV,h,if_true,e]
theorem qhw {xs ys:List D} (h:xs.length+ys.length<=1000000):qP (.lst xs) (.lst ys)=some (.lst (xs++ys)):=by
 simp only[qP,zM h,if_true]
theorem qf1 (x:Str):neB (.str x) (.str x)=some (.bl false):=by
 show some (D.bl (!decide (x=x)))=_
 rw[decide_eq_true rfl];rfl
theorem j7 {F:List D->OD} {f:M D} {Z:Env} {a d:D} (hf:f Z=.ok (a,Z)) (e:F [a]=some d):qs F (qb f (ret [])) Z=.ok (d,Z):=by
 have e0:qb f (ret []) Z=.ok ([a],Z):=by rw[yV,hf];rfl
 rw[qaX,e0]
 dsimp only
 rw[e]
theorem qkk {α:Type} {e:M D} {t:M Bool} {k f:α->D} {p:α->Bool} {r:Env}:∀(as:List α)(acc:List D)(o:OD),(∀a∈as,t (some (k a)::r)=.ok (p a,some (k a)::r))->(∀a∈as,p a=true->e (some (k a)::r)=.ok (f a,some (k a)::r))->acc.length+as.length<=1000000 ->
  ∃o',z6 (qz 0) t e (as.map k) acc (o::r)=.ok (acc++(as.filter p).map f,o'::r)
 | [],acc,o,_,_,_=>⟨o,by simp[z6]⟩
 | a::as,acc,o,ht,he,hl=>by
  have hl':acc.length+(as.length+1)<=1000000:=hl
  have h1:=ht a mS_
  rw[mC_]
  unfold z6
  simp only[qz,ybA,h1]
  cases hp:p a with
  |false=>
   obtain⟨o',q⟩:=qkk as acc (some (k a)) (λx hx=>ht x (mM _ hx)) (λx hx=>he x (mM _ hx)) (by omega)
   refine⟨o',?_⟩
   simp only[q,List.filter_cons,hp,Bool.false_eq_true,if_false]
  |true=>
   obtain⟨o',q⟩:=qkk as (acc++[f a]) (some (k a)) (λx hx=>ht x (mM _ hx)) (λx hx=>he x (mM _ hx)) (by rw[lA_,yaC];omega)
   refine⟨o',?_⟩
   simp only[he a mS_ hp,zM (show acc.length+1<=1000000 by omega),if_true,q,List.filter_cons,hp,mC_,aA_,List.singleton_append]
theorem qit {α:Type} {e:M D} {t:M Bool} {k:α->D} {xs:M (List D)} {Z r:Env} {fr:List Nat} (as:List α) (p:α->Bool) (f:α->D) (hx:xs Z=.ok (as.map k,Z)) (hr:yK 1 fr Z=none::r) (hl:as.length<=1000000)
  (ht:∀a∈as,t (some (k a)::r)=.ok (p a,some (k a)::r)) (he:∀a∈as,p a=true->e (some (k a)::r)=.ok (f a,some (k a)::r)):yL 1 fr none xs (qz 0) t e Z=.ok (.lst ((as.filter p).map f),Z):=by
 obtain⟨o',q⟩:=qkk as [] none ht he (by simpa using hl)
 rw[qct,hx]
 simp only[hr,q,ybY]
 rfl
theorem qcJ{α:Type}(as:List α):as.filter (λ_=>true)=as:=by simp
theorem qiu {α:Type} {e:M D} {k:α->D} {xs:M (List D)} {Z r:Env} {fr:List Nat} (as:List α) (f:α->D) (hx:xs Z=.ok (as.map k,Z)) (hr:yK 1 fr Z=none::r) (hl:as.length<=1000000)
  (he:∀a∈as,e (some (k a)::r)=.ok (f a,some (k a)::r)):yL 1 fr none xs (qz 0) (ret true) e Z=.ok (.lst (as.map f),Z):=by
 rw[qit as (λ_=>true) f hx hr hl (λ_ _=>rfl) λa ha _=>he a ha,qcJ]
theorem qb9 {α β:Type} {G:D->Env->Option Env} {b:MS} {k:α->D} {step:β->α->β} {Inv:Nat->β->Env->Prop}:∀(as:List α)(n:Nat)(s:β)(Z:Env),Inv n s Z ->
  (∀a∈as,∀m s Z,n<=m->m<n+as.length->Inv m s Z->∃Z1 Z2,G (k a) Z=some Z1/\b Z1=.ok (.nx Z2)/\Inv (m+1) (step s a) Z2) ->
  ∃Z',zL G b (as.map k) Z=.ok (.nx Z')/\Inv (n+as.length) (as.foldl step s) Z'
 | [],n,s,Z,h,_=>⟨Z,rfl,h⟩
 | a::as,n,s,Z,h,H=>by
  obtain⟨Z1,Z2,h1,h2,h3⟩:=H a mS_ n s Z (yah _) (by rw[lC_];omega) h
  obtain⟨Z',q,w⟩:=qb9 as (n+1) (step s a) Z2 h3 λx hx m s Z m1 m2=>H x (mM _ hx) m s Z (by omega) (by rw[lC_];omega)
  refine⟨Z',?_,?_⟩
  ·rw[mC_]
   unfold zL
   simp only[h1,h2]
   exact q
  ·rw[lC_,show n+(as.length+1)=n+1+as.length by omega]
   exact w
theorem yO{f:M D}{Z:Env}{a:D}(hf:f Z=.ok (a,Z)):qb f (ret []) Z=.ok ([a],Z):=by rw[yV,hf];rfl
theorem qf2{f g:M D}{Z:Env}{a b:D}(hf:f Z=.ok (a,Z))(hg:g Z=.ok (b,Z)):qb f (qb g (ret [])) Z=.ok ([a,b],Z):=by rw[yV,hf];simp only[yO hg]
theorem qnz{f g h:M D}{Z:Env}{a b c:D}(hf:f Z=.ok (a,Z))(hg:g Z=.ok (b,Z))(hh:h Z=.ok (c,Z)):qb f (qb g (qb h (ret []))) Z=.ok ([a,b,c],Z):=by rw[yV,hf];simp only[qf2 hg hh]
theorem qoA{f g:M D}{Z:Env}{a b:D}(hf:f Z=.ok (a,Z))(hg:g Z=.ok (b,Z)):z8 (qb f (qb g (ret []))) Z=.ok (.tup [a,b],Z):=by rw[qdh,qf2 hf hg];simp only[lC_,lN_,zM (show 0+1+1<=1000000 by omega),if_true]
theorem qn5{f g h:M D}{Z:Env}{a b c:D}(hf:f Z=.ok (a,Z))(hg:g Z=.ok (b,Z))(hh:h Z=.ok (c,Z)):z8 (qb f (qb g (qb h (ret [])))) Z=.ok (.tup [a,b,c],Z):=by rw[qdh,qnz hf hg hh];simp only[lC_,lN_,zM (show 0+1+1+1<=1000000 by omega),if_true]
theorem zY{F:List D->R D}{f:M D}{Z:Env}{a d:D}(hf:f Z=.ok (a,Z))(e:F [a]=.ok d):qf F (qb f (ret [])) Z=.ok (d,Z):=by rw[qaY,yO hf];simp only[e]
theorem qr{F:D->D->OD}{f g:M D}{Z:Env}{a b d:D}(hf:f Z=.ok (a,Z))(hg:g Z=.ok (b,Z))(e:F a b=some d):d2 F f g Z=.ok (d,Z):=by rw[qmS,hf];simp only[hg,e]
theorem ze{f:M D}{Z:Env}{b:Bool}(hf:f Z=.ok (.bl b,Z)):tst f Z=.ok (b,Z):=by rw[qjy,hf];rfl
theorem qev{t:M Bool}{p q:MS}{Z:Env}(h:t Z=.ok (true,Z)):sif t p q Z=p Z:=by rw[qgW,h];rfl
theorem qcK{t:M Bool}{p q:MS}{Z:Env}(h:t Z=.ok (false,Z)):sif t p q Z=q Z:=by rw[qgW,h];rfl
theorem qah {i:Nat} {f:M D} {Z:Env} {ds:List D} {d:D} (h:zW i Z=some ds) (hf:f Z=.ok (d,Z)) (hi:imm d=true) (hl:ds.length<1000000):zt (qB i f) Z=.ok (.nx (Z.set i (some (.lst (ds++[d]))))):=by
 simp only[qaZ,w8,h,hf,hi,zM (show ds.length+1<=1000000 by omega),yaY,if_true]
theorem vx {G:D->Env->Option Env} {b:MS} {d:D} {ds:List D} {Z Z1 Z2:Env} (h1:G d Z=some Z1) (h2:b Z1=.ok (.nx Z2)):zL G b (d::ds) Z=zL G b ds Z2:=by
 show(match G d Z with|none=>R.bad|some Z1=>_)=_
 rw[h1]
 simp only[h2]
theorem io1 {F:List D->List D->R (D×List D)} {i:Nat} {f:M D} {Z:Env} {ds ds':List D} {a d:D} (h:zW i Z=some ds) (hf:f Z=.ok (a,Z)) (e:F ds [a]=.ok (d,ds')):qo F i (qb f (ret [])) Z=.ok (d,Z.set i (some (.lst ds'))):=by
 simp only[uq,h,yO hf,e]
def mD:Option Int->D
 |none => .non
 |some j => .int j
abbrev Kd:=Int×Int×Option Int
def kD(x:Kd):D:=.tup [.int x.1,.int x.2.1,mD x.2.2]
theorem qmn(m:Option Int):imm (mD m)=true:=by cases m<;>rfl
theorem qiv (x:Kd):imm (kD x)=true:=by
 simp only[kD,imm,immL,qmn,yaY]
def okK(x:Kd):Prop:=0<x.1/\0<=x.2.1/\(∀j,x.2.2=some j->0<=j)
theorem qf3 {x:Kd} (h:okK x):uf (kD x)=true:=by
 obtain⟨a,b,m⟩:=x
 obtain⟨h1,h2,h3⟩:=h
 have e1:qb6 (.int a)=true:=decide_eq_true h1
 have e2:jo (.int b)=true:=decide_eq_true h2
 cases m with
 |none=>simp only[kD,mD,uf,e1,e2,jZ,ybS,ye8]
 |some j=>
  have e3:jo (.int j)=true:=decide_eq_true (h3 j rfl)
  simp only[kD,mD,uf,e1,e2,e3,ybS,yc4]
theorem qiw {α:Type} {ds:List α} {n:Nat} {d:α} (h:ds[n]? = some d):atI ds (n:Int)=some d:=by
 unfold atI ixN
 have hl:=(gI_.mp h).1
 rw[if_pos (by omega),if_pos (by omega)]
 show ds[(n:Int).toNat]? = _
 rw[ybo];exact h
end Law
end L2.Sk
namespace L2.Sk
namespace Law
open PySem PySem.Spec PyProof.Rows
set_option maxHeartbeats 4000000
local macro_rules|`(%[$x|0])=>`(qb $x (ret []))|`(%[$x,$xs,*|0])=>`(qb $x %[$xs,*|0])
local macro_rules|`(%[$x|1])=>`(⟨rfl,rfl,rfl,by decide +kernel,rfl,by decide +kernel,by decide +kernel⟩)|`(%[$f,$d,$m,$F,$p|2])=>`(⟨$f,$d,?_,$m,($F).kp,($F).binds fun _ _ _ _ _ _ us hl=>match us,hl with | $p,_=>rfl⟩)|`(%[$s,$f|3])=>do let K:=Lean.mkIdent `K;`(yak $K yaf $s=some (some (.ref $f)))|`(%[$s,$t,$n:num|4])=>do let K:=Lean.mkIdent `K;let f:=Lean.mkIdent (Lean.Name.mkSimple ("f"++toString n.getNat));let oc:=Lean.mkIdent (Lean.Name.mkSimple ("oc"++toString n.getNat));let od:=Lean.mkIdent (Lean.Name.mkSimple ("od"++toString n.getNat));let kV:=Lean.mkIdent (Lean.Name.mkSimple ("kV"++toString n.getNat));let dc:=Lean.mkIdent (Lean.Name.mkSimple ("dc"++toString n.getNat));let pm:=Lean.mkIdent (Lean.Name.mkSimple ("pm"++toString n.getNat));let an:=Lean.mkIdent (Lean.Name.mkSimple ("an"++toString n.getNat));let cd:=Lean.mkIdent (Lean.Name.mkSimple ("cd"++toString n.getNat));let ct:=Lean.mkIdent (Lean.Name.mkSimple ("ct"++toString n.getNat));let sl:=Lean.mkIdent (Lean.Name.mkSimple ("sl"++toString n.getNat));`($(K).lookup $f=some ⟨$oc,$od,.func (yau $s $s (qN $t) (qE $t) (qh $t) .none $kV $dc $pm $an $cd $ct),$sl⟩)|`(%[$s,$c|5])=>do let K:=Lean.mkIdent `K;`(yas $K $c $s=true)|`(%[$f|6])=>do let K:=Lean.mkIdent `K;`(yal $K (.ref $f)=true)|`(%[$q,$s,$n:num|7])=>do let w:=Lean.mkIdent `w;let b:=Lean.mkIdent `base;let l:=Lean.mkIdent `l;let X:=Lean.mkIdent `X;let G:=Lean.mkIdent `G;let T:=Lean.mkIdent `T;let ln:=Lean.mkIdent (Lean.Name.mkSimple ("l"++toString n.getNat));let cn:=Lean.mkIdent (Lean.Name.mkSimple ("c"++toString n.getNat));let kn:=Lean.mkIdent (Lean.Name.mkSimple ("k"++toString n.getNat));let an:=Lean.mkIdent (Lean.Name.mkSimple ("a"++toString n.getNat));`($q (P:=$(l).prog) (w:=$w) (base:=$b) (zy (st:=$s) $ln $cn $kn) (yav $X $G $an) $T)
theorem qoB{f g:M D}{Z:Env}{a b:D}(hf:f Z=.ok (a,Z))(hg:g Z=.ok (b,Z)):jg %[f,g|0] Z=.ok (.lst [a,b],Z):=by rw[qaB,qf2 hf hg];simp only[lC_,lN_,zM (show 0+1+1<=1000000 by omega),if_true]
theorem qhx{t u:M Bool}{Z:Env}(h1:t Z=.ok (false,Z))(h2:u Z=.ok (false,Z)):tor t u Z=.ok (false,Z):=by rw[qfq,h1];exact h2
theorem qgv{t u:M Bool}{Z:Env}(h1:t Z=.ok (true,Z)):tor t u Z=.ok (true,Z):=by rw[qfq,h1];rfl
theorem qhy{t u:M Bool}{Z:Env}(h1:t Z=.ok (false,Z)):ub t u Z=.ok (false,Z):=by rw[qdj,h1];rfl
theorem qhz{t u:M Bool}{Z:Env}{b:Bool}(h1:t Z=.ok (true,Z))(h2:u Z=.ok (b,Z)):ub t u Z=.ok (b,Z):=by rw[qdj,h1];exact h2
theorem qhA (xs:List D) (j:Nat) (h:j<=xs.length):qfa xs none (some (j:Int))=xs.take j:=by
 unfold qfa
 rw[HT.sIx_none,HT.sIx_nat,Nat.min_eq_left h]
 simp
theorem qdC (xs:List D) (j:Nat) (h:j<=xs.length):qfa xs (some (j:Int)) none=xs.drop j:=by
 unfold qfa
 rw[HT.sIx_none,HT.sIx_nat,Nat.min_eq_left h]
 exact yee (by simp)
theorem jp{i:Nat}{f:M D}{Z Z1:Env}{d:D}(h:f Z=.ok (d,Z1)):qY i f Z=.ok (.nx (Z1.set i (some d))):=by rw[qdk,h]
theorem v9{f:M D}{Z Z1:Env}{d:D}(h:f Z=.ok (d,Z1)):qZ f Z=.ok (.rt d Z1):=by rw[qbR,h]
theorem qkl{f:M D}{Z Z1:Env}{d:D}(h:f Z=.ok (d,Z1)):zt f Z=.ok (.nx Z1):=by rw[qaZ,h]
theorem vT {x y:Str} (h:x.cps.toList=y.cps.toList):x=y:=by
 obtain⟨a⟩:=x
 obtain⟨b⟩:=y
 have:a=b:=Array.toList_inj.mp h
 rw[this]
theorem qix {c:Nat}:∀{l1 l2 r1 r2:List Nat},c ∉ l1->c ∉ l2->l1++c::r1=l2++c::r2->l1=l2/\r1=r2
 | [],[],_,_,_,_,h=>⟨rfl,(ycH h).2⟩
 | [],b::l2,_,_,_,h2,h=>absurd ((ycH h).1▸mS_) h2
 |a::l1,[],_,_,h1,_,h=>absurd ((ycH h).1▸mS_) h1
 |a::l1,b::l2,_,_,h1,h2,h=>by
  obtain⟨e1,e2⟩:=ycH h
  obtain⟨e3,e4⟩:=qix (λz=>h1 (mM _ z)) (λz=>h2 (mM _ z)) e2
  exact⟨by rw[e1,e3],e4⟩
theorem jc (c:Nat) (a b:Str) (r:List Str):(ybf ⟨#[c]⟩ (a::b::r)).cps.toList=a.cps.toList++c::(ybf ⟨#[c]⟩ (b::r)).cps.toList:=by
 show((a.cps ++ #[c])++(ybf ⟨#[c]⟩ (b::r)).cps).toList=_
 rw[ycn,ycn,aA_]
 rfl
theorem qdD {c:Nat}:∀{as bs:List Str},as≠[]->bs≠[]->(∀a∈as,c ∉ a.cps.toList)->(∀b∈bs,c ∉ b.cps.toList)->(ybf ⟨#[c]⟩ as).cps.toList=(ybf ⟨#[c]⟩ bs).cps.toList->as=bs
 | [],_,h,_,_,_,_=>absurd rfl h
 |_,[],_,h,_,_,_=>absurd rfl h
 | [a],[b],_,_,_,_,h=>by rw[vT (x:=a) (y:=b) h]
 | [a],b::b2::bs,_,_,h1,_,h=>by
  rw[jc]at h
  exact absurd (show c∈a.cps.toList by rw[show a.cps.toList=_ from h];exact mr_ _ mS_) (h1 a mS_)
 |a::a2::as,[b],_,_,_,h2,h=>by
  rw[jc]at h
  exact absurd (show c∈b.cps.toList by rw[<-show _=b.cps.toList from h];exact mr_ _ mS_) (h2 b mS_)
 |a::a2::as,b::b2::bs,_,_,h1,h2,h=>by
  rw[jc,jc]at h
  obtain⟨e1,e2⟩:=qix (h1 a mS_) (h2 b mS_) h
  rw[vT e1,qdD (by simp) (by simp) (λx hx=>h1 x (mM _ hx)) (λx hx=>h2 x (mM _ hx)) e2]
theorem uO(z:Str)(ws:List Str):Txt.join z ws=ybf z ws:=StrLaws.glued_eq_join z ws
theorem qaI {c:Nat} {ws:List Str} (h:ws≠[]) (hf:∀w∈ws,c ∉ w.cps.toList):Txt.split (Txt.join ⟨#[c]⟩ ws) ⟨#[c]⟩=ws:=by
 rw[uO]
 refine qdD (λe=>?_) h (ye9 _ c) hf ?_
 ·have:=split_pos (ybf ⟨#[c]⟩ ws) ⟨#[c]⟩
  rw[e]at this
  exact absurd this (by decide)
 ·rw[ycy]
theorem qbc {x a b:Str} {c:Nat} (hx:x.cps.toList=a.cps.toList++c::b.cps.toList) (ha:c ∉ a.cps.toList):ya x ⟨#[c]⟩=[a,⟨#[c]⟩,b]:=by
 have hat:∀i,StrLaws.At x ⟨#[c]⟩ x.length i ↔ x.cps.toList[i]? = some c:=λi=>yfr x c i
 have h0:x.cps.toList[a.cps.toList.length]? = some c:=by rw[hx,List.getElem?_append_right (yah _),Nat.sub_self];rfl
 have e:ya x ⟨#[c]⟩=[(Txt.partition x ⟨#[c]⟩).1,(Txt.partition x ⟨#[c]⟩).2.1,(Txt.partition x ⟨#[c]⟩).2.2]:=by
  unfold ya Txt.partition
  cases yaE x ⟨#[c]⟩ 0 x.length 1<;>rfl
 rw[e]
 rcases partition_whole x ⟨#[c]⟩ with⟨_,hn⟩|⟨i,hp,hi,hn⟩
 ·exact absurd ((hat _).mpr h0) (hn _)
 ·have hi':=(hat i).mp hi
  have le:¬a.cps.toList.length<i:=λz=>hn _ z ((hat _).mpr h0)
  have ge:¬i<a.cps.toList.length:=λz=>by
   rw[hx,List.getElem?_append_left z]at hi'
   exact ha (ybF hi')
  have ei:i=a.cps.toList.length:=by omega
  subst ei
  rw[hp]
  have l1:(ybz x 0 a.cps.toList.length)=a:=vT (by
   rw[yeu,hx,List.drop_zero,Nat.sub_zero,List.take_left])
  have l2:(ybz x (a.cps.toList.length+(⟨#[c]⟩:Str).length) x.length)=b:=vT (by
   have hl:x.length=a.cps.toList.length+(b.cps.toList.length+1):=by
    have:=congrArg yd6 hx
    rw[lA_,lC_]at this
    rw[<-this]
    exact(yaI).symm
   have e1:(⟨#[c]⟩:Str).length=1:=rfl
   rw[yeu,hx,e1,hl,<-List.drop_drop,List.drop_left]
   show(b.cps.toList).take _=_
   rw[yee (by omega)])
  show [ybz x 0 a.cps.toList.length,_,ybz x (a.cps.toList.length+(⟨#[c]⟩:Str).length) x.length]=_
  rw[l1,l2]
theorem qiy {c:Nat}:∀{l:List Nat},c∈l->∃a b,l=a++c::b/\c ∉ a
 | x :: l,h=>by
  by_cases e:x=c
  ·exact⟨[],l,by rw[e];rfl,by simp⟩
  ·have h':c∈l:=by
    rcases List.mem_cons.mp h with z|z
    ·exact absurd z.symm e
    ·exact z
   obtain⟨a,b,q,n⟩:=qiy h'
   refine⟨x::a,b,by rw[q];rfl,λz=>?_⟩
   rcases List.mem_cons.mp z with z|z
   ·exact e z.symm
   ·exact n z
theorem qai {x:Str} {c:Nat} (h:c ∉ x.cps.toList):ya x ⟨#[c]⟩=[x,ybW,ybW]:=by
 have e:ya x ⟨#[c]⟩=[(Txt.partition x ⟨#[c]⟩).1,(Txt.partition x ⟨#[c]⟩).2.1,(Txt.partition x ⟨#[c]⟩).2.2]:=by
  unfold ya Txt.partition
  cases yaE x ⟨#[c]⟩ 0 x.length 1<;>rfl
 rw[e]
 rcases partition_whole x ⟨#[c]⟩ with⟨hp,_⟩|⟨i,_,hi,_⟩
 ·rw[hp]
 ·exact absurd (ybF ((yfr x c i).mp hi)) h
theorem uP (x:Str) (c:Nat):(c ∉ x.cps.toList/\ya x ⟨#[c]⟩=[x,ybW,ybW])\/∃a b:Str,x.cps.toList=a.cps.toList++c::b.cps.toList/\c ∉ a.cps.toList/\ya x ⟨#[c]⟩=[a,⟨#[c]⟩,b]:=by
 by_cases h:c∈x.cps.toList
 ·obtain⟨a,b,q,n⟩:=qiy h
  have q':x.cps.toList=(⟨a.toArray⟩:Str).cps.toList++c::(⟨b.toArray⟩:Str).cps.toList:=by simpa using q
  have n':c ∉ (⟨a.toArray⟩:Str).cps.toList:=by simpa using n
  exact .inr ⟨⟨a.toArray⟩,⟨b.toArray⟩,q',n',qbc q' n'⟩
 ·exact .inl ⟨h,qai h⟩
theorem qca {x a b:Str} {c:Nat} (hx:x.cps.toList=a.cps.toList++c::b.cps.toList) (ha:c ∉ a.cps.toList) (hb:c ∉ b.cps.toList):Txt.split x ⟨#[c]⟩=[a,b]:=by
 have e:x=Txt.join ⟨#[c]⟩ [a,b]:=vT (by rw[uO,jc];exact hx)
 rw[e]
 refine qaI (by simp) λw hw=>?_
 simp only[yar,nN_,or_false]at hw
 rcases hw with rfl|rfl
 ·exact ha
 ·exact hb
theorem wd {x a b:Str} {c:Nat} (h:Txt.split x ⟨#[c]⟩=[a,b]):x.cps.toList=a.cps.toList++c::b.cps.toList/\c ∉ a.cps.toList/\c ∉ b.cps.toList:=by
 have f:∀w∈Txt.split x ⟨#[c]⟩,c ∉ w.cps.toList:=ye9 _ c
 rw[h]at f
 have j:ybf ⟨#[c]⟩ (Txt.split x ⟨#[c]⟩)=x:=ycy x ⟨#[c]⟩
 rw[h]at j
 refine⟨?_,f a (by simp),f b (by simp)⟩
 rw[<-j,jc]
 rfl
theorem qhB {w a b c r:Str} (ha:47 ∉ a.cps.toList/\42 ∉ a.cps.toList) (hb:47 ∉ b.cps.toList/\42 ∉ b.cps.toList) (hc:42 ∉ c.cps.toList) (h1:w.cps.toList=a.cps.toList++47::r.cps.toList) (h2:r.cps.toList=b.cps.toList++42::c.cps.toList) :
  ∃p,Txt.split w ⟨#[42]⟩=[p,c]/\Txt.split p ⟨#[47]⟩=[a,b]:=by
 let p:Str:=⟨(a.cps.toList++47::b.cps.toList).toArray⟩
 have hp:p.cps.toList=a.cps.toList++47::b.cps.toList:=rfl
 refine⟨p,qca ?_ ?_ hc,qca hp ha.1 hb.1⟩
 ·rw[h1,h2,hp,aA_];rfl
 ·rw [hp]
  intro z
  rcases mA_.mp z with z|z
  ·exact ha.2 z
  ·rcases List.mem_cons.mp z with z|z
   ·cases z
   ·exact hb.2 z
theorem qf4 {w a b c p:Str} (h1:Txt.split w ⟨#[42]⟩=[p,c]) (h2:Txt.split p ⟨#[47]⟩=[a,b]):∃r,ya w ⟨#[47]⟩=[a,⟨#[47]⟩,r]/\ya r ⟨#[42]⟩=[b,⟨#[42]⟩,c]:=by
 obtain⟨e1,n1,n2⟩:=wd h1
 obtain⟨e2,n3,n4⟩:=wd h2
 let r:Str:=⟨(b.cps.toList++42::c.cps.toList).toArray⟩
 have hr:r.cps.toList=b.cps.toList++42::c.cps.toList:=rfl
 refine⟨r,qbc ?_ n3,qbc hr λz=>n1 (by rw[e2];exact mr_ _ (mM _ z))⟩
 rw[e1,e2,hr,aA_]
 rfl
def top(i:Nat):Stmt:=PySem.Challenge.pw_sackloads_k04_stores_written_and_read.main.body.getD i (.Pass ⟨0,0,0,0⟩)
abbrev yc:Stmt:=top 13
abbrev yd:Stmt:=top 14
abbrev yP:Stmt:=top 15
abbrev ju:Stmt:=top 22
abbrev zQ:Stmt:=top 21
abbrev jv:Stmt:=top 25
abbrev qaj:Stmt:=top 26
abbrev zR:Stmt:=top 36
abbrev zS:Stmt:=top 32
abbrev jw:Stmt:=top 39
abbrev jx:Stmt:=top 31
abbrev zq:Stmt:=top 35
abbrev jy:Stmt:=top 40
abbrev zc:Stmt:=top 37
abbrev jz:Stmt:=top 38
abbrev yQ:Stmt:=top 20
abbrev jA:Stmt:=top 23
abbrev jB:Stmt:=top 16
abbrev zT:Stmt:=top 17
abbrev wf:Stmt:=top 24
abbrev zJ:Stmt:=top 33
abbrev zK:Stmt:=top 34
abbrev ye:Stmt:=top 29
abbrev jC:Stmt:=top 28
abbrev yf:Stmt:=top 30
abbrev qar:Stmt:=top 41
abbrev zj:Stmt:=qi5 (top 7) 0
structure Txt (K:yae) (mg:Str->Option Value):Prop where
 b_ValueError:mg "ValueError"=none
 b_abs:mg "abs"=none
 b_all:mg "all"=none
 b_bool:mg "bool"=none
 b_divmod:mg "divmod"=none
 b_enumerate:mg "enumerate"=none
 b_int:mg "int"=none
 b_isinstance:mg "isinstance"=none
 b_len:mg "len"=none
 b_list:mg "list"=none
 b_max:mg "max"=none
 b_min:mg "min"=none
 b_range:mg "range"=none
 b_repr:mg "repr"=none
 b_reversed:mg "reversed"=none
 b_str:mg "str"=none
 b_tuple:mg "tuple"=none
 c_FIGURES:∃t,mg "FIGURES"=some (.str "0123456789" t)
 c_KINDS_AT_MOST:∃t,mg "KINDS_AT_MOST"=some (.int 12 t)
 c_MOST:∃t,mg "MOST"=some (.int 2 t)
 c_WEIGHT:∃t,mg "WEIGHT"=some (.int 0 t)
 c_WORTH:∃t,mg "WORTH"=some (.int 1 t)
def RN:List Str:=["NoText","NoStore"]
def TN:List Str:=["SackError","NoText","NotSingle","TooMany","NoLoad","NoNumber","NoStore"]
noncomputable def vU:MS :=
  (qZ (qi8 (qbG "int" (dv 0)) (qly (qbG "bool" (dv 0)))))
noncomputable def uQ:List D->R D:=dfn 1 1 vU
noncomputable def vV:MS :=
  (qZ (qi8 (qf uQ %[dv 0|0]) (d2 geD (dv 0) (ret (.int 0)))))
noncomputable def yg:List D->R D:=dfn 1 1 vV
noncomputable def qak:MS :=
  (qt (sif (tor (vd (tst (qbG "tuple" (dv 0)))) (tst (d2 neB (qs jW %[dv 0|0]) (ret (.int 3))))) (qZ (ret (.bl false))) zo)
  (qt (sif (tor (vd (tst (qf yg %[d2 ixD (dv 0) (ret (.int 0))|0]))) (tst (d2 eqB (d2 ixD (dv 0) (ret (.int 0))) (ret (.int 0))))) (qZ (ret (.bl false))) zo)
  (qZ (qi8 (qf yg %[d2 ixD (dv 0) (ret (.int 1))|0]) (dor (d2 isN (d2 ixD (dv 0) (ret (.int 2))) (ret .non)) (qf yg %[d2 ixD (dv 0) (ret (.int 2))|0]))))))
noncomputable def jR:List D->R D:=dfn 1 1 qak
noncomputable def u8:MS :=
  (qt (qY 1 (ret (.int 0)))
  (qt (qay (qgt (dv 0)) (qz 2) (qY 1 (d2 qP (d2 wv (dv 1) (ret (.int 10))) (qs qcE %[dv 2|0]))))
  (qZ (dv 1))))
noncomputable def zG:List D->R D:=dfn 3 1 u8
noncomputable def ux:MS :=
  (qt (sif (tor (tst (d2 eqB (dv 0) (ret (.str "")))) (vd (tst (qs qgq %[yL 1 [] none (qgt (dv 0)) (qz 0) (ret true) (d2 inS (dv 0) (ret (.str "0123456789")))|0])))) (qZ (ret (.bl false))) zo)
  (qZ (dor (d2 eqB (dv 0) (ret (.str "0"))) (d2 neB (d2 ixB (dv 0) (ret (.int 0))) (ret (.str "0"))))))
noncomputable def qI:List D->R D:=dfn 1 1 ux
noncomputable def yW:MS :=
  (qt (qY 1 (qA qcD (dv 0) %[ret (.str "/")|0]))
  (qt (qY 2 (qA qcD (d2 ixB (dv 1) (ret (.int 2))) %[ret (.str "*")|0]))
  (qt (sif (tor (tst (d2 eqB (d2 ixB (dv 2) (ret (.int 1))) (ret (.str "")))) (tor (vd (tst (qf qI %[d2 ixB (dv 1) (ret (.int 0))|0]))) (vd (tst (qf qI %[d2 ixB (dv 2) (ret (.int 0))|0]))))) (qZ (ret .non)) zo)
  (qt (sif (ub (tst (d2 neB (d2 ixB (dv 2) (ret (.int 2))) (ret (.str "")))) (vd (tst (qf qI %[d2 ixB (dv 2) (ret (.int 2))|0])))) (qZ (ret .non)) zo)
  (qt (qY 3 (dif (tst (d2 eqB (d2 ixB (dv 2) (ret (.int 2))) (ret (.str "")))) (ret .non) (qf zG %[d2 ixB (dv 2) (ret (.int 2))|0])))
  (qt (qY 4 (z8 %[qf zG %[d2 ixB (dv 1) (ret (.int 0))|0],qf zG %[d2 ixB (dv 2) (ret (.int 0))|0],dv 3|0]))
  (qZ (dif (tst (qf jR %[dv 4|0])) (dv 4) (ret .non)))))))))
noncomputable def qR:List D->R D:=dfn 5 1 yW
noncomputable def vy:MS :=
  (qt (sif (vd (tst (qbG "str" (dv 0)))) (jn "NoText" %[ret (.int 0)|0]) zo)
  (qt (sif (tst (d2 eqB (dv 0) (ret (.str "")))) (qZ (z8 (ret []))) zo)
  (qt (yE 1 (qfg (ret [])))
  (qt (qay (vn %[qA qO (dv 0) %[ret (.str " ")|0]|0]) (qaq 2 (zp (qz 2) (zp (qz 3) qap))) (qt (qY 4 (qf qR %[dv 3|0]))
  (qt (sif (tor (tst (d2 isN (dv 4) (ret .non))) (tst (d2 geD (dv 2) (ret (.int 12))))) (jn "NoText" %[dv 2|0]) zo)
  (zt (qB 1 (dv 4))))))
  (qZ (qcp 1))))))
noncomputable def ug:List D->R D:=qbU 5 1 vy
noncomputable def uy:MS :=
  (qt (sif (tor (vd (tst (qec RN "SackError" (dv 0)))) (vd (tst (qec RN "ValueError" (dv 0))))) (qZ (ret (.str "other"))) zo)
  (qt (qY 1 (jg %[qec RN "NoStore" (dv 0),qec RN "NoNumber" (dv 0),qec RN "NoLoad" (dv 0),qec RN "TooMany" (dv 0)|0]))
  (qt (qY 1 (d2 qP (dv 1) (jg %[qec RN "NotSingle" (dv 0),qec RN "NoText" (dv 0)|0])))
  (qt (sif (tst (d2 neS (qfH qfF (dv 1) %[ret (.bl true)|0]) (ret (.int 1)))) (qZ (ret (.str "other"))) zo)
  (qZ (d2 ixD (jg %[ret (.str "store"),ret (.str "number"),ret (.str "load"),ret (.str "many"),ret (.str "single"),ret (.str "text")|0]) (qfH qfG (dv 1) %[ret (.bl true)|0])))))))
noncomputable def jS:List D->R D:=dfn 2 1 uy
noncomputable def uz:MS :=
  (qZ (qi8 (qbG "int" (dv 0)) (qly (qbG "bool" (dv 0)))))
noncomputable def uA:List D->R D:=dfn 1 1 uz
noncomputable def yX:MS :=
  (uw RN 2 1 (qZ (ud RN ug %[dv 0|0])) (qt (sif (ub (tst (d2 eqB (qf jS %[dv 1|0]) (ret (.str "text")))) (tst (qf uA %[dat (dv 1)|0]))) (qZ (dat (dv 1))) zo)
  (qZ (qf jS %[dv 1|0]))))
noncomputable def qv:List D->R D:=dfn 2 1 yX
noncomputable def yY:MS :=
  (qt (qmO (qs wV %[qbK 0 (ret (.int 0)),dv 1|0]) (qaq 2 (zp (qz 2) (zp (qz 3) qap))))
  (qt (qgR 0 (ret (.int 0)) (dv 2))
  (qZ (dv 3))))
noncomputable def qk:List D->List D->R (D×List D):=u7 4 2 yY
noncomputable def z9:MS :=
  (qt (qY 1 (jg %[ret .non,ret (.bl true),ret (.bl false),d1 qjq (ret (.int 1)),ret (.str ""),ret (.str "1"),z8 %[ret (.int 0)|0],jg %[ret (.int 1)|0],ret (.dic [(.inr "a",1)]),z8 %[d1 qjq (ret (.int 1))|0],z8 %[ret (.bl true)|0],z8 %[z8 %[ret (.int 1),ret (.int 2)|0]|0],z8 %[ret .non|0],d2 qmR (ret (.int 10)) (ret (.int 29))|0]))
  (qt (qY 1 (d2 qP (dv 1) (jg %[z8 %[ret (.int 1),ret (.int 2),ret (.int 3)|0],z8 %[z8 %[ret (.int 0),ret (.int 1),ret (.int 1)|0]|0],z8 %[z8 %[ret (.int 1),d1 qjq (ret (.int 1)),ret (.int 1)|0]|0],z8 %[z8 %[ret (.int 1),ret (.int 1),d1 qjq (ret (.int 1))|0]|0],jg %[z8 %[ret (.int 1),ret (.int 1),ret (.int 1)|0]|0],ret (.dic [(.inl 0,1)]),ret (.str "1/1*1"),z8 %[z8 %[ret (.int 1),ret (.int 1),ret (.bl true)|0]|0]|0])))
  (qZ (d2 ixD (dv 1) (qo qk 0 %[ret (.int 22)|0])))))
noncomputable def qX:List D->List D->R (D×List D):=u7 2 1 z9
noncomputable def yq:MS :=
  (qt (qY 2 (qA qO (dv 1) %[ret (.str " ")|0]))
  (qt (qY 3 (qo qk 0 %[qs jW %[dv 2|0]|0]))
  (qt (qY 4 (qo qk 0 %[qs jW %[dv 2|0]|0]))
  (qt (qY 5 (qo qk 0 %[d2 qP (qs jW %[dv 1|0]) (ret (.int 1))|0]))
  (qt (qY 6 (d2 ixB (ret (.str "0123456789/* \na-+/*")) (qo qk 0 %[ret (.int 19)|0])))
  (qt (qY 7 (qo qk 0 %[ret (.int 8)|0]))
  (qt (sif (tst (d2 ltD (dv 7) (ret (.int 3)))) (qZ (d2 qP (d2 qP (qhi (dv 1) (ret none) (zu (dv 5))) (d2 ixB (jg %[dv 6,ret (.str ""),dv 6|0]) (dv 7))) (qhi (dv 1) (zu (d2 qP (dv 5) (qs wW %[d2 gtD (dv 7) (ret (.int 0))|0]))) (ret none)))) zo)
  (qt (qfP 8 (qt (yE 8 (qcC (dv 2)))
  (qef 8 3 4 (z8 %[qbK 8 (dv 4),qbK 8 (dv 3)|0]))))
  (qt (qY 9 (d2 ixB (jg %[ret (.str ""),ret (.str "0/1*1"),ret (.str "1/01*"),ret (.str "1/1"),ret (.str "1*1"),ret (.str "/1*1"),ret (.str "1/*1"),ret (.str "1/1*1*1"),ret (.str "1/1/1*"),ret (.str "2/0*0")|0]) (qo qk 0 %[ret (.int 10)|0])))
  (qt (qY 10 (jg %[d2 qP (uL (dv 2) (ret none) (zu (dv 3))) (uL (dv 2) (zu (d2 qP (dv 3) (ret (.int 1)))) (ret none)),d2 qP (d2 qP (uL (dv 2) (ret none) (zu (dv 3))) (jg %[d2 ixB (dv 2) (dv 3)|0])) (uL (dv 2) (zu (dv 3)) (ret none)),dv 8|0]))
  (qZ (qA vt (ret (.str " ")) %[d2 ixB (d2 qP (dv 10) (jg %[d2 qP (d2 qP (uL (dv 2) (ret none) (zu (dv 3))) (jg %[dv 9|0])) (uL (dv 2) (zu (dv 3)) (ret none)),d2 qP (d2 qP (uL (dv 2) (ret none) (zu (dv 3))) (jg %[dv 9|0])) (uL (dv 2) (zu (d2 qP (dv 3) (ret (.int 1)))) (ret none))|0])) (d2 qkH (dv 7) (ret (.int 3)))|0]))))))))))))
noncomputable def qD:List D->List D->R (D×List D):=u7 11 2 yq
noncomputable def jY:MS :=
  (qt (sif (tor (tst (d2 eqB (dv 0) (ret (.str "")))) (tor (tst (d2 neB (yL 1 [] none (qgt (dv 0)) (qz 0) (tst (d2 qmf (dv 0) (ret (.str "0123456789")))) (dv 0)) (jg (ret [])))) (ub (tst (d2 eqB (d2 ixB (dv 0) (ret (.int 0))) (ret (.str "0")))) (tst (d2 neB (dv 0) (ret (.str "0"))))))) (qZ (ret .non)) zo)
  (qZ (qs qcE %[dv 0|0])))
noncomputable def qc:List D->R D:=dfn 1 1 jY
noncomputable def yr:MS :=
  (qt (yE 1 (qfg (ret [])))
  (qt (qay (vn %[d2 wv (qA qO (dv 0) %[ret (.str " ")|0]) (qs wW %[d2 neB (dv 0) (ret (.str ""))|0])|0]) (qaq 2 (zp (qz 2) (zp (qz 3) qap))) (qt (qY 4 (qA qO (dv 3) %[ret (.str "*")|0]))
  (qt (qY 5 (qA qO (d2 ixB (dv 4) (ret (.int 0))) %[ret (.str "/")|0]))
  (qt (sif (tor (tst (d2 gtD (dv 2) (ret (.int 11)))) (tor (tst (d2 neB (qs jW %[dv 4|0]) (ret (.int 2)))) (tor (tst (d2 neB (qs jW %[dv 5|0]) (ret (.int 2)))) (tst (d2 inB (qf qc %[d2 ixB (dv 5) (ret (.int 0))|0]) (z8 %[ret .non,ret (.int 0)|0])))))) (qZ (dv 2)) zo)
  (qt (sif (tor (tst (d2 isN (qf qc %[d2 ixB (dv 5) (ret (.int 1))|0]) (ret .non))) (ub (tst (d2 neB (d2 ixB (dv 4) (ret (.int 1))) (ret (.str "")))) (tst (d2 isN (qf qc %[d2 ixB (dv 4) (ret (.int 1))|0]) (ret .non))))) (qZ (dv 2)) zo)
  (zt (qB 1 (z8 %[qf qc %[d2 ixB (dv 5) (ret (.int 0))|0],qf qc %[d2 ixB (dv 5) (ret (.int 1))|0],qf qc %[d2 ixB (dv 4) (ret (.int 1))|0]|0]))))))))
  (qZ (qcp 1))))
noncomputable def zH:List D->R D:=dfn 6 1 yr
noncomputable def qcb:MS :=
  (qt (yE 1 (qfg %[d2 ixB (ret (.str "0123456789")) (d2 qgo (dv 0) (ret (.int 10)))|0]))
  (qt (qY 2 (d2 qbD (dv 0) (ret (.int 10))))
  (qt (ut (tst (d2 gtD (dv 2) (ret (.int 0)))) (qt (zt (qB 1 (d2 ixB (ret (.str "0123456789")) (d2 qgo (dv 2) (ret (.int 10))))))
  (qY 2 (d2 qbD (dv 2) (ret (.int 10))))) 40)
  (qZ (qjY "" 1)))))
noncomputable def yR:List D->R D:=dfn 3 1 qcb
noncomputable def u9:MS :=
  (qt (qY 1 (dif (tst (d2 isN (d2 ixB (dv 0) (ret (.int 2))) (ret .non))) (ret (.str "")) (qf yR %[d2 ixB (dv 0) (ret (.int 2))|0])))
  (qZ (d2 qP (d2 qP (d2 qP (d2 qP (qf yR %[d2 ixB (dv 0) (ret (.int 0))|0]) (ret (.str "/"))) (qf yR %[d2 ixB (dv 0) (ret (.int 1))|0])) (ret (.str "*"))) (dv 1))))
noncomputable def yt:List D->R D:=dfn 2 1 u9
noncomputable def vW:MS :=
  (qt (sif (tor (vd (tst (qbG "tuple" (dv 0)))) (tst (d2 gtD (qs jW %[dv 0|0]) (ret (.int 12))))) (qZ (ret (.bl false))) zo)
  (qZ (qs qgq %[yL 1 [] none (qbn (dv 0)) (qz 0) (ret true) (qf jR %[dv 0|0])|0])))
noncomputable def uR:List D->R D:=dfn 1 1 vW
noncomputable def yy:MS :=
  (sif (vd (tst (qf uR %[dv 0|0]))) (qdm "NoStore" %[ret (.str "this is no store")|0]) zo)
noncomputable def yz:List D->R D:=qbU 1 1 yy
noncomputable def qdE:MS :=
  (qt (zt (ud RN yz %[dv 0|0]))
  (qZ (qA vt (ret (.str " ")) %[yL 1 [] none (qbn (dv 0)) (qz 0) (ret true) (qf yt %[dv 0|0])|0])))
noncomputable def uX:List D->R D:=qbU 1 1 qdE
noncomputable def jN:MS :=
  (qt (qY 2 (qo qk 0 %[ret (.int 6)|0]))
  (qt (qju 3 4 %[d2 qP (ret (.int 1)) (qo qk 0 %[ret (.int 7)|0]),qo qk 0 %[ret (.int 10)|0]|0])
  (qt (sif (tst (d2 eqB (dv 2) (ret (.int 1)))) (qY 4 (d2 wv (ret (.int 2)) (dv 3))) zo)
  (qt (sif (tst (d2 eqB (dv 2) (ret (.int 2)))) (qY 4 (d2 qP (dv 3) (qo qk 0 %[ret (.int 3)|0]))) zo)
  (qt (sif (tst (d2 eqB (dv 2) (ret (.int 3)))) (qju 3 4 %[d2 qP (ret (.int 1)) (qo qk 0 %[ret (.int 25)|0]),qo qk 0 %[ret (.int 40)|0]|0]) zo)
  (qt (qY 5 (d2 ixD (jg %[ret (.int 1),ret (.int 1),ret (.int 1),ret (.int 2),ret (.int 3),ret (.int 0),ret (.int 5),dv 1|0]) (qo qk 0 %[ret (.int 8)|0])))
  (qZ (z8 %[dv 3,dv 4,dv 5|0]))))))))
noncomputable def zw:List D->List D->R (D×List D):=u7 6 2 jN
noncomputable def jO:MS :=
  (qt (yE 3 (qfg (ret [])))
  (qt (qay (u5 %[qo qk 0 %[d2 qP (dv 1) (ret (.int 1))|0]|0]) (qz 4) (qt (qY 5 (qo zw 0 %[dv 2|0]))
  (qt (sif (ub (tst (qh3 3 (jg (ret [])))) (tst (d2 eqB (qo qk 0 %[ret (.int 7)|0]) (ret (.int 6))))) (qY 5 (qbK 3 (qo qk 0 %[qbJ 3|0]))) zo)
  (zt (qB 3 (dv 5))))))
  (qZ (qcp 3))))
noncomputable def zx:List D->List D->R (D×List D):=u7 6 3 jO
noncomputable def vX:MS :=
  (qt (qY 2 (jg %[ret (.int 48271),ret (.int 69621),ret (.int 16807),ret (.int 39373),ret (.int 30269),ret (.int 40014),ret (.int 40692),ret (.int 50021),ret (.int 61687),ret (.int 71993),ret (.int 83869),ret (.int 95561),ret (.int 30307)|0]))
  (qt (qY 3 (d2 qP (d2 qP (d2 wv (d2 qP (d2 qgo (dv 0) (ret (.int 2147483647))) (ret (.int 12345))) (d2 ixD (dv 2) (d2 qgo (dv 1) (ret (.int 13))))) (d2 wv (ret (.int 977)) (dv 1))) (d2 wv (ret (.int 7919)) (d2 qbD (dv 1) (ret (.int 13))))))
  (qt (qY 3 (d2 qgo (dv 3) (ret (.int 1000000007))))
  (qZ (d2 qbD (d2 qgo (d2 qP (d2 wv (dv 3) (dv 3)) (d2 wv (ret (.int 48271)) (dv 1))) (ret (.int 1000000007))) (ret (.int 7)))))))
noncomputable def yh:List D->R D:=dfn 4 2 vX
noncomputable def yZ:MS :=
  (qt (sif (tst (d2 ltD (dv 1) (qs jW %[dv 0|0]))) (qZ (d2 ixD (dv 0) (dv 1))) zo)
  (qZ (ret (.int 0))))
noncomputable def jD:List D->R D:=dfn 2 2 yZ
noncomputable def uS:MS :=
  (qt (qY 2 (qf jD %[dv 0,dv 1|0]))
  (qt (sif (tst (d2 eqB (d2 qgo (dv 2) (ret (.int 2))) (ret (.int 0)))) (qZ (jg %[d2 qbD (qs qmP %[dv 2|0]) (ret (.int 2))|0])) zo)
  (qt (qY 3 (ret (.int 0)))
  (qt (qay (u5 %[ret (.int 40)|0]) (qz 4) (qY 3 (d2 qP (d2 wv (dv 3) (ret (.int 142857143))) (qf yh %[dv 2,dv 4|0]))))
  (qZ (jg %[dv 3|0]))))))
noncomputable def jd:List D->R D:=dfn 5 2 uS
noncomputable def qkm:MS :=
  (qt (sif (tor (tst (d2 neB (qf qv %[qA vt (ret (.str " ")) %[d2 wv (jg %[ret (.str "1/1*")|0]) (ret (.int 13))|0]|0]) (ret (.int 12)))) (tor (tst (d2 neB (qf qv %[ret (.str " ")|0]) (ret (.int 0)))) (tst (d2 neB (ue uX %[z8 (ret [])|0]) (ret (.str "")))))) (qZ (ret (.bl false))) zo)
  (qt (qay (u5 %[qs qjc %[ret (.int 1),qs qjd %[qs jW %[dv 0|0],ret (.int 6)|0]|0]|0]) (qz 1) (qt (yE 2 (qbO jd %[dv 0,dv 1|0]))
  (qt (qY 3 (qo zx 2 %[ret (.int 12),ret .non|0]))
  (qt (yE 4 (qfg (ret [])))
  (qt (qay (qbn (dv 3)) (qaq 3 (zp (qz 5) (zp (qz 6) (zp (qz 7) qap)))) (zt (qB 4 (d2 qP (d2 qP (d2 qP (d2 qP (qs vP %[dv 5|0]) (ret (.str "/"))) (qs vP %[dv 6|0])) (ret (.str "*"))) (dif (tst (d2 isN (dv 7) (ret .non))) (ret (.str "")) (qs vP %[dv 7|0]))))))
  (qt (qY 8 (qcB (qA vt (ret (.str " ")) %[dv 4|0])))
  (qt (sif (tst (d2 neB (qs jX %[ue uX %[dv 3|0]|0]) (qs jX %[dv 8|0]))) (qZ (ret (.bl false))) zo)
  (qt (qay (qbn (d2 qP (jg %[dv 8,d2 qP (dv 8) (ret (.str " ")),d2 qP (ret (.str " ")) (dv 8),ret (.str "")|0]) (yL 1 [2,8] (some (1,2)) (u5 %[ret (.int 3)|0]) (qz 0) (ret true) (qo qD 1 %[dv 2|0])))) (qz 9) (sif (tst (d2 neB (qs jX %[qf qv %[dv 9|0]|0]) (qs jX %[qf zH %[dv 9|0]|0]))) (qZ (ret (.bl false))) zo))
  (qt (qY 10 (qo qX 2 (ret [])))
  (sif (tor (ub (vd (tst (qbG "str" (dv 10)))) (tst (d2 neB (qf qv %[dv 10|0]) (ret (.int 0))))) (tst (d2 neB (qf qv %[jg %[dv 8|0]|0]) (ret (.int 0))))) (qZ (ret (.bl false))) zo))))))))))
  (qZ (ret (.bl true)))))
noncomputable def qcL:List D->R D:=dfn 11 1 qkm
local macro_rules | `(tactic| push_cast [$xs,*]) => `(tactic| simp only [j9, qfo, qn0, yV, qdh, qaB, qh6, qmS, qn1, qaX, qaY, qdi, qjy, v8, qbQ, qdj, qfq, qh7, qjz, qh8, qd5, qgW, qbR, qdk, qcs, qaZ, qia, qib, qic, uV, qid, qfr, uq, qfs, qie, qft, qfu, qfv, qif, w8, qfw, lC_, lN_, mC_, List.map_nil, List.replicate, List.nil_append, List.cons_append, List.append_nil, List.getElem?_cons_zero, List.getElem?_cons_succ, List.set_cons_zero, List.set_cons_succ, Nat.reduceAdd, Nat.reduceSub, Nat.sub_self, Nat.zero_add, reduceIte, Bool.not_true, Bool.not_false, Bool.false_eq_true, if_true, if_false, ite_true, ite_false, cond_true, cond_false, decide_true, decide_false, ix0, ix1, ix2, qaf, vw, qcF, qa9, qfX, qba, qfY, qiq, qir, wC, qa4, qdu, qim, qfM, qfz, $xs,*])
theorem qbd (d:D):uQ [d]=.ok (.bl (qkc d)):=by
 unfold uQ vU
 refine qbb rfl ⟨[some d],?_⟩
 push_cast []
 cases d<;>rfl
theorem y0 (d:D):yg [d]=.ok (.bl (jo d)):=by
 unfold yg vV
 refine qbb rfl ⟨[some d],?_⟩
 push_cast []
 rw[qbd]
 cases d<;>rfl
theorem wj (d:D):jR [d]=.ok (.bl (uf d)):=by
 unfold jR qak
 refine qbb rfl ⟨[some d],?_⟩
 cases d with
 | tup ds=>
  by_cases h:ds.length=3
  ·obtain ⟨a,b,c,rfl⟩:=qox h
   refine(qp (Z':=[some (.tup [a,b,c])]) rfl).trans ?_
   by_cases hp:qb6 a=true
   ·refine (qp (Z':=[some (.tup [a,b,c])]) ?_).trans ?_
    ·cases a with
     |int i=>
      have h2:0<i:=of_decide_eq_true hp
      have h0:0<=i:=by omega
      have h1:¬i=0:=by omega
      push_cast [ix0,y0,jo,qa9,v8,h0,h1,decide_true,decide_false]
     |_=>exact absurd hp (by simp[qb6])
    ·push_cast [ix1,ix2,y0,qfX,uf,hp,v8,ybS]
     cases hb:jo b<;>cases hc:jZ c<;>rfl
   ·refine (j6 (d:=.bl false) (Z':=[some (.tup [a,b,c])]) ?_).trans ?_
    ·cases a with
     | int i=>
      have h2:¬0<i:=λz=>hp (decide_eq_true z)
      push_cast [ix0,y0,jo,qa9,v8]
      by_cases h0:0<=i
      ·have h1:i=0:=by omega
       subst h1;rfl
      ·simp only[h0,decide_false]
       rfl
     |_=>rfl
    ·have hp':qb6 a=false:=by simpa using hp
     simp only[uf,hp',yei]
  ·refine (j6 (d:=.bl false) (Z':=[some (.tup ds)]) ?_).trans ?_
   ·push_cast []
    have h3:¬((ds.length:Int)=3):=by omega
    simp only[qaf,vw,qcF,h3,decide_false,v8]
    rfl
   ·rw[qen h]
 |_=>rfl
theorem qbe (d:D):uR [d]=.ok (.bl (vS d)):=by
 unfold uR vW
 refine qbb rfl ⟨[some d],?_⟩
 cases d with
 | tup ds=>
  by_cases h:ds.length<=12
  ·have h2:¬((12:Int)<(ds.length:Int)):=by omega
   refine(qp (Z':=[some (.tup ds)]) ?_).trans ?_
   ·push_cast [qaf,vw,qba,h2,decide_false,v8]
   ·rw[qbR,qkd (F:=jR) (f:=uf) (xs:=qbn (dv 0)) (ds:=ds) (Z:=[some (.tup ds)]) rfl (λd _=>wj d) (by omega)]
    simp only[vS,h,decide_true,ybS]
  ·have h2:((12:Int)<(ds.length:Int)):=by omega
   refine(j6 (d:=.bl false) (Z':=[some (.tup ds)]) ?_).trans ?_
   ·push_cast [qaf,vw,qba,h2,decide_true,v8]
   ·simp only[vS,h,decide_false,yei]
 |_=>rfl
theorem qbf (d:D) (h:vS d=true):yz [d]=.ok .non:=by
 unfold yz
 refine ql4 rfl ⟨[some d],?_⟩
 unfold yy
 push_cast [qbe,h]
theorem jE {n m:Int} (h0:0<m) (h1:m<1606938044258990275541962092341162602522202993782792835301376):qk [.int n] [.int m]=.ok (.int (n%m),[.int (n/m)]):=by
 unfold qk
 refine qaC (Z:=[some (.lst [.int (n/m)]),some (.int m),some (.int (n/m)),some (.int (n%m))]) rfl ?_ rfl
 unfold yY
 refine(qp (Z':=[some (.lst [.int n]),some (.int m),some (.int (n/m)),some (.int (n%m))]) ?_).trans ?_
 ·push_cast [at0,qfZ h0 h1,qaq,zp,qz,qap,ycM]
 ·refine(qp (Z':=[some (.lst [.int (n/m)]),some (.int m),some (.int (n/m)),some (.int (n%m))]) ?_).trans rfl
  push_cast [qoy,imm]
theorem qeo (n:Int) (c:D):∃a b m n',zw [.int n] [c]=.ok (.tup [.int a,.int b,m],[.int n'])/\1<=a/\a<=25/\0<=b/\b<=39/\qke c m:=by
 have s2:∀n k:Int,∃n' a b,(qju 3 4 %[d2 qP (ret (.int 1)) (qo qk 0 %[ret (.int 7)|0]),qo qk 0 %[ret (.int 10)|0]|0]) [some (.lst [.int n]),some c,some (.int k),none,none,none]=.ok (.nx [some (.lst [.int n']),some c,some (.int k),some (.int a),some (.int b),none])/\1<=a/\a<=7/\0<=b/\b<=9:=by
  intro n k
  refine⟨n/7/10,1+n%7,n/7%10,?_,by omega,by omega,by omega,by omega⟩
  push_cast [jE (m:=7) (by decide) (by decide),jE (m:=10) (by decide) (by decide),jM]
 have s3:∀n k a b:Int,1<=a->a<=7->0<=b->b<=9->∃b',(sif (tst (d2 eqB (dv 2) (ret (.int 1)))) (qY 4 (d2 wv (ret (.int 2)) (dv 3))) zo) [some (.lst [.int n]),some c,some (.int k),some (.int a),some (.int b),none]=.ok (.nx [some (.lst [.int n]),some c,some (.int k),some (.int a),some (.int b'),none])/\0<=b'/\b'<=14:=by
  intro n k a b h1 h2 h3 h4
  by_cases hk:k=1
  ·refine⟨2*a,?_,by omega,by omega⟩
   push_cast [hk,qoz]
  ·refine⟨b,?_,by omega,by omega⟩
   push_cast [hk]
 have s4:∀n k a b:Int,1<=a->a<=7->0<=b->b<=14->∃n' b',(sif (tst (d2 eqB (dv 2) (ret (.int 2)))) (qY 4 (d2 qP (dv 3) (qo qk 0 %[ret (.int 3)|0]))) zo) [some (.lst [.int n]),some c,some (.int k),some (.int a),some (.int b),none]=.ok (.nx [some (.lst [.int n']),some c,some (.int k),some (.int a),some (.int b'),none])/\0<=b'/\b'<=14:=by
  intro n k a b h1 h2 h3 h4
  by_cases hk:k=2
  ·refine⟨n/3,a+n%3,?_,by omega,by omega⟩
   push_cast [hk,jM,jE (m:=3) (by decide) (by decide)]
  ·refine⟨n,b,?_,by omega,by omega⟩
   push_cast [hk]
 have s5:∀n k a b:Int,1<=a->a<=7->0<=b->b<=14->∃n' a' b',(sif (tst (d2 eqB (dv 2) (ret (.int 3)))) (qju 3 4 %[d2 qP (ret (.int 1)) (qo qk 0 %[ret (.int 25)|0]),qo qk 0 %[ret (.int 40)|0]|0]) zo) [some (.lst [.int n]),some c,some (.int k),some (.int a),some (.int b),none]=.ok (.nx [some (.lst [.int n']),some c,some (.int k),some (.int a'),some (.int b'),none])/\1<=a'/\a'<=25/\0<=b'/\b'<=39:=by
  intro n k a b h1 h2 h3 h4
  by_cases hk:k=3
  ·refine⟨n/25/40,1+n%25,n/25%40,?_,by omega,by omega,by omega,by omega⟩
   push_cast [hk,jM,jE (m:=25) (by decide) (by decide),jE (m:=40) (by decide) (by decide)]
  ·refine⟨n,a,b,?_,by omega,by omega,by omega,by omega⟩
   push_cast [hk]
 have s6:∀n k a b:Int,∃n' m,(qY 5 (d2 ixD (jg %[ret (.int 1),ret (.int 1),ret (.int 1),ret (.int 2),ret (.int 3),ret (.int 0),ret (.int 5),dv 1|0]) (qo qk 0 %[ret (.int 8)|0]))) [some (.lst [.int n]),some c,some (.int k),some (.int a),some (.int b),none]=.ok (.nx [some (.lst [.int n']),some c,some (.int k),some (.int a),some (.int b),some m])/\qke c m:=by
  intro n k a b
  obtain⟨m,hm,e⟩:=qdB (ds:=[.int 1,.int 1,.int 1,.int 2,.int 3,.int 0,.int 5,c]) (k:=n%8) (by omega) (by simp;omega)
  refine⟨n/8,m,?_,?_⟩
  ·push_cast [jE (m:=8) (by decide) (by decide),zM (show 8<=1000000 by omega),e]
  ·simp only[yar,nN_,or_false]at hm
   rcases hm with h|h|h|h|h|h|h|h
   ·exact .inr ⟨_,h,by omega,by omega⟩
   ·exact .inr ⟨_,h,by omega,by omega⟩
   ·exact .inr ⟨_,h,by omega,by omega⟩
   ·exact .inr ⟨_,h,by omega,by omega⟩
   ·exact .inr ⟨_,h,by omega,by omega⟩
   ·exact .inr ⟨_,h,by omega,by omega⟩
   ·exact .inr ⟨_,h,by omega,by omega⟩
   ·exact .inl h
 obtain⟨n2,a2,b2,e2,p2,q2,r2,t2⟩:=s2 (n/6) (n%6)
 obtain⟨b3,e3,r3,t3⟩:=s3 n2 (n%6) a2 b2 p2 q2 r2 t2
 obtain⟨n4,b4,e4,r4,t4⟩:=s4 n2 (n%6) a2 b3 p2 q2 r3 t3
 obtain⟨n5,a5,b5,e5,p5,q5,r5,t5⟩:=s5 n4 (n%6) a2 b4 p2 q2 r4 t4
 obtain⟨n6,m,e6,g6⟩:=s6 n5 (n%6) a5 b5
 refine⟨a5,b5,m,n6,?_,p5,q5,r5,t5,g6⟩
 unfold zw
 refine qaC (Z:=[some (.lst [.int n6]),some c,some (.int (n%6)),some (.int a5),some (.int b5),some m]) rfl ?_ rfl
 unfold jN
 refine(qp (Z':=[some (.lst [.int (n/6)]),some c,some (.int (n%6)),none,none,none]) ?_).trans ?_
 ·push_cast [jE (m:=6) (by decide) (by decide)]
 refine(qp e2).trans ?_
 refine(qp e3).trans ?_
 refine(qp e4).trans ?_
 refine(qp e5).trans ?_
 refine(qp e6).trans ?_
 push_cast [zM (show 3<=1000000 by omega)]
theorem qep (n:Int) (ks:List D) (o4 o5:OD) (h:∀k∈ks,zF k) (hl:ks.length<=12):∃n' k',zF k'/\(qt (qY 5 (qo zw 0 %[dv 2|0])) (qt (sif (ub (tst (qh3 3 (jg (ret [])))) (tst (d2 eqB (qo qk 0 %[ret (.int 7)|0]) (ret (.int 6))))) (qY 5 (qbK 3 (qo qk 0 %[qbJ 3|0]))) zo) (zt (qB 3 (dv 5))))) [some (.lst [.int n]),some (.int 12),some .non,some (.lst ks),o4,o5]=.ok (.nx [some (.lst [.int n']),some (.int 12),some .non,some (.lst (ks++[k'])),o4,some k']):=by
 obtain⟨a,b,m,n1,e1,p1,p2,p3,p4,p5⟩:=qeo n .non
 have gk:zF (.tup [.int a,.int b,m]):=⟨a,b,m,rfl,p1,p2,p3,p4,p5⟩
 obtain⟨b0,eb,hb⟩:=qcG h
 have s1:(qY 5 (qo zw 0 %[dv 2|0])) [some (.lst [.int n]),some (.int 12),some .non,some (.lst ks),o4,o5]=.ok (.nx [some (.lst [.int n1]),some (.int 12),some .non,some (.lst ks),o4,some (.tup [.int a,.int b,m])]):=by
  push_cast [e1]
 have s2:∃n' k',zF k'/\(sif (ub (tst (qh3 3 (jg (ret [])))) (tst (d2 eqB (qo qk 0 %[ret (.int 7)|0]) (ret (.int 6))))) (qY 5 (qbK 3 (qo qk 0 %[qbJ 3|0]))) zo) [some (.lst [.int n1]),some (.int 12),some .non,some (.lst ks),o4,some (.tup [.int a,.int b,m])]=.ok (.nx [some (.lst [.int n']),some (.int 12),some .non,some (.lst ks),o4,some k']):=by
  cases b0 with
  |false=>
   refine⟨n1,_,gk,?_⟩
   push_cast [eb,zM (show 0<=1000000 by omega)]
  | true=>
   have hne:=hb rfl
   have hpos:0<ks.length:=List.length_pos_iff.mpr hne
   by_cases h6:n1%7=6
   ·obtain⟨k',hk',e⟩:=qmm (ds:=ks) (k:=n1/7%(ks.length:Int)) (Int.emod_nonneg _ (by omega)) (yfa _ (by omega))
    refine⟨n1/7/(ks.length:Int),k',h k' hk',?_⟩
    push_cast [eb,zM (show 0<=1000000 by omega),jE (m:=7) (by decide) (by decide),h6,jE (m:=(ks.length:Int)) (by omega) (by omega),e]
   ·refine⟨n1/7,_,gk,?_⟩
    push_cast [eb,zM (show 0<=1000000 by omega),jE (m:=7) (by decide) (by decide),h6]
 obtain⟨n2,k',gk',e2⟩:=s2
 refine⟨n2,k',gk',?_⟩
 refine(qp s1).trans ((qp e2).trans ?_)
 push_cast [gk'.imm,zM (show ks.length+1<=1000000 by omega),yaY]
theorem qaJ:∀(ds:List D)(n:Int)(ks:List D)(o4 o5:OD),(∀k∈ks,zF k)->ks.length+ds.length<=12 ->
  ∃n' ks' o4' o5',zL (qz 4) (qt (qY 5 (qo zw 0 %[dv 2|0])) (qt (sif (ub (tst (qh3 3 (jg (ret [])))) (tst (d2 eqB (qo qk 0 %[ret (.int 7)|0]) (ret (.int 6))))) (qY 5 (qbK 3 (qo qk 0 %[qbJ 3|0]))) zo) (zt (qB 3 (dv 5))))) ds [some (.lst [.int n]),some (.int 12),some .non,some (.lst ks),o4,o5]=.ok (.nx [some (.lst [.int n']),some (.int 12),some .non,some (.lst ks'),o4',o5'])/\(∀k∈ks',zF k)/\ks'.length<=12
 | [],n,ks,o4,o5,h,hl=>⟨n,ks,o4,o5,rfl,h,by simpa using hl⟩
 | d::ds,n,ks,o4,o5,h,hl=>by
  have hl':ks.length+(ds.length+1)<=12:=hl
  obtain⟨n1,k',gk,e⟩:=qep n ks (some d) o5 h (by omega)
  obtain ⟨n',ks',o4',o5',q,g,l⟩:=qaJ ds n1 (ks++[k']) (some d) (some k') (λx hx=>(mA_.mp hx).elim (h x) λhx=>by
   rw[ms_]at hx;subst hx;exact gk) (by rw[lA_,yaC];omega)
  refine⟨n',ks',o4',o5',?_,g,l⟩
  unfold zL
  simp only[qz,ybA,ydl,e]
  exact q
theorem qeq (n:Int):∃ks n',zx [.int n] [.int 12,.non]=.ok (.tup ks,[.int n'])/\(∀k∈ks,zF k)/\ks.length<=12:=by
 obtain⟨n',ks',o4',o5',q,g,l⟩:=qaJ (qcf 0 (n%13).toNat) (n/13) [] none none (λ_ h=>by cases h) (by rw[qhu];simp;omega)
 refine⟨ks',n',?_,g,l⟩
 unfold zx
 refine qaC (Z:=[some (.lst [.int n']),some (.int 12),some .non,some (.lst ks'),o4',o5']) rfl ?_ rfl
 unfold jO
 refine(qp (Z':=[some (.lst [.int n]),some (.int 12),some .non,some (.lst []),none,none]) ?_).trans ?_
 ·push_cast [immL,zM (show 0<=1000000 by omega),yaY]
 refine(qp (Z':=[some (.lst [.int n']),some (.int 12),some .non,some (.lst ks'),o4',o5']) ?_).trans ?_
 ·rw[uV,wD (j:=n%13) (Z1:=[some (.lst [.int (n/13)]),some (.int 12),some .non,some (.lst []),none,none]) ?_ (by omega) (by omega)]
  ·exact q
  ·push_cast [jM,jE (m:=13) (by decide) (by decide),Int.reduceAdd]
 ·push_cast []
theorem qkn (ns:List Int) (i:Int) (h0:0<=i):∃x,jD [.fz ns,.int i]=.ok (.int x):=by
 by_cases h:i<ns.length
 ·obtain ⟨j,rfl⟩:=ydW h0
  have hj:j<ns.length:=by omega
  have e:ixD (.fz ns) (.int (j:Int))=some (.int ns[j]):=by
   show(atI ns (j:Int)).map D.int=_
   unfold atI ixN
   rw[if_pos (by omega),if_pos (by omega)]
   show(ns[(j:Int).toNat]?).map D.int=_
   rw[ybo,gG hj];rfl
  refine⟨ns[j],?_⟩
  unfold jD yZ
  refine qbb rfl ⟨[some (.fz ns),some (.int (j:Int))],?_⟩
  refine(j6 (d:=.int ns[j]) (Z':=[some (.fz ns),some (.int (j:Int))]) ?_)
  push_cast [e,jW,h]
 ·refine⟨0,?_⟩
  unfold jD yZ
  refine qbb rfl ⟨[some (.fz ns),some (.int i)],?_⟩
  refine(qp (Z':=[some (.fz ns),some (.int i)]) ?_).trans rfl
  push_cast [jW,h]
theorem qmo (x j:Int) (h0:0<=j) (h1:j<40):∃v,yh [.int x,.int j]=.ok (.int v):=by
 obtain⟨m,hm,e⟩:=qdB (ds:=[.int 48271,.int 69621,.int 16807,.int 39373,.int 30269,.int 40014,.int 40692,.int 50021,.int 61687,.int 71993,.int 83869,.int 95561,.int 30307]) (k:=j%13) (by omega) (by simp;omega)
 have hm2:∃c,m=.int c/\yk c=true:=by
  have:m∈facts.map D.int:=hm
  obtain⟨c,hc,rfl⟩:=mP_.mp this
  exact⟨c,rfl,List.all_eq_true.mp (show facts.all yk=true by decide) c hc⟩
 obtain⟨c,rfl,hc⟩:=hm2
 have f3:∀s:Int,yk (s%1000000007)=true:=λs=>qkg (by omega) (by omega)
 have f977:yk 977=true:=by decide
 have f79:yk 7919=true:=by decide
 have f48:yk 48271=true:=by decide
 let L:D:=.lst [.int 48271,.int 69621,.int 16807,.int 39373,.int 30269,.int 40014,.int 40692,.int 50021,.int 61687,.int 71993,.int 83869,.int 95561,.int 30307]
 let s1:Int:=(x%2147483647+12345)*c+977*j+7919*(j/13)
 let s2:Int:=s1%1000000007
 refine⟨(s2*s2+48271*j)%1000000007/7,?_⟩
 unfold yh vX
 refine qbb rfl ⟨[some (.int x),some (.int j),some L,some (.int s2)],?_⟩
 refine(qp (Z':=[some (.int x),some (.int j),some L,none]) ?_).trans ?_
 ·push_cast [zM (show 13<=1000000 by omega)]
  rfl
 refine(qp (Z':=[some (.int x),some (.int j),some L,some (.int s1)]) ?_).trans ?_
 ·push_cast [L,uN (j:=2147483647) (by decide),uN (j:=13) (by decide),jM,e,qkf hc,qhv f977,qhv f79,qag (j:=13) (by decide) (by decide)]
  rfl
 refine(qp (Z':=[some (.int x),some (.int j),some L,some (.int s2)]) ?_).trans ?_
 ·push_cast [uN (j:=1000000007) (by decide),s2]
 ·push_cast [uN (j:=1000000007) (by decide),s2,jM,qhv (f3 _),qhv f48,qag (j:=7) (by decide) (by decide)]
theorem qdF (A B:OD) (x:Int):∀(ds:List D)(s:Int)(o:OD),(∀d∈ds,∃j:Int,d=.int j/\0<=j/\j<40)->∃s' o',zL (qz 4) (qY 3 (d2 qP (d2 wv (dv 3) (ret (.int 142857143))) (qf yh %[dv 2,dv 4|0]))) ds [A,B,some (.int x),some (.int s),o]=.ok (.nx [A,B,some (.int x),some (.int s'),o'])
 | [],s,o,_=>⟨s,o,rfl⟩
 | d::ds,s,o,h=>by
  obtain⟨j,rfl,h0,h1⟩:=h d mS_
  obtain⟨v,e⟩:=qmo x j h0 h1
  obtain⟨s',o',q⟩:=qdF A B x ds (s*142857143+v) (some (.int j)) λy hy=>h y (mM _ hy)
  refine⟨s',o',?_⟩
  have st:(qY 3 (d2 qP (d2 wv (dv 3) (ret (.int 142857143))) (qf yh %[dv 2,dv 4|0]))) [A,B,some (.int x),some (.int s),some (.int j)]=.ok (.nx [A,B,some (.int x),some (.int (s*142857143+v)),some (.int j)]):=by
   push_cast [e,qkf (j:=142857143) (by decide),jM]
  unfold zL
  simp only[qz,ybA,ydl,st]
  exact q
theorem qmp (ns:List Int) (i:Int) (h0:0<=i):∃n,jd [.fz ns,.int i]=.ok (.lst [.int n]):=by
 obtain⟨x,e⟩:=qkn ns i h0
 have s1:(qY 2 (qf jD %[dv 0,dv 1|0])) [some (.fz ns),some (.int i),none,none,none]=.ok (.nx [some (.fz ns),some (.int i),some (.int x),none,none]):=by
  push_cast [e]
 by_cases hx:x%2=0
 ·refine⟨(if x<0 then -x else x)/2,?_⟩
  unfold jd uS
  refine qbb rfl ⟨[some (.fz ns),some (.int i),some (.int x),none,none],?_⟩
  refine(qp s1).trans (j6 ?_)
  push_cast [uN (j:=2) (by decide),hx,qmP,qag (j:=2) (by decide) (by decide),zM (show 1<=1000000 by omega)]
 ·obtain ⟨s',o',q⟩:=qdF (some (.fz ns)) (some (.int i)) x (qcf 0 40) 0 none λd hd=>by
   unfold qcf at hd
   obtain⟨k,hk,rfl⟩:=mP_.mp hd
   have hk':=List.mem_range.mp hk
   exact⟨_,rfl,by omega,by omega⟩
  refine⟨s',?_⟩
  unfold jd uS
  refine qbb rfl ⟨[some (.fz ns),some (.int i),some (.int x),some (.int s'),o'],?_⟩
  refine(qp s1).trans ?_
  refine(qp (Z':=[some (.fz ns),some (.int i),some (.int x),none,none]) ?_).trans ?_
  ·push_cast [uN (j:=2) (by decide),hx]
  refine(qp (Z':=[some (.fz ns),some (.int i),some (.int x),some (.int 0),none]) ?_).trans ?_
  ·push_cast []
  refine(qp (Z':=[some (.fz ns),some (.int i),some (.int x),some (.int s'),o']) ?_).trans ?_
  ·rw[uV,wD (j:=40) (Z1:=[some (.fz ns),some (.int i),some (.int x),some (.int 0),none]) rfl (by omega) (by omega)]
   exact q
  ·push_cast [zM (show 1<=1000000 by omega)]
theorem qmq (n:Int):∃d n',qX [.int n] []=.ok (d,[.int n'])/\qn4 130 5 d/\dl d=true:=by
 obtain⟨d,hd,e⟩:=qdB (ds:=qcH++qcI) (k:=n%22) (by omega) (by show n%22<22;omega)
 have hn:=List.all_eq_true.mp qf0 d hd
 rw[yad]at hn
 refine⟨d,n/22,?_,qki hn.1,hn.2⟩
 unfold qX
 refine qaC (Z:=[some (.lst [.int (n/22)]),some (.lst (qcH++qcI))]) rfl ?_ rfl
 unfold z9
 refine(qp (Z':=[some (.lst [.int n]),some (.lst qcH)]) ?_).trans ?_
 ·push_cast [neg_int,qkj,zM (show 1<=1000000 by omega),zM (show 2<=1000000 by omega),zM (show 14<=1000000 by omega),qcH]
 refine(qp (Z':=[some (.lst [.int n]),some (.lst (qcH++qcI))]) ?_).trans ?_
 ·have e2:=qhw (xs:=qcH) (ys:=qcI) (by decide)
  simp only[qcI]at e2
  push_cast [neg_int,zM (show 1<=1000000 by omega),zM (show 3<=1000000 by omega),zM (show 8<=1000000 by omega),e2,qcI]
 ·push_cast [jE (m:=22) (by decide) (by decide),e]
theorem vz{t u:M Bool}{Z:Env}{b:Bool}(h1:t Z=.ok (false,Z))(h2:u Z=.ok (b,Z)):tor t u Z=.ok (b,Z):=by rw[qfq,h1];exact h2
theorem qko:("0123456789":Str).cps.toList=[48,49,50,51,52,53,54,55,56,57]:=by kernel_rfl
theorem qf5 (c:Nat):qkK ⟨#[c]⟩ ("0123456789":Str)=decide (48<=c/\c<=57):=by
 unfold qkK
 rw[StrLaws.found_one,qko]
 refine decide_eq_decide.mpr ?_
 simp only[yar,nN_,or_false]
 omega
def qf6(x:Str):Bool:=x.cps.toList.all λc=>decide (48<=c/\c<=57)
def qcM(x:Str):Bool:=x==("0":Str) || !(x.cps.toList.head? == some 48)
def isF(x:Str):Bool := !(x==("":Str))&&(qf6 x&&qcM x)
theorem qkp {α:Type} (f:α->Bool) (as:List α):qgq [.lst (as.map λa=>D.bl (f a))]=some (.bl (as.all f)):=by
 have:as.map (λa=>D.bl (f a))=(as.map f).map D.bl:=by rw[List.map_map];rfl
 simp only[qgq,this,qdA,yd2]
 rw[List.all_map]
 rfl
theorem qnA {α:Type}:∀l:List α,atI l 0=l.head?
 | []=>rfl
 |a::l=>by simp[L2.atI,L2.ixN]
theorem qiz {x:Str} (hl:x.length<=1000000) {c:Nat} (h:x.cps.toList.head? = some c):ixB (.str x) (.int 0)=some (.str ⟨#[c]⟩):=by
 show(if qT x.length then(atI x.cps.toList 0).map (λc=>D.str ⟨#[c]⟩)else none)=_
 rw[zM hl,if_pos rfl,qnA,h]
 rfl
theorem qkq {x:Str} (h:(x==("":Str))=false):∃c,x.cps.toList.head? = some c:=by
 cases e:x.cps.toList with
 |nil=>exact absurd (beq_iff_eq.mpr (vT (x:=x) (y:="") (by rw[e];rfl))) (by rw[h];decide)
 |cons c r=>exact⟨c,rfl⟩
theorem qiA (c:Nat):((⟨#[c]⟩:Str)==("0":Str))=(c==48):=by
 rw[show("0":Str)=⟨#[48]⟩ by kernel_rfl]
 by_cases e:c=48
 ·subst e;rfl
 ·rw[beq_eq_false_iff_ne.mpr e,beq_eq_false_iff_ne]
  intro z
  exact e (by have:=congrArg (λs:Str=>s.cps.toList) z;simpa using this)
theorem qf7 {x:Str} {f:M D} {Z:Env} (h:f Z=.ok (.str x,Z)):qgt f Z=.ok (x.cps.toList.map sgn,Z):=by
 unfold qgt bnd
 rw[h]
 rfl
theorem qkr {x:Str} (hl:x.length<=1000000) {Z:Env} (h:dv 0 Z=.ok (.str x,Z)):yL 1 [] none (qgt (dv 0)) (qz 0) (ret true) (d2 inS (dv 0) (ret (.str "0123456789"))) Z=.ok (.lst (x.cps.toList.map λc=>D.bl (decide (48<=c/\c<=57))),Z):=by
 refine qiu (k:=sgn) (r:=[]) x.cps.toList (λc=>D.bl (decide (48<=c/\c<=57))) (qf7 h) rfl (by rw[yaI];exact hl) λc _=>?_
 refine qr (a:=sgn c) rfl rfl ?_
 show some (D.bl (qkK ⟨#[c]⟩ ("0123456789":Str)))=_
 rw[qf5]
theorem qbg {x:Str} (hl:x.length<=1000000):qI [.str x]=.ok (.bl (isF x)):=by
 let Z:Env:=[some (.str x)]
 unfold qI
 refine qbb rfl ⟨Z,?_⟩
 unfold ux
 unfold isF
 have e1:(tst (d2 eqB (dv 0) (ret (.str ""))):M Bool) Z=.ok (x==("":Str),Z):=ze (qr (a:=.str x) rfl rfl rfl)
 have e2:(tst (qs qgq %[yL 1 [] none (qgt (dv 0)) (qz 0) (ret true) (d2 inS (dv 0) (ret (.str "0123456789")))|0]):M Bool) Z=.ok (qf6 x,Z):=ze (j7 (qkr hl rfl) (qkp _ _))
 cases h1:x==("":Str) with
 |true=>
  rw[h1]at e1
  exact(j6 (qev (qgv e1)))
 | false=>
  rw[h1]at e1
  cases h2:qf6 x with
  |false=>
   rw[h2]at e2
   refine j6 ((qev (vz e1 ?_)).trans rfl)
   rw[qbQ,e2];rfl
  |true=>
   rw[h2]at e2
   refine(qp (Z':=Z) (qcK (qhx e1 (by rw[qbQ,e2];rfl)))).trans ?_
   obtain⟨c,hc⟩:=qkq h1
   refine v9 ?_
   rw[qjz,show d2 eqB (dv 0) (ret (.str "0")) Z=.ok (.bl (x==("0":Str)),Z)from qr (a:=.str x) rfl rfl rfl]
   show(bif (x==("0":Str))then R.ok (.bl true,Z)else d2 neB (d2 ixB (dv 0) (ret (.int 0))) (ret (.str "0")) Z)=_
   rw[show d2 neB (d2 ixB (dv 0) (ret (.int 0))) (ret (.str "0")) Z=.ok (.bl (!((⟨#[c]⟩:Str)==("0":Str))),Z)from qr (qr (a:=.str x) rfl rfl (qiz hl hc)) rfl rfl,qiA]
   unfold qcM
   rw[hc]
   cases x==("0":Str)<;>rfl
def nF(x:Str):Nat:=ya8 x.cps.toList
theorem qoC {c:Nat} (h:48<=c/\c<=57):qcE [sgn c]=some (.int ((c-48:Nat):Int)):=by
 have e:ybL ⟨#[c]⟩=some ((ya8 [c]:Nat):Int):=yeE (x:=⟨#[c]⟩) (λd hd=>by rw[ms_.mp hd];exact h) (by simp) (by show 1<=4300;decide)
 show(if decide ((⟨#[c]⟩:Str).length<=640) then(ybL ⟨#[c]⟩).map D.int else none)=_
 rw[e]
 show some (D.int ((ya8 [c]:Nat):Int))=_
 rw[show ya8 [c]=c-48 by simp[ya8]]
theorem qf8 {x:Str} (h:qf6 x=true):zG [.str x]=.ok (.int ((nF x:Nat):Int)):=by
 unfold zG
 have hd:∀c∈x.cps.toList,48<=c/\c<=57:=λc hc=>of_decide_eq_true (List.all_eq_true.mp h c hc)
 obtain ⟨Z',q1,q2⟩:=qb9 (G:=qz 2) (b:=(qY 1 (d2 qP (d2 wv (dv 1) (ret (.int 10))) (qs qcE %[dv 2|0])))) (k:=sgn) (step:=λ(s:Nat) (c:Nat)=>s*10+(c-48)) (Inv:=λ_ s Z=>∃o,Z=[some (.str x),some (.int ((s:Nat):Int)),o]) x.cps.toList 0 0 [some (.str x),some (.int 0),none] ⟨none,rfl⟩
  (λc hc m s Z _ _ ⟨o,e⟩=>by
   subst e
   refine⟨[some (.str x),some (.int ((s:Nat):Int)),some (sgn c)],[some (.str x),some (.int ((s*10+(c-48):Nat):Int)),some (sgn c)],rfl,?_,some (sgn c),rfl⟩
   refine jp (qr (qr rfl rfl (qkf (i:=((s:Nat):Int)) (j:=10) (by decide))) (j7 rfl (qoC (hd c hc))) ?_)
   show some (D.int _)=some (D.int _)
   push_cast
   rfl)
 refine qbb rfl ⟨Z',?_⟩
 obtain⟨o,e⟩:=q2
 unfold u8
 refine(qp (Z':=[some (.str x),some (.int 0),none]) rfl).trans ?_
 refine(qp (Z':=Z') ?_).trans ?_
 ·rw[uV,qf7 (x:=x) (f:=dv 0) rfl]
  exact q1
 ·subst e
  rfl
theorem qhC {x:Str} (hl:x.length<=1000000) {Z:Env} (h:dv 0 Z=.ok (.str x,Z)):yL 1 [] none (qgt (dv 0)) (qz 0) (tst (d2 qmf (dv 0) (ret (.str "0123456789")))) (dv 0) Z=.ok (.lst ((x.cps.toList.filter λc => !decide (48<=c/\c<=57)).map sgn),Z):=by
 refine qit (k:=sgn) (r:=[]) x.cps.toList (λc => !decide (48<=c/\c<=57)) sgn (qf7 h) rfl (by rw[yaI];exact hl) (λc _=>?_) λc _ _=>rfl
 refine ze (qr (a:=sgn c) rfl rfl ?_)
 show some (D.bl (!qkK ⟨#[c]⟩ ("0123456789":Str)))=_
 rw[qf5]
def nI(x:Str):D:=if isF x then .int ((nF x:Nat):Int)else .non
theorem qmr {x:Str} (h:qf6 x=true) (h0:(x==("":Str))=false) (hl:x.length<=640):qcE [.str x]=some (.int ((nF x:Nat):Int)):=by
 have hd:∀c∈x.cps.toList,48<=c/\c<=57:=λc hc=>of_decide_eq_true (List.all_eq_true.mp h c hc)
 have e:ybL x=some ((ya8 x.cps.toList:Nat):Int):=yeE hd (λz=>by obtain⟨c,hc⟩:=qkq h0;rw[z]at hc;cases hc) (by omega)
 show(if decide (x.length<=640) then(ybL x).map D.int else none)=_
 rw[decide_eq_true hl,if_pos rfl,e]
 rfl
theorem qdG (x:Str):((x.cps.toList.filter λc => !decide (48<=c/\c<=57))=[]) ↔ qf6 x=true:=by
 unfold qf6
 rw[List.filter_eq_nil_iff,List.all_eq_true]
 simp
theorem qhD {ds:List D} (h:∀d∈ds,(zI d).canLay0=true/\(zI d).depth<=1):wA (.lst ds)=true:=by
 have g:∀ds:List D,(∀d∈ds,(zI d).canLay0=true/\(zI d).depth<=1)->ya3 (toPDs ds)=true/\ybl (toPDs ds)<=1:=λds=>by
  induction ds with
  |nil=>intro _;exact⟨rfl,yaN _⟩
  |cons d ds ih=>
   intro h
   obtain⟨i1,i2⟩:=ih λx hx=>h x (mM _ hx)
   obtain⟨j1,j2⟩:=h d mS_
   simp only[toPDs,ya3,ybl,i1,j1,yaY,true_and]
   omega
 obtain⟨g1,g2⟩:=g ds h
 have e:wA (.lst ds)=(ya3 (toPDs ds)&&decide (ybl (toPDs ds)+1<=50)):=by simp only[wA,zI,ybs,ye7]
 rw[e,g1,decide_eq_true (by omega)]
 rfl
theorem qks {ds:List D} (h:∀d∈ds,(zI d).canLay0=true/\(zI d).depth<=1):eqB (.lst ds) (.lst [])=some (.bl ds.isEmpty)/\neB (.lst ds) (.lst [])=some (.bl (!ds.isEmpty)):=by
 have o:=qhD h
 have e1:eqB (.lst ds) (.lst [])=eqA (.lst ds) (.lst []):=rfl
 have e2:neB (.lst ds) (.lst [])=neA (.lst ds) (.lst []):=rfl
 have o2:wA (.lst [])=true:=rfl
 have v:yb0 (zI (.lst ds)) (zI (.lst []))=ds.isEmpty:=by cases ds<;>rfl
 rw[e1,e2]
 unfold eqA neA
 rw[o,o2,v]
 exact⟨rfl,rfl⟩
def asc(x:Str):Prop:=∀c∈x.cps.toList,c<128
theorem qms:∀c:Nat,c<128->(zI (.str ⟨#[c]⟩)).canLay0=true:=by decide +kernel
theorem qmt (l:List Nat) (h:∀c∈l,c<128):neB (.lst (l.map sgn)) (.lst [])=some (.bl (!l.isEmpty)):=by
 rw[(qks λd hd=>?_).2]
 ·cases l<;>rfl
 ·obtain⟨c,hc,rfl⟩:=mP_.mp hd
  exact⟨qms c (h c hc),yaN _⟩
theorem qbh {x:Str} (hx:asc x) (hl:x.length<=640):qc [.str x]=.ok (nI x):=by
 let Z:Env:=[some (.str x)]
 have hl':x.length<=1000000:=by omega
 unfold qc
 refine qbb rfl ⟨Z,?_⟩
 unfold jY nI isF
 have e1:(tst (d2 eqB (dv 0) (ret (.str ""))):M Bool) Z=.ok (x==("":Str),Z):=ze (qr (a:=.str x) rfl rfl rfl)
 have e2:(tst (d2 neB (yL 1 [] none (qgt (dv 0)) (qz 0) (tst (d2 qmf (dv 0) (ret (.str "0123456789")))) (dv 0)) (jg (ret []))):M Bool) Z=.ok (!(x.cps.toList.filter λc => !decide (48<=c/\c<=57)).isEmpty,Z):=ze (qr (qhC hl' rfl) rfl (qmt _ λc hc=>hx c (List.mem_filter.mp hc).1))
 cases h1:x==("":Str) with
 |true=>
  rw[h1]at e1
  exact j6 (qev (qgv e1))
 | false=>
  rw[h1]at e1
  have ea:(!(x.cps.toList.filter λc => !decide (48<=c/\c<=57)).isEmpty) = !qf6 x:=by
   cases h:qf6 x with
   |true=>rw[(qdG x).mpr h];rfl
   |false=>
    cases q:x.cps.toList.filter λc => !decide (48<=c/\c<=57) with
    |nil=>rw[(qdG x).mp q]at h;cases h
    |cons _ _=>rfl
  rw[ea]at e2
  cases h2:qf6 x with
  |false=>
   rw[h2]at e2
   exact j6 (qev (vz e1 (qgv e2)))
  | true=>
   rw[h2]at e2
   obtain⟨c,hc⟩:=qkq h1
   have e3:(tst (d2 eqB (d2 ixB (dv 0) (ret (.int 0))) (ret (.str "0"))):M Bool) Z=.ok (c==48,Z):=by
    rw[<-qiA]
    exact ze (qr (qr (a:=.str x) rfl rfl (qiz hl' hc)) rfl rfl)
   have e4:(tst (d2 neB (dv 0) (ret (.str "0"))):M Bool) Z=.ok (!(x==("0":Str)),Z):=ze (qr (a:=.str x) rfl rfl rfl)
   have ez:qcM x = !((c==48) && !(x==("0":Str))):=by
    unfold qcM
    rw[hc]
    show(x==("0":Str) || !(some c==some 48))=_
    rw[show(some c==some 48)=(c==48)from rfl]
    cases x==("0":Str)<;>cases c==48<;>rfl
   have e34:ub (tst (d2 eqB (d2 ixB (dv 0) (ret (.int 0))) (ret (.str "0")))) (tst (d2 neB (dv 0) (ret (.str "0")))) Z=.ok (!qcM x,Z):=by
    rw[ez,Bool.not_not]
    cases h48:c==48 with
    |false=>rw[h48]at e3;exact qhy e3
    |true=>rw[h48]at e3;exact qhz e3 e4
   cases h3:qcM x with
   |false=>
    rw[h3]at e34
    exact j6 (qev (vz e1 (vz e2 e34)))
   |true=>
    rw[h3]at e34
    refine(qp (Z':=Z) (qcK (qhx e1 (qhx e2 e34)))).trans ?_
    exact v9 (j7 rfl (qmr h2 h1 hl))
theorem va {x:Str} (h:isF x=true):(x==("":Str))=false/\qf6 x=true/\qcM x=true:=by
 unfold isF at h
 simp only[yad,yaT]at h
 exact⟨h.1,h.2.1,h.2.2⟩
theorem qf9 {x:Str} (h:isF x=true) {c:Nat} (hc:c<48):c ∉ x.cps.toList:=λz=>by
 have:=of_decide_eq_true (List.all_eq_true.mp (va h).2.1 c z)
 omega
theorem qmu:("/":Str)=⟨#[47]⟩:=by kernel_rfl
theorem qmv:("*":Str)=⟨#[42]⟩:=by kernel_rfl
theorem qdH {x y:Str} (hy:(y.length==0)=false) (hl:x.length<=1000000):qcD (.str x) [.str y]=some (.tup ((ya x y).map D.str)):=by
 show(if !(y.length==0)&&qT x.length then some (D.tup ((ya x y).map D.str))else none)=_
 rw[hy,zM hl]
 rfl
theorem z7 {F:D->List D->OD} {f:M D} {g:M (List D)} {Z:Env} {z:Str} {ys:List D} {d:D} (hf:f Z=.ok (.str z,Z)) (hg:g Z=.ok (ys,Z)) (e:F (.str z) ys=some d):qA F f g Z=.ok (d,Z):=by
 unfold qA bnd
 rw[hf]
 simp only[bnd,hg,e]
 rfl
def moF(c:Str):Option Int:=if c==("":Str)then none else some ((nF c:Nat):Int)
def knF(a b c:Str):D:=if nF a=0 then .non else kD (((nF a:Nat):Int),((nF b:Nat):Int),moF c)
theorem qkt{t:M Bool}{Z:Env}{b:Bool}(h:t Z=.ok (b,Z)):vd t Z=.ok (!b,Z):=by rw[qbQ,h]
theorem qmw (a b c:Str):uf (kD (((nF a:Nat):Int),((nF b:Nat):Int),moF c))=decide (nF a≠0):=by
 unfold moF
 by_cases h:nF a=0
 ·rw[h]
  cases c==("":Str)<;>rfl
 ·have h1:(1:Int)<=((nF a:Nat):Int):=by omega
  rw[decide_eq_true h]
  refine qf3 ⟨by show(0:Int)<((nF a:Nat):Int);omega,by show(0:Int)<=((nF b:Nat):Int);omega,λj e=>?_⟩
  have e':(if c==("":Str)then none else some ((nF c:Nat):Int))=some j:=e
  split at e'
  ·cases e'
  ·cases e';omega
theorem qga {w f0 f1 f2 b0 b1 b2:Str} (hl:w.length<=640) (hl2:f2.length<=640) (hl0:f0.length<=640) (hb0:b0.length<=640) (hb2:b2.length<=640) (hp:ya w ("/":Str)=[f0,f1,f2]) (hb:ya f2 ("*":Str)=[b0,b1,b2]) :
  qR [.str w]=.ok (if(!(b1==("":Str))&&(isF f0&&isF b0))&&(b2==("":Str)||isF b2)then knF f0 b0 b2 else .non):=by
 let W:OD:=some (.str w)
 let Fr:OD:=some (.tup [.str f0,.str f1,.str f2])
 let Bk:OD:=some (.tup [.str b0,.str b1,.str b2])
 have es:(("/":Str).length==0)=false:=by rw[qmu];rfl
 have et:(("*":Str).length==0)=false:=by rw[qmv];rfl
 unfold qR
 have p1:qA qcD (dv 0) %[ret (.str "/")|0] [W,none,none,none,none]=.ok (.tup [.str f0,.str f1,.str f2],[W,none,none,none,none]):=z7 rfl (yO rfl) (by rw[qdH es (by omega),hp];rfl)
 have p2:qA qcD (d2 ixB (dv 1) (ret (.int 2))) %[ret (.str "*")|0] [W,Fr,none,none,none]=.ok (.tup [.str b0,.str b1,.str b2],[W,Fr,none,none,none]):=z7 (qr (a:=.tup [.str f0,.str f1,.str f2]) rfl rfl rfl) (yO rfl) (by rw[qdH et (by omega),hb];rfl)
 let Z:Env:=[W,Fr,Bk,none,none]
 have c1:(tst (d2 eqB (d2 ixB (dv 2) (ret (.int 1))) (ret (.str ""))):M Bool) Z=.ok (b1==("":Str),Z):=ze (qr (qr (a:=.tup [.str b0,.str b1,.str b2]) rfl rfl rfl) rfl rfl)
 have c2:vd (tst (qf qI %[d2 ixB (dv 1) (ret (.int 0))|0])) Z=.ok (!isF f0,Z):=qkt (ze (zY (qr (a:=.tup [.str f0,.str f1,.str f2]) rfl rfl rfl) (qbg (by omega))))
 have c3:vd (tst (qf qI %[d2 ixB (dv 2) (ret (.int 0))|0])) Z=.ok (!isF b0,Z):=qkt (ze (zY (qr (a:=.tup [.str b0,.str b1,.str b2]) rfl rfl rfl) (qbg (by omega))))
 have c4:(tst (d2 neB (d2 ixB (dv 2) (ret (.int 2))) (ret (.str ""))):M Bool) Z=.ok (!(b2==("":Str)),Z):=ze (qr (qr (a:=.tup [.str b0,.str b1,.str b2]) rfl rfl rfl) rfl rfl)
 have c5:vd (tst (qf qI %[d2 ixB (dv 2) (ret (.int 2))|0])) Z=.ok (!isF b2,Z):=qkt (ze (zY (qr (a:=.tup [.str b0,.str b1,.str b2]) rfl rfl rfl) (qbg (by omega))))
 have run:∀d:D,(∃Z',(qt (sif (tor (tst (d2 eqB (d2 ixB (dv 2) (ret (.int 1))) (ret (.str "")))) (tor (vd (tst (qf qI %[d2 ixB (dv 1) (ret (.int 0))|0]))) (vd (tst (qf qI %[d2 ixB (dv 2) (ret (.int 0))|0]))))) (qZ (ret .non)) zo) (qt (sif (ub (tst (d2 neB (d2 ixB (dv 2) (ret (.int 2))) (ret (.str "")))) (vd (tst (qf qI %[d2 ixB (dv 2) (ret (.int 2))|0])))) (qZ (ret .non)) zo) (qt (qY 3 (dif (tst (d2 eqB (d2 ixB (dv 2) (ret (.int 2))) (ret (.str "")))) (ret .non) (qf zG %[d2 ixB (dv 2) (ret (.int 2))|0]))) (qt (qY 4 (z8 %[qf zG %[d2 ixB (dv 1) (ret (.int 0))|0],qf zG %[d2 ixB (dv 2) (ret (.int 0))|0],dv 3|0])) (qZ (dif (tst (qf jR %[dv 4|0])) (dv 4) (ret .non))))))) Z=.ok (.rt d Z'))->dfn 5 1 yW [.str w]=.ok d:=λd ⟨Z',e⟩=>by
  refine qbb rfl ⟨Z',?_⟩
  unfold yW
  exact(qp (jp p1)).trans ((qp (jp p2)).trans e)
 have o1:tor (tst (d2 eqB (d2 ixB (dv 2) (ret (.int 1))) (ret (.str "")))) (tor (vd (tst (qf qI %[d2 ixB (dv 1) (ret (.int 0))|0]))) (vd (tst (qf qI %[d2 ixB (dv 2) (ret (.int 0))|0])))) Z=.ok (!(!(b1==("":Str))&&(isF f0&&isF b0)),Z):=by
  cases h1:b1==("":Str) with
  |true=>rw[h1]at c1;exact qgv c1
  |false=>
   rw[h1]at c1
   refine vz c1 ?_
   cases h2:isF f0 with
   |false=>rw[h2]at c2;exact qgv c2
   |true=>rw[h2]at c2;exact vz c2 c3
 have o2:ub (tst (d2 neB (d2 ixB (dv 2) (ret (.int 2))) (ret (.str "")))) (vd (tst (qf qI %[d2 ixB (dv 2) (ret (.int 2))|0]))) Z=.ok (!(b2==("":Str)||isF b2),Z):=by
  cases h1:b2==("":Str) with
  |true=>rw[h1]at c4;exact qhy c4
  |false=>rw[h1]at c4;exact qhz c4 c5
 refine run _ ?_
 cases h1:(!(b1==("":Str))&&(isF f0&&isF b0)) with
 |false=>
  rw[h1]at o1
  exact⟨Z,j6 (qev o1)⟩
 | true=>
  rw[h1]at o1
  cases h2:(b2==("":Str)||isF b2) with
  |false=>
   rw[h2]at o2
   exact⟨Z,(qp (qcK o1)).trans (j6 (qev o2))⟩
  | true=>
   rw[h2]at o2
   have q:=h1
   simp only[yad]at q
   have n0:=qf8 (va q.2.1).2.1
   have n1:=qf8 (va q.2.2).2.1
   let Mo:OD:=some (mD (moF b2))
   let Ki:OD:=some (kD (((nF f0:Nat):Int),((nF b0:Nat):Int),moF b2))
   refine⟨[W,Fr,Bk,Mo,Ki],(qp (qcK o1)).trans ((qp (qcK o2)).trans ((qp (Z':=[W,Fr,Bk,Mo,none]) ?_).trans ((qp (Z':=[W,Fr,Bk,Mo,Ki]) ?_).trans ?_)))⟩
   ·have m1:(tst (d2 eqB (d2 ixB (dv 2) (ret (.int 2))) (ret (.str ""))):M Bool) Z=.ok (b2==("":Str),Z):=ze (qr (qr (a:=.tup [.str b0,.str b1,.str b2]) rfl rfl rfl) rfl rfl)
    refine jp (Z1:=Z) (d:=mD (moF b2)) ?_
    rw[qd5,m1]
    unfold moF
    cases h3:b2==("":Str) with
    |true=>rfl
    |false=>
     rw[h3,Bool.false_or]at h2
     exact zY (qr (a:=.tup [.str b0,.str b1,.str b2]) rfl rfl rfl) (qf8 (va h2).2.1)
   ·refine jp (Z1:=[W,Fr,Bk,Mo,none]) (d:=kD (((nF f0:Nat):Int),((nF b0:Nat):Int),moF b2)) ?_
    exact qn5 (zY (qr (a:=.tup [.str f0,.str f1,.str f2]) rfl rfl rfl) n0) (zY (qr (a:=.tup [.str b0,.str b1,.str b2]) rfl rfl rfl) n1) rfl
   ·have k1:(tst (qf jR %[dv 4|0]):M Bool) [W,Fr,Bk,Mo,Ki]=.ok (decide (nF f0≠0),[W,Fr,Bk,Mo,Ki]):=by
     rw[<-qmw f0 b0 b2]
     exact ze (zY rfl (wj _))
    refine v9 ?_
    rw[qd5,k1]
    unfold knF
    by_cases h0:nF f0=0
    ·rw[if_pos (show(true&&true)=true from rfl),if_pos h0,decide_eq_false (by omega)]
     rfl
    ·rw[if_pos (show(true&&true)=true from rfl),if_neg h0,decide_eq_true h0]
     rfl
def cK(a b c:Str):Bool:=((isF a&&isF b)&&(c==("":Str)||isF c)) && !(nF a==0)
def dK3(a b c:Str):D:=kD (((nF a:Nat):Int),((nF b:Nat):Int),moF c)
def vA (w:Str):OD:=match ya w ⟨#[47]⟩ with
 | [a,_,r]=>match ya r ⟨#[42]⟩ with
  | [b,z,c]=>if !(z==("":Str))&&cK a b c then some (dK3 a b c)else none
  |_=>none
 |_=>none
def ww (w:Str):OD:=match Txt.split w ⟨#[42]⟩ with
 | [p,c]=>match Txt.split p ⟨#[47]⟩ with
  | [a,b]=>if cK a b c then some (dK3 a b c)else none
  |_=>none
 |_=>none
theorem qgb {a b c:Str} (h:cK a b c=true):isF a=true/\isF b=true/\(c=("":Str)\/isF c=true):=by
 unfold cK at h
 simp only[yad,yc2,beq_iff_eq]at h
 exact⟨h.1.1.1,h.1.1.2,h.1.2⟩
theorem qiB:ybW=("":Str):=by kernel_rfl
theorem qgc:((⟨#[42]⟩:Str)==("":Str))=false:=by kernel_rfl
theorem vB {w:Str} {d:D} (h:ww w=some d):∃a b c p,Txt.split w ⟨#[42]⟩=[p,c]/\Txt.split p ⟨#[47]⟩=[a,b]/\cK a b c=true/\d=dK3 a b c:=by
 unfold ww at h
 split at h
 ·rename_i p c e1
  split at h
  ·rename_i a b e2
   split at h
   ·rename_i hc
    cases h
    exact⟨a,b,c,p,e1,e2,hc,rfl⟩
   ·cases h
  ·cases h
 ·cases h
theorem qiC (w:Str):vA w=ww w:=by
 have up:∀d,ww w=some d->vA w=some d:=λd h=>by
  obtain⟨a,b,c,p,e1,e2,hc,rfl⟩:=vB h
  obtain⟨r,q1,q2⟩:=qf4 e1 e2
  unfold vA
  rw[q1]
  dsimp only
  rw[q2]
  dsimp only
  rw[qgc,hc]
  rfl
 have down:∀d,vA w=some d->ww w=some d:=λd h=>by
  unfold vA at h
  rcases uP w 47 with⟨_,e⟩|⟨a,r,q,n,e⟩
  ·rw[e]at h
   dsimp only at h
   rw[qai (by show 42 ∉ ([]:List Nat);simp)]at h
   dsimp only at h
   rw[qiB]at h
   simp at h
  ·rw [e]at h
   dsimp only at h
   rcases uP r 42 with⟨_,e'⟩|⟨b,c,q',n',e'⟩
   ·rw[e']at h
    dsimp only at h
    rw[qiB]at h
    simp at h
   ·rw [e']at h
    dsimp only at h
    rw[qgc]at h
    cases hc:cK a b c with
    |false=>rw[hc]at h;cases h
    | true=>
     rw[hc]at h
     cases h
     obtain⟨h1,h2,h3⟩:=qgb hc
     have nc:42 ∉ c.cps.toList:=by
      rcases h3 with z|z
      ·rw[z];show 42 ∉ ([]:List Nat);simp
      ·exact qf9 z (by decide)
     obtain⟨p,s1,s2⟩:=qhB ⟨n,qf9 h1 (by decide)⟩ ⟨qf9 h2 (by decide),n'⟩ nc q q'
     unfold ww
     rw[s1]
     dsimp only
     rw[s2]
     dsimp only
     rw[hc]
     rfl
 cases e1:ww w with
 |some d=>exact up d e1
 |none=>
  cases e2:vA w with
  |none=>rfl
  |some d=>rw[down d e2]at e1;cases e1
theorem qgd {w:Str} (hl:w.length<=640):qR [.str w]=.ok ((vA w).getD .non):=by
 have lens:∀{x a b:Str}{c:Nat},x.cps.toList=a.cps.toList++c::b.cps.toList->a.length<=x.length/\b.length<=x.length:=λ{x a b c} q=>by
  have:=congrArg yd6 q
  rw[lA_,lC_,yaI,yaI,yaI]at this
  constructor
  ·show a.cps.size<=x.cps.size;omega
  ·show b.cps.size<=x.cps.size;omega
 have fin:∀{f0 f1 f2 b0 b1 b2:Str},f2.length<=640->f0.length<=640->b0.length<=640->b2.length<=640->ya w ⟨#[47]⟩=[f0,f1,f2]->ya f2 ⟨#[42]⟩=[b0,b1,b2]->qR [.str w]=.ok ((vA w).getD .non):=λ{f0 f1 f2 b0 b1 b2} l1 l2 l3 l4 e1 e2=>by
  rw[qga hl l1 l2 l3 l4 (by rw[qmu];exact e1) (by rw[qmv];exact e2)]
  unfold vA
  rw[e1]
  dsimp only
  rw[e2]
  dsimp only
  unfold cK knF dK3
  congr 1
  cases b1==("":Str)<;>cases isF f0<;>cases isF b0<;>cases (b2==("":Str)||isF b2)<;>first|rfl|skip
  by_cases h:nF f0=0
  ·simp[h]
  ·simp[h]
 have e0:Str.empty.length=0:=rfl
 rcases uP w 47 with⟨_,e⟩|⟨a,r,q,n,e⟩
 ·exact fin (by rw[e0];omega) hl (by rw[e0];omega) (by rw[e0];omega) e (qai (by show 42 ∉ ([]:List Nat);simp))
 ·obtain ⟨l1,l2⟩:=lens q
  rcases uP r 42 with⟨_,e'⟩|⟨b,c,q',n',e'⟩
  ·exact fin (by omega) (by omega) (by omega) (by rw[e0];omega) e e'
  ·obtain⟨l3,l4⟩:=lens q'
   exact fin (by omega) (by omega) (by omega) (by omega) e e'
def qbo:List Str->Nat->List D->Nat ⊕ List D
 | [],_,acc => .inr acc
 |w::ws,p,acc=>match ww w with
  |some d=>if p<=11 then qbo ws (p+1) (acc++[d])else .inl p
  |none => .inl p
theorem qhE {w:Str} {d:D} (h:ww w=some d):imm d=true/\jZ d=false:=by
 obtain⟨a,b,c,p,_,_,_,rfl⟩:=vB h
 exact⟨qiv _,rfl⟩
theorem qge (T:OD):∀(ws:List Str)(p:Nat)(acc:List D)(o2 o3 o4:OD),(∀w∈ws,w.length<=640)->acc.length=p->p<=12 ->
  ∃ o2' o3' o4',zL (qaq 2 (zp (qz 2) (zp (qz 3) qap))) (qt (qY 4 (qf qR %[dv 3|0])) (qt (sif (tor (tst (d2 isN (dv 4) (ret .non))) (tst (d2 geD (dv 2) (ret (.int 12))))) (jn "NoText" %[dv 2|0]) zo) (zt (qB 1 (dv 4))))) (jt p (ws.map D.str)) [T,some (.lst acc),o2,o3,o4]=(match qbo ws p acc with
   |.inl q => .exc ⟨"NoText",.int (q:Nat)⟩ [T,o2',some (.int (q:Nat)),o3',o4']
   |.inr ds => .ok (.nx [T,some (.lst ds),o2',o3',o4']))
 | [],p,acc,o2,o3,o4,_,_,_=>⟨o2,o3,o4,rfl⟩
 | w :: ws,p,acc,o2,o3,o4,h,ha,hp=>by
  let Z:Env:=[T,some (.lst acc),some (.int (p:Nat)),some (.str w),some ((vA w).getD .non)]
  have s1:(qY 4 (qf qR %[dv 3|0])) [T,some (.lst acc),some (.int (p:Nat)),some (.str w),o4]=.ok (.nx Z):=jp (Z1:=[T,some (.lst acc),some (.int (p:Nat)),some (.str w),o4]) (zY rfl (qgd (h w mS_)))
  have t1:(tst (d2 isN (dv 4) (ret .non)):M Bool) Z=.ok (jZ ((vA w).getD .non),Z):=ze (qr (a:=(vA w).getD .non) rfl rfl rfl)
  have t2:(tst (d2 geD (dv 2) (ret (.int 12))):M Bool) Z=.ok (decide ((12:Int)<=((p:Nat):Int)),Z):=ze (qr (a:=.int (p:Nat)) rfl rfl rfl)
  have go:∀{r:R Fl},(qt (sif (tor (tst (d2 isN (dv 4) (ret .non))) (tst (d2 geD (dv 2) (ret (.int 12))))) (jn "NoText" %[dv 2|0]) zo) (zt (qB 1 (dv 4)))) Z=r->(qt (qY 4 (qf qR %[dv 3|0])) (qt (sif (tor (tst (d2 isN (dv 4) (ret .non))) (tst (d2 geD (dv 2) (ret (.int 12))))) (jn "NoText" %[dv 2|0]) zo) (zt (qB 1 (dv 4))))) [T,some (.lst acc),some (.int (p:Nat)),some (.str w),o4]=r:=λe=>(qp s1).trans e
  show ∃o2' o3' o4',zL _ _ (D.tup [.int (p:Nat),.str w]::jt (p+1) (ws.map D.str)) _=_
  have bad:tor (tst (d2 isN (dv 4) (ret .non))) (tst (d2 geD (dv 2) (ret (.int 12)))) Z=.ok (true,Z)->qbo (w::ws) p acc=.inl p->∃o2' o3' o4',zL (qaq 2 (zp (qz 2) (zp (qz 3) qap))) (qt (qY 4 (qf qR %[dv 3|0])) (qt (sif (tor (tst (d2 isN (dv 4) (ret .non))) (tst (d2 geD (dv 2) (ret (.int 12))))) (jn "NoText" %[dv 2|0]) zo) (zt (qB 1 (dv 4))))) (D.tup [.int (p:Nat),.str w]::jt (p+1) (ws.map D.str)) [T,some (.lst acc),o2,o3,o4]=(match qbo (w::ws) p acc with
   |.inl q => .exc ⟨"NoText",.int (q:Nat)⟩ [T,o2',some (.int (q:Nat)),o3',o4']
   |.inr ds => .ok (.nx [T,some (.lst ds),o2',o3',o4'])):=λt e=>by
   rw[e]
   refine⟨some (.lst acc),some (.str w),some ((vA w).getD .non),?_⟩
   have x:(qt (qY 4 (qf qR %[dv 3|0])) (qt (sif (tor (tst (d2 isN (dv 4) (ret .non))) (tst (d2 geD (dv 2) (ret (.int 12))))) (jn "NoText" %[dv 2|0]) zo) (zt (qB 1 (dv 4))))) [T,some (.lst acc),some (.int (p:Nat)),some (.str w),o4]=.exc ⟨"NoText",.int (p:Nat)⟩ Z:=go (qfN ((qev t).trans rfl))
   unfold zL
   show (match (qt (qY 4 (qf qR %[dv 3|0])) (qt (sif (tor (tst (d2 isN (dv 4) (ret .non))) (tst (d2 geD (dv 2) (ret (.int 12))))) (jn "NoText" %[dv 2|0]) zo) (zt (qB 1 (dv 4))))) [T,some (.lst acc),some (.int (p:Nat)),some (.str w),o4] with
    |.ok (.nx Z2)=>zL _ _ _ Z2
    |.ok (.ct Z2)=>zL _ _ _ Z2
    |.ok (.bk Z2) => .ok (.nx Z2)
    |.ok (.rt r Z2) => .ok (.rt r Z2)
    |.exc x Z2 => .exc x Z2
    |.bad => .bad)=_
   rw[x]
  rw[qiC]at t1
  cases e:ww w with
  |none=>
   rw[e]at t1
   exact bad (qgv t1) (by unfold qbo;rw[e])
  | some d=>
   obtain⟨hi,hn⟩:=qhE e
   rw[e]at t1
   have t1':(tst (d2 isN (dv 4) (ret .non)):M Bool) Z=.ok (false,Z):=by rw[t1];show R.ok (jZ d,Z)=_;rw[hn]
   by_cases h11:p<=11
   ·have t2':(tst (d2 geD (dv 2) (ret (.int 12))):M Bool) Z=.ok (false,Z):=by rw[t2,decide_eq_false (by omega)]
    have er:Z=[T,some (.lst acc),some (.int (p:Nat)),some (.str w),some d]:=by
     show [T,some (.lst acc),some (.int (p:Nat)),some (.str w),some ((vA w).getD .non)]=_
     rw[qiC,e]
     rfl
    have x:(qt (qY 4 (qf qR %[dv 3|0])) (qt (sif (tor (tst (d2 isN (dv 4) (ret .non))) (tst (d2 geD (dv 2) (ret (.int 12))))) (jn "NoText" %[dv 2|0]) zo) (zt (qB 1 (dv 4))))) [T,some (.lst acc),some (.int (p:Nat)),some (.str w),o4]=.ok (.nx [T,some (.lst (acc++[d])),some (.int (p:Nat)),some (.str w),some d]):=by
     refine go ((qp (qcK (qhx t1' t2'))).trans ?_)
     rw[er,qah (ds:=acc) (d:=d) rfl rfl hi (by omega)]
     rfl
    obtain⟨q2,q3,q4,q⟩:=qge T ws (p+1) (acc++[d]) (some (.int (p:Nat))) (some (.str w)) (some d) (λy hy=>h y (mM _ hy)) (by rw[lA_,yaC,ha]) (by omega)
    refine⟨q2,q3,q4,?_⟩
    rw[vx rfl x,q]
    have eo:qbo (w::ws) p acc=qbo ws (p+1) (acc++[d]):=by
     show(match ww w with|some d=>if p<=11 then qbo ws (p+1) (acc++[d])else .inl p|none => .inl p)=_
     rw[e]
     exact if_pos h11
    rw[eo]
   ·refine bad (vz t1' (by rw[t2,decide_eq_true (by omega)])) ?_
    show(match ww w with|some d=>if p<=11 then qbo ws (p+1) (acc++[d])else .inl p|none => .inl p)=_
    rw[e]
    exact if_neg h11
theorem qcc {c:Nat}:∀ws:List Str,ws≠[]->ws.length<=(ybf ⟨#[c]⟩ ws).cps.toList.length+1/\∀w∈ws,w.cps.toList.length<=(ybf ⟨#[c]⟩ ws).cps.toList.length
 | [],h=>absurd rfl h
 | [a],_=>⟨by simp,λw hw=>by rw[ms_.mp hw];exact yah _⟩
 | a::b::r,_=>by
  obtain⟨i1,i2⟩:=qcc (c:=c) (b::r) (by simp)
  have el:(ybf ⟨#[c]⟩ (a::b::r)).cps.toList.length=a.cps.toList.length+((ybf ⟨#[c]⟩ (b::r)).cps.toList.length+1):=by rw[jc,lA_,lC_]
  have e2:(a::b::r).length=(b::r).length+1:=rfl
  rw[el]
  refine⟨by omega,λw hw=>?_⟩
  rcases List.mem_cons.mp hw with rfl|hw
  ·omega
  ·have:=i2 w hw
   omega
theorem qdI (t:Str) (c:Nat):Txt.split t ⟨#[c]⟩≠[]:=λe=>by
 have:=split_pos t ⟨#[c]⟩
 rw[e]at this
 exact absurd this (by decide)
theorem zC (t:Str) (c:Nat):(Txt.split t ⟨#[c]⟩).length<=t.length+1/\∀w∈Txt.split t ⟨#[c]⟩,w.length<=t.length:=by
 have j:ybf ⟨#[c]⟩ (Txt.split t ⟨#[c]⟩)=t:=ycy t ⟨#[c]⟩
 obtain⟨h1,h2⟩:=qcc (c:=c) (Txt.split t ⟨#[c]⟩) (qdI t c)
 rw[j]at h1 h2
 exact⟨h1,h2⟩
theorem uB {t:Str} {c:Nat} {z:Str} (hz:z=⟨#[c]⟩) (hl:t.length<=640):qO (.str t) [.str z]=some (.lst ((Txt.split t ⟨#[c]⟩).map D.str)):=by
 subst hz
 have:=(zC t c).1
 show(if !((⟨#[c]⟩:Str).length==0)&&qT t.length&&qT (Txt.split t ⟨#[c]⟩).length then some (D.lst ((Txt.split t ⟨#[c]⟩).map D.str))else none)=_
 rw[zM (by omega),zM (by omega)]
 rfl
theorem qhF:(" ":Str)=⟨#[32]⟩:=by kernel_rfl
theorem qmx {g:M D} {Z:Env} {xs:List D} (h:g Z=.ok (.lst xs,Z)):vn %[g|0] Z=.ok (jt 0 xs,Z):=by
 unfold vn
 rw[yO h]
 show qdw %[g|0] Z=_
 unfold qdw bnd
 rw[yO h]
 rfl
def qiD(t:Str):Nat ⊕ List D:=if t==("":Str)then .inr []else qbo (Txt.split t ⟨#[32]⟩) 0 []
theorem qhG {t:Str} (hl:t.length<=640):match qiD t with
  |.inl q=>∃Z,ug [.str t]=.exc ⟨"NoText",.int (q:Nat)⟩ Z
  |.inr ds=>ug [.str t]=.ok (.tup ds):=by
 unfold qiD ug
 let X:OD:=some (.str t)
 have s0:(sif (vd (tst (qbG "str" (dv 0)))) (jn "NoText" %[ret (.int 0)|0]) zo) [X,none,none,none,none]=.ok (.nx [X,none,none,none,none]):=qcK (qkt (b:=true) rfl)
 have e1:(tst (d2 eqB (dv 0) (ret (.str ""))):M Bool) [X,none,none,none,none]=.ok (t==("":Str),[X,none,none,none,none]):=ze (qr (a:=.str t) rfl rfl rfl)
 cases h:t==("":Str) with
 |true=>
  rw[h]at e1
  refine qjJ rfl ⟨[X,none,none,none,none],?_⟩
  unfold vy
  exact(qp s0).trans (j6 ((qev e1).trans rfl))
 | false=>
  rw[h]at e1
  obtain⟨o2,o3,o4,q⟩:=qge X (Txt.split t ⟨#[32]⟩) 0 [] none none none (λw hw=>by have:=(zC t 32).2 w hw;omega) rfl (by omega)
  have el:vn %[qA qO (dv 0) %[ret (.str " ")|0]|0] [X,some (.lst []),none,none,none]=.ok (jt 0 ((Txt.split t ⟨#[32]⟩).map D.str),[X,some (.lst []),none,none,none]):=qmx (z7 rfl (yO rfl) (uB qhF hl))
  have ef:(qay (vn %[qA qO (dv 0) %[ret (.str " ")|0]|0]) (qaq 2 (zp (qz 2) (zp (qz 3) qap))) (qt (qY 4 (qf qR %[dv 3|0])) (qt (sif (tor (tst (d2 isN (dv 4) (ret .non))) (tst (d2 geD (dv 2) (ret (.int 12))))) (jn "NoText" %[dv 2|0]) zo) (zt (qB 1 (dv 4)))))) [X,some (.lst []),none,none,none]=zL (qaq 2 (zp (qz 2) (zp (qz 3) qap))) (qt (qY 4 (qf qR %[dv 3|0])) (qt (sif (tor (tst (d2 isN (dv 4) (ret .non))) (tst (d2 geD (dv 2) (ret (.int 12))))) (jn "NoText" %[dv 2|0]) zo) (zt (qB 1 (dv 4))))) (jt 0 ((Txt.split t ⟨#[32]⟩).map D.str)) [X,some (.lst []),none,none,none]:=by rw[uV,el]
  show match qbo (Txt.split t ⟨#[32]⟩) 0 [] with
   |.inl q=>∃Z,qbU 5 1 vy [.str t]=.exc ⟨"NoText",.int (q:Nat)⟩ Z
   |.inr ds=>qbU 5 1 vy [.str t]=.ok (.tup ds)
  cases eo:qbo (Txt.split t ⟨#[32]⟩) 0 [] with
  | inl p=>
   rw[eo]at q
   refine⟨[X,o2,some (.int (p:Nat)),o3,o4],qin rfl ?_⟩
   ·unfold vy
    exact(qp s0).trans ((qp (qcK e1)).trans ((qp (Z':=[X,some (.lst []),none,none,none]) rfl).trans (qfN (ef.trans q))))
  | inr ds=>
   rw[eo]at q
   refine qjJ rfl ⟨[X,some (.lst ds),o2,o3,o4],?_⟩
   ·unfold vy
    exact(qp s0).trans ((qp (qcK e1)).trans ((qp (Z':=[X,some (.lst []),none,none,none]) rfl).trans ((qp (ef.trans q)).trans rfl)))
def qmy:Nat ⊕ List D->D
 |.inl q => .int (q:Nat)
 |.inr ds => .tup ds
theorem qku {F:List D->R D} {f:M D} {Z Z1:Env} {a:D} {x:Exn} (hf:f Z=.ok (a,Z)) (e:F [a]=.exc x Z1) (hx:RN.contains x.cls=true):ud RN F %[f|0] Z=.exc x Z:=by
 rw[wC,yO hf]
 simp only[e,hx,if_true]
theorem qdJ {F:List D->R D} {f:M D} {Z:Env} {a d:D} (hf:f Z=.ok (a,Z)) (e:F [a]=.ok d):ud RN F %[f|0] Z=.ok (d,Z):=by
 rw[wC,yO hf]
 simp only[e]
noncomputable abbrev qmV:MS:=(qt (sif (ub (tst (d2 eqB (qf jS %[dv 1|0]) (ret (.str "text")))) (tst (qf uA %[dat (dv 1)|0]))) (qZ (dat (dv 1))) zo) (qZ (qf jS %[dv 1|0])))
theorem qmz(q:Int):qmV [none,some (.exv "NoText" q)]=.ok (.rt (.int q) [none,some (.exv "NoText" q)]):=by kernel_rfl
theorem qiE {d:D} {q:Int} {Z1:Env} (e:ug [d]=.exc ⟨"NoText",.int q⟩ Z1):qv [d]=.ok (.int q):=by
 unfold qv
 refine qbb rfl ⟨[some d,none],?_⟩
 unfold yX
 have f:qZ (ud RN ug %[dv 0|0]) [some d,none]=.exc ⟨"NoText",.int q⟩ [some d,none]:=by
  rw[qbR,qku (a:=d) rfl e (show RN.contains ("NoText":Str)=true by decide)]
 show uw RN 2 1 (qZ (ud RN ug %[dv 0|0])) qmV [some d,none]=_
 unfold uw
 rw[f]
 show (if RN.contains ("NoText":Str)then match qmV [none,some (.exv "NoText" q)] with
   |.ok (.rt d' _)=>R.ok (Fl.rt d' [some d,none])
   |_ => .bad
  else .bad)=_
 rw[if_pos (by decide),qmz]
theorem qhH {d d':D} (e:ug [d]=.ok d'):qv [d]=.ok d':=by
 unfold qv
 refine qbb rfl ⟨[some d,none],?_⟩
 unfold yX
 have f:qZ (ud RN ug %[dv 0|0]) [some d,none]=.ok (.rt d' [some d,none]):=v9 (qdJ (a:=d) rfl e)
 show uw RN 2 1 (qZ (ud RN ug %[dv 0|0])) qmV [some d,none]=_
 unfold uw
 rw[f]
theorem qhI {t:Str} (hl:t.length<=640):qv [.str t]=.ok (qmy (qiD t)):=by
 have r:=qhG hl
 cases eo:qiD t with
 |inl q=>
  rw[eo]at r
  obtain⟨Z,e⟩:=r
  exact qiE e
 |inr ds=>
  rw[eo]at r
  exact qhH r
theorem qdK {c:Nat}:∀ws:List Str,∀w∈ws,∀x∈w.cps.toList,x∈(ybf ⟨#[c]⟩ ws).cps.toList
 | [a],w,hw,x,hx=>by rw[ms_.mp hw]at hx;exact hx
 |a::b::r,w,hw,x,hx=>by
  rw[jc]
  rcases List.mem_cons.mp hw with rfl|hw
  ·exact yce _ hx
  ·exact mr_ _ (mM _ (qdK (b::r) w hw x hx))
theorem uC {t:Str} (h:asc t) (c:Nat):∀w∈Txt.split t ⟨#[c]⟩,asc w:=λw hw x hx=>by
 have j:ybf ⟨#[c]⟩ (Txt.split t ⟨#[c]⟩)=t:=ycy t ⟨#[c]⟩
 exact h x (by rw[<-j];exact qdK _ w hw x hx)
theorem qiF (x:Str):isN (nI x) .non=some (.bl (!isF x)):=by
 unfold nI
 cases isF x<;>rfl
theorem qnB (x:Str):inB (nI x) (.tup [.non,.int 0])=some (.bl (!isF x||nF x==0)):=by
 unfold nI
 cases isF x with
 |false=>rfl
 | true=>
  cases h:nF x==0 with
  |true=>rw[show nF x=0 from beq_iff_eq.mp h];rfl
  |false=>
   have h0:¬((0:Int)=((nF x:Nat):Int)):=by have:=beq_eq_false_iff_ne.mp h;omega
   show some (D.bl (eqV (vD .non) (vD (.int ((nF x:Nat):Int)))||(decide ((0:Int)=((nF x:Nat):Int))||false)))=_
   rw[decide_eq_false h0]
   rfl
theorem qnC {a b c:Str} (h:cK a b c=true):D.tup [nI a,nI b,nI c]=dK3 a b c:=by
 obtain⟨h1,h2,h3⟩:=qgb h
 unfold nI dK3 moF
 rw[h1,h2]
 rcases h3 with z|z
 ·subst z
  rw[show isF ("":Str)=false by kernel_rfl]
  rfl
 ·rw[z,(va z).1]
  rfl
theorem qcN (l:List Str):jW [.lst (l.map D.str)]=some (.int ((l.length:Nat):Int)):=by
 show some (D.int (((l.map D.str).length:Nat):Int))=_
 rw[lM_]
theorem qaK {l:List Str} {j:Nat} {x:Str} (h:l[j]? = some x):ixB (.lst (l.map D.str)) (.int (j:Nat))=some (.str x):=by
 have e:atI (l.map D.str) ((j:Nat):Int)=some (D.str x):=L2.atI_nat (by rw[gM_,h];rfl)
 show(Option.or (atI (l.map D.str) ((j:Nat):Int)) _)=_
 rw[e]
 rfl
theorem qhJ (T:OD) {w:Str} (ha:asc w) (hl:w.length<=640) (p:Nat) (acc:List D) (hp:acc.length<=1000) (o4 o5:OD) :
  ∃ q4 q5,(qt (qY 4 (qA qO (dv 3) %[ret (.str "*")|0])) (qt (qY 5 (qA qO (d2 ixB (dv 4) (ret (.int 0))) %[ret (.str "/")|0])) (qt (sif (tor (tst (d2 gtD (dv 2) (ret (.int 11)))) (tor (tst (d2 neB (qs jW %[dv 4|0]) (ret (.int 2)))) (tor (tst (d2 neB (qs jW %[dv 5|0]) (ret (.int 2)))) (tst (d2 inB (qf qc %[d2 ixB (dv 5) (ret (.int 0))|0]) (z8 %[ret .non,ret (.int 0)|0])))))) (qZ (dv 2)) zo) (qt (sif (tor (tst (d2 isN (qf qc %[d2 ixB (dv 5) (ret (.int 1))|0]) (ret .non))) (ub (tst (d2 neB (d2 ixB (dv 4) (ret (.int 1))) (ret (.str "")))) (tst (d2 isN (qf qc %[d2 ixB (dv 4) (ret (.int 1))|0]) (ret .non))))) (qZ (dv 2)) zo) (zt (qB 1 (z8 %[qf qc %[d2 ixB (dv 5) (ret (.int 0))|0],qf qc %[d2 ixB (dv 5) (ret (.int 1))|0],qf qc %[d2 ixB (dv 4) (ret (.int 1))|0]|0]))))))) [T,some (.lst acc),some (.int (p:Nat)),some (.str w),o4,o5]=(match ww w with
   |some d=>if p<=11 then .ok (.nx [T,some (.lst (acc++[d])),some (.int (p:Nat)),some (.str w),q4,q5])else .ok (.rt (.int (p:Nat)) [T,some (.lst acc),some (.int (p:Nat)),some (.str w),q4,q5])
   |none => .ok (.rt (.int (p:Nat)) [T,some (.lst acc),some (.int (p:Nat)),some (.str w),q4,q5])):=by
 let ps:=Txt.split w ⟨#[42]⟩
 obtain ⟨p0,pr,eps⟩:∃p0 pr,ps=p0::pr:=by
  cases e:ps with
  |nil=>exact absurd e (qdI w 42)
  |cons a b=>exact⟨a,b,rfl⟩
 let hs:=Txt.split p0 ⟨#[47]⟩
 have hp0:p0∈ps:=by rw[eps];exact mS_
 have l0:p0.length<=640:=by have:=(zC w 42).2 p0 hp0;omega
 have a0:asc p0:=uC ha 42 p0 hp0
 let L:OD:=some (.lst acc)
 let N:OD:=some (.int (p:Nat))
 let W:OD:=some (.str w)
 let P:OD:=some (.lst (ps.map D.str))
 let Q:OD:=some (.lst (hs.map D.str))
 refine⟨P,Q,?_⟩
 let Z:Env:=[T,L,N,W,P,Q]
 have s1:(qY 4 (qA qO (dv 3) %[ret (.str "*")|0])) [T,L,N,W,o4,o5]=.ok (.nx [T,L,N,W,P,o5]):=jp (Z1:=[T,L,N,W,o4,o5]) (z7 rfl (yO rfl) (uB qmv hl))
 have s2:(qY 5 (qA qO (d2 ixB (dv 4) (ret (.int 0))) %[ret (.str "/")|0])) [T,L,N,W,P,o5]=.ok (.nx Z):=jp (Z1:=[T,L,N,W,P,o5]) (z7 (qr (a:=.lst (ps.map D.str)) rfl rfl (qaK (j:=0) (by rw[eps];rfl))) (yO rfl) (uB qmu l0))
 have go:∀{r:R Fl},(qt (sif (tor (tst (d2 gtD (dv 2) (ret (.int 11)))) (tor (tst (d2 neB (qs jW %[dv 4|0]) (ret (.int 2)))) (tor (tst (d2 neB (qs jW %[dv 5|0]) (ret (.int 2)))) (tst (d2 inB (qf qc %[d2 ixB (dv 5) (ret (.int 0))|0]) (z8 %[ret .non,ret (.int 0)|0])))))) (qZ (dv 2)) zo) (qt (sif (tor (tst (d2 isN (qf qc %[d2 ixB (dv 5) (ret (.int 1))|0]) (ret .non))) (ub (tst (d2 neB (d2 ixB (dv 4) (ret (.int 1))) (ret (.str "")))) (tst (d2 isN (qf qc %[d2 ixB (dv 4) (ret (.int 1))|0]) (ret .non))))) (qZ (dv 2)) zo) (zt (qB 1 (z8 %[qf qc %[d2 ixB (dv 5) (ret (.int 0))|0],qf qc %[d2 ixB (dv 5) (ret (.int 1))|0],qf qc %[d2 ixB (dv 4) (ret (.int 1))|0]|0]))))) Z=r->(qt (qY 4 (qA qO (dv 3) %[ret (.str "*")|0])) (qt (qY 5 (qA qO (d2 ixB (dv 4) (ret (.int 0))) %[ret (.str "/")|0])) (qt (sif (tor (tst (d2 gtD (dv 2) (ret (.int 11)))) (tor (tst (d2 neB (qs jW %[dv 4|0]) (ret (.int 2)))) (tor (tst (d2 neB (qs jW %[dv 5|0]) (ret (.int 2)))) (tst (d2 inB (qf qc %[d2 ixB (dv 5) (ret (.int 0))|0]) (z8 %[ret .non,ret (.int 0)|0])))))) (qZ (dv 2)) zo) (qt (sif (tor (tst (d2 isN (qf qc %[d2 ixB (dv 5) (ret (.int 1))|0]) (ret .non))) (ub (tst (d2 neB (d2 ixB (dv 4) (ret (.int 1))) (ret (.str "")))) (tst (d2 isN (qf qc %[d2 ixB (dv 4) (ret (.int 1))|0]) (ret .non))))) (qZ (dv 2)) zo) (zt (qB 1 (z8 %[qf qc %[d2 ixB (dv 5) (ret (.int 0))|0],qf qc %[d2 ixB (dv 5) (ret (.int 1))|0],qf qc %[d2 ixB (dv 4) (ret (.int 1))|0]|0]))))))) [T,L,N,W,o4,o5]=r:=λe=>(qp s1).trans ((qp s2).trans e)
 have lk:∀{a b c:Str},ps=[p0,c]->hs=[a,b]->ww w=if cK a b c then some (dK3 a b c)else none:=λ{a b c} e1 e2=>by
  unfold ww
  rw[show Txt.split w ⟨#[42]⟩=[p0,c]from e1]
  dsimp only
  rw[show Txt.split p0 ⟨#[47]⟩=[a,b]from e2]
 have lkn:(∀a b c,ps=[p0,c]->hs=[a,b]->False)->ww w=none:=λh=>by
  cases e:ww w with
  |none=>rfl
  |some d=>
   obtain⟨a,b,c,p',e1,e2,_⟩:=vB e
   have e1':ps=[p',c]:=e1
   rw[eps]at e1'
   have z:p0=p':=(ycH e1').1
   subst z
   exact(h a b c e1 e2).elim
 have c1:(tst (d2 gtD (dv 2) (ret (.int 11))):M Bool) Z=.ok (decide ((11:Int)<((p:Nat):Int)),Z):=ze (qr (a:=.int (p:Nat)) rfl rfl rfl)
 have c2:(tst (d2 neB (qs jW %[dv 4|0]) (ret (.int 2))):M Bool) Z=.ok (!decide (((ps.length:Nat):Int)=2),Z):=ze (qr (j7 (a:=.lst (ps.map D.str)) rfl (qcN ps)) rfl rfl)
 have c3:(tst (d2 neB (qs jW %[dv 5|0]) (ret (.int 2))):M Bool) Z=.ok (!decide (((hs.length:Nat):Int)=2),Z):=ze (qr (j7 (a:=.lst (hs.map D.str)) rfl (qcN hs)) rfl rfl)
 have ret1:∀{t:M Bool}{k:MS},t Z=.ok (true,Z)->qt (sif t (qZ (dv 2)) zo) k Z=.ok (.rt (.int (p:Nat)) Z):=λh=>j6 ((qev h).trans rfl)
 have out:ww w=none->∀{r:R Fl},r=.ok (.rt (.int (p:Nat)) Z)->r=(match ww w with
   |some d=>if p<=11 then .ok (.nx [T,some (.lst (acc++[d])),N,W,P,Q])else .ok (.rt (.int (p:Nat)) [T,L,N,W,P,Q])
   |none => .ok (.rt (.int (p:Nat)) [T,L,N,W,P,Q])):=λe r er=>by rw[e];exact er
 show (qt (qY 4 (qA qO (dv 3) %[ret (.str "*")|0])) (qt (qY 5 (qA qO (d2 ixB (dv 4) (ret (.int 0))) %[ret (.str "/")|0])) (qt (sif (tor (tst (d2 gtD (dv 2) (ret (.int 11)))) (tor (tst (d2 neB (qs jW %[dv 4|0]) (ret (.int 2)))) (tor (tst (d2 neB (qs jW %[dv 5|0]) (ret (.int 2)))) (tst (d2 inB (qf qc %[d2 ixB (dv 5) (ret (.int 0))|0]) (z8 %[ret .non,ret (.int 0)|0])))))) (qZ (dv 2)) zo) (qt (sif (tor (tst (d2 isN (qf qc %[d2 ixB (dv 5) (ret (.int 1))|0]) (ret .non))) (ub (tst (d2 neB (d2 ixB (dv 4) (ret (.int 1))) (ret (.str "")))) (tst (d2 isN (qf qc %[d2 ixB (dv 4) (ret (.int 1))|0]) (ret .non))))) (qZ (dv 2)) zo) (zt (qB 1 (z8 %[qf qc %[d2 ixB (dv 5) (ret (.int 0))|0],qf qc %[d2 ixB (dv 5) (ret (.int 1))|0],qf qc %[d2 ixB (dv 4) (ret (.int 1))|0]|0]))))))) [T,L,N,W,o4,o5]=(match ww w with
   |some d=>if p<=11 then .ok (.nx [T,some (.lst (acc++[d])),N,W,P,Q])else .ok (.rt (.int (p:Nat)) [T,L,N,W,P,Q])
   |none => .ok (.rt (.int (p:Nat)) [T,L,N,W,P,Q]))
 by_cases h11:p<=11
 ·have c1':(tst (d2 gtD (dv 2) (ret (.int 11))):M Bool) Z=.ok (false,Z):=by rw[c1,decide_eq_false (by omega)]
  by_cases e2:ps.length=2
  ·have c2':(tst (d2 neB (qs jW %[dv 4|0]) (ret (.int 2))):M Bool) Z=.ok (false,Z):=by rw[c2,e2];rfl
   obtain ⟨c,epc⟩:∃c,ps=[p0,c]:=by
    rw[eps]at e2 |-
    match pr,e2 with
    | [c],_=>exact⟨c,rfl⟩
   by_cases e3:hs.length=2
   ·have c3':(tst (d2 neB (qs jW %[dv 5|0]) (ret (.int 2))):M Bool) Z=.ok (false,Z):=by rw[c3,e3];rfl
    obtain ⟨a,b,ehs⟩:∃a b,hs=[a,b]:=by
     match hs,e3 with
     | [a,b],_=>exact⟨a,b,rfl⟩
    have ma:a∈hs:=by rw[ehs];simp
    have mb:b∈hs:=by rw[ehs];simp
    have mc:c∈ps:=by rw[epc];simp
    have na:qc [.str a]=.ok (nI a):=qbh (uC a0 47 a ma) (by have:=(zC p0 47).2 a ma;omega)
    have nb:qc [.str b]=.ok (nI b):=qbh (uC a0 47 b mb) (by have:=(zC p0 47).2 b mb;omega)
    have nc:qc [.str c]=.ok (nI c):=qbh (uC ha 42 c mc) (by have:=(zC w 42).2 c mc;omega)
    have i0:d2 ixB (dv 5) (ret (.int 0)) Z=.ok (.str a,Z):=qr (a:=.lst (hs.map D.str)) rfl rfl (qaK (j:=0) (by rw[ehs];rfl))
    have i1:d2 ixB (dv 5) (ret (.int 1)) Z=.ok (.str b,Z):=qr (a:=.lst (hs.map D.str)) rfl rfl (qaK (j:=1) (by rw[ehs];rfl))
    have i2:d2 ixB (dv 4) (ret (.int 1)) Z=.ok (.str c,Z):=qr (a:=.lst (ps.map D.str)) rfl rfl (qaK (j:=1) (by rw[epc];rfl))
    have c4:(tst (d2 inB (qf qc %[d2 ixB (dv 5) (ret (.int 0))|0]) (z8 %[ret .non,ret (.int 0)|0])):M Bool) Z=.ok (!isF a||nF a==0,Z):=ze (qr (zY i0 na) rfl (qnB a))
    have c5:(tst (d2 isN (qf qc %[d2 ixB (dv 5) (ret (.int 1))|0]) (ret .non)):M Bool) Z=.ok (!isF b,Z):=ze (qr (zY i1 nb) rfl (qiF b))
    have c6:(tst (d2 neB (d2 ixB (dv 4) (ret (.int 1))) (ret (.str ""))):M Bool) Z=.ok (!(c==("":Str)),Z):=ze (qr i2 rfl rfl)
    have c7:(tst (d2 isN (qf qc %[d2 ixB (dv 4) (ret (.int 1))|0]) (ret .non)):M Bool) Z=.ok (!isF c,Z):=ze (qr (zY i2 nc) rfl (qiF c))
    have k0:=lk epc ehs
    cases q4:(!isF a||nF a==0) with
    |true=>
     rw[q4]at c4
     refine out (k0.trans (if_neg λz=>?_)) (go (ret1 (vz c1' (vz c2' (vz c3' c4)))))
     unfold cK at z
     simp only[yad,yaT]at z
     rw[z.1.1.1,z.2]at q4
     cases q4
    | false=>
     rw[q4]at c4
     have g2:∀{r:R Fl},(qt (sif (tor (tst (d2 isN (qf qc %[d2 ixB (dv 5) (ret (.int 1))|0]) (ret .non))) (ub (tst (d2 neB (d2 ixB (dv 4) (ret (.int 1))) (ret (.str "")))) (tst (d2 isN (qf qc %[d2 ixB (dv 4) (ret (.int 1))|0]) (ret .non))))) (qZ (dv 2)) zo) (zt (qB 1 (z8 %[qf qc %[d2 ixB (dv 5) (ret (.int 0))|0],qf qc %[d2 ixB (dv 5) (ret (.int 1))|0],qf qc %[d2 ixB (dv 4) (ret (.int 1))|0]|0])))) Z=r->(qt (qY 4 (qA qO (dv 3) %[ret (.str "*")|0])) (qt (qY 5 (qA qO (d2 ixB (dv 4) (ret (.int 0))) %[ret (.str "/")|0])) (qt (sif (tor (tst (d2 gtD (dv 2) (ret (.int 11)))) (tor (tst (d2 neB (qs jW %[dv 4|0]) (ret (.int 2)))) (tor (tst (d2 neB (qs jW %[dv 5|0]) (ret (.int 2)))) (tst (d2 inB (qf qc %[d2 ixB (dv 5) (ret (.int 0))|0]) (z8 %[ret .non,ret (.int 0)|0])))))) (qZ (dv 2)) zo) (qt (sif (tor (tst (d2 isN (qf qc %[d2 ixB (dv 5) (ret (.int 1))|0]) (ret .non))) (ub (tst (d2 neB (d2 ixB (dv 4) (ret (.int 1))) (ret (.str "")))) (tst (d2 isN (qf qc %[d2 ixB (dv 4) (ret (.int 1))|0]) (ret .non))))) (qZ (dv 2)) zo) (zt (qB 1 (z8 %[qf qc %[d2 ixB (dv 5) (ret (.int 0))|0],qf qc %[d2 ixB (dv 5) (ret (.int 1))|0],qf qc %[d2 ixB (dv 4) (ret (.int 1))|0]|0]))))))) [T,L,N,W,o4,o5]=r:=λe=>go ((qp (qcK (qhx c1' (qhx c2' (qhx c3' c4))))).trans e)
     cases q5:isF b with
     |false=>
      rw[q5]at c5
      refine out (k0.trans (if_neg λz=>?_)) (g2 (ret1 (qgv c5)))
      unfold cK at z
      rw[q5,yem]at z
      cases z
     | true=>
      rw[q5]at c5
      have c67:ub (tst (d2 neB (d2 ixB (dv 4) (ret (.int 1))) (ret (.str "")))) (tst (d2 isN (qf qc %[d2 ixB (dv 4) (ret (.int 1))|0]) (ret .non))) Z=.ok (!(c==("":Str)||isF c),Z):=by
       cases q6:c==("":Str) with
       |true=>rw[q6]at c6;exact qhy c6
       |false=>rw[q6]at c6;exact qhz c6 c7
      cases q7:(c==("":Str)||isF c) with
      |false=>
       rw[q7]at c67
       refine out (k0.trans (if_neg λz=>?_)) (g2 (ret1 (vz c5 c67)))
       unfold cK at z
       rw[q7,yem]at z
       cases z
      | true=>
       rw[q7]at c67
       have qa:isF a=true/\(nF a==0)=false:=by
        simp only[Bool.or_eq_false_iff,Bool.not_eq_false']at q4
        exact q4
       have hc:cK a b c=true:=by unfold cK;rw[qa.1,q5,q7,qa.2];rfl
       rw[k0,if_pos hc]
       show _=(if p<=11 then R.ok (Fl.nx [T,some (.lst (acc++[dK3 a b c])),N,W,P,Q])else .ok (Fl.rt (.int (p:Nat)) [T,L,N,W,P,Q]))
       rw[if_pos h11]
       refine g2 ((qp (qcK (qhx c5 c67))).trans ?_)
       rw[qah (ds:=acc) (d:=dK3 a b c) rfl (by rw[<-qnC hc];exact qn5 (zY i0 na) (zY i1 nb) (zY i2 nc)) (qiv _) (by omega)]
       rfl
   ·refine out (lkn λa b c _ z=>e3 (by rw[z];rfl)) (go (ret1 (vz c1' (vz c2' (qgv ?_)))))
    rw[c3,decide_eq_false (by omega)]
    rfl
  ·refine out (lkn λa b c z _=>e2 (by rw[z];rfl)) (go (ret1 (vz c1' (qgv ?_))))
   rw[c2,decide_eq_false (by omega)]
   rfl
 ·have c1':(tst (d2 gtD (dv 2) (ret (.int 11))):M Bool) Z=.ok (true,Z):=by rw[c1,decide_eq_true (by omega)]
  rw[go (ret1 (qgv c1'))]
  cases ww w with
  |none=>rfl
  |some d=>exact(if_neg h11).symm
theorem qiG (T:OD):∀(ws:List Str)(p:Nat)(acc:List D)(o2 o3 o4 o5:OD),(∀w∈ws,asc w/\w.length<=640)->acc.length=p->p<=12 ->
  match qbo ws p acc with
   |.inl q=>∃Z',zL (qaq 2 (zp (qz 2) (zp (qz 3) qap))) (qt (qY 4 (qA qO (dv 3) %[ret (.str "*")|0])) (qt (qY 5 (qA qO (d2 ixB (dv 4) (ret (.int 0))) %[ret (.str "/")|0])) (qt (sif (tor (tst (d2 gtD (dv 2) (ret (.int 11)))) (tor (tst (d2 neB (qs jW %[dv 4|0]) (ret (.int 2)))) (tor (tst (d2 neB (qs jW %[dv 5|0]) (ret (.int 2)))) (tst (d2 inB (qf qc %[d2 ixB (dv 5) (ret (.int 0))|0]) (z8 %[ret .non,ret (.int 0)|0])))))) (qZ (dv 2)) zo) (qt (sif (tor (tst (d2 isN (qf qc %[d2 ixB (dv 5) (ret (.int 1))|0]) (ret .non))) (ub (tst (d2 neB (d2 ixB (dv 4) (ret (.int 1))) (ret (.str "")))) (tst (d2 isN (qf qc %[d2 ixB (dv 4) (ret (.int 1))|0]) (ret .non))))) (qZ (dv 2)) zo) (zt (qB 1 (z8 %[qf qc %[d2 ixB (dv 5) (ret (.int 0))|0],qf qc %[d2 ixB (dv 5) (ret (.int 1))|0],qf qc %[d2 ixB (dv 4) (ret (.int 1))|0]|0]))))))) (jt p (ws.map D.str)) [T,some (.lst acc),o2,o3,o4,o5]=.ok (.rt (.int (q:Nat)) Z')
   |.inr ds=>∃q2 q3 q4 q5,zL (qaq 2 (zp (qz 2) (zp (qz 3) qap))) (qt (qY 4 (qA qO (dv 3) %[ret (.str "*")|0])) (qt (qY 5 (qA qO (d2 ixB (dv 4) (ret (.int 0))) %[ret (.str "/")|0])) (qt (sif (tor (tst (d2 gtD (dv 2) (ret (.int 11)))) (tor (tst (d2 neB (qs jW %[dv 4|0]) (ret (.int 2)))) (tor (tst (d2 neB (qs jW %[dv 5|0]) (ret (.int 2)))) (tst (d2 inB (qf qc %[d2 ixB (dv 5) (ret (.int 0))|0]) (z8 %[ret .non,ret (.int 0)|0])))))) (qZ (dv 2)) zo) (qt (sif (tor (tst (d2 isN (qf qc %[d2 ixB (dv 5) (ret (.int 1))|0]) (ret .non))) (ub (tst (d2 neB (d2 ixB (dv 4) (ret (.int 1))) (ret (.str "")))) (tst (d2 isN (qf qc %[d2 ixB (dv 4) (ret (.int 1))|0]) (ret .non))))) (qZ (dv 2)) zo) (zt (qB 1 (z8 %[qf qc %[d2 ixB (dv 5) (ret (.int 0))|0],qf qc %[d2 ixB (dv 5) (ret (.int 1))|0],qf qc %[d2 ixB (dv 4) (ret (.int 1))|0]|0]))))))) (jt p (ws.map D.str)) [T,some (.lst acc),o2,o3,o4,o5]=.ok (.nx [T,some (.lst ds),q2,q3,q4,q5])
 | [],p,acc,o2,o3,o4,o5,_,_,_=>⟨o2,o3,o4,o5,rfl⟩
 | w :: ws,p,acc,o2,o3,o4,o5,h,ha,hp=>by
  obtain⟨hw,hl⟩:=h w mS_
  obtain⟨q4,q5,x⟩:=qhJ T hw hl p acc (by omega) o4 o5
  have stop:∀{Z':Env},(qt (qY 4 (qA qO (dv 3) %[ret (.str "*")|0])) (qt (qY 5 (qA qO (d2 ixB (dv 4) (ret (.int 0))) %[ret (.str "/")|0])) (qt (sif (tor (tst (d2 gtD (dv 2) (ret (.int 11)))) (tor (tst (d2 neB (qs jW %[dv 4|0]) (ret (.int 2)))) (tor (tst (d2 neB (qs jW %[dv 5|0]) (ret (.int 2)))) (tst (d2 inB (qf qc %[d2 ixB (dv 5) (ret (.int 0))|0]) (z8 %[ret .non,ret (.int 0)|0])))))) (qZ (dv 2)) zo) (qt (sif (tor (tst (d2 isN (qf qc %[d2 ixB (dv 5) (ret (.int 1))|0]) (ret .non))) (ub (tst (d2 neB (d2 ixB (dv 4) (ret (.int 1))) (ret (.str "")))) (tst (d2 isN (qf qc %[d2 ixB (dv 4) (ret (.int 1))|0]) (ret .non))))) (qZ (dv 2)) zo) (zt (qB 1 (z8 %[qf qc %[d2 ixB (dv 5) (ret (.int 0))|0],qf qc %[d2 ixB (dv 5) (ret (.int 1))|0],qf qc %[d2 ixB (dv 4) (ret (.int 1))|0]|0]))))))) [T,some (.lst acc),some (.int (p:Nat)),some (.str w),o4,o5]=.ok (.rt (.int (p:Nat)) Z')->zL (qaq 2 (zp (qz 2) (zp (qz 3) qap))) (qt (qY 4 (qA qO (dv 3) %[ret (.str "*")|0])) (qt (qY 5 (qA qO (d2 ixB (dv 4) (ret (.int 0))) %[ret (.str "/")|0])) (qt (sif (tor (tst (d2 gtD (dv 2) (ret (.int 11)))) (tor (tst (d2 neB (qs jW %[dv 4|0]) (ret (.int 2)))) (tor (tst (d2 neB (qs jW %[dv 5|0]) (ret (.int 2)))) (tst (d2 inB (qf qc %[d2 ixB (dv 5) (ret (.int 0))|0]) (z8 %[ret .non,ret (.int 0)|0])))))) (qZ (dv 2)) zo) (qt (sif (tor (tst (d2 isN (qf qc %[d2 ixB (dv 5) (ret (.int 1))|0]) (ret .non))) (ub (tst (d2 neB (d2 ixB (dv 4) (ret (.int 1))) (ret (.str "")))) (tst (d2 isN (qf qc %[d2 ixB (dv 4) (ret (.int 1))|0]) (ret .non))))) (qZ (dv 2)) zo) (zt (qB 1 (z8 %[qf qc %[d2 ixB (dv 5) (ret (.int 0))|0],qf qc %[d2 ixB (dv 5) (ret (.int 1))|0],qf qc %[d2 ixB (dv 4) (ret (.int 1))|0]|0]))))))) (jt p ((w::ws).map D.str)) [T,some (.lst acc),o2,o3,o4,o5]=.ok (.rt (.int (p:Nat)) Z'):=λ{Z'} e=>by
   show zL _ _ (D.tup [.int (p:Nat),.str w]::jt (p+1) (ws.map D.str)) _=_
   unfold zL
   show (match (qt (qY 4 (qA qO (dv 3) %[ret (.str "*")|0])) (qt (qY 5 (qA qO (d2 ixB (dv 4) (ret (.int 0))) %[ret (.str "/")|0])) (qt (sif (tor (tst (d2 gtD (dv 2) (ret (.int 11)))) (tor (tst (d2 neB (qs jW %[dv 4|0]) (ret (.int 2)))) (tor (tst (d2 neB (qs jW %[dv 5|0]) (ret (.int 2)))) (tst (d2 inB (qf qc %[d2 ixB (dv 5) (ret (.int 0))|0]) (z8 %[ret .non,ret (.int 0)|0])))))) (qZ (dv 2)) zo) (qt (sif (tor (tst (d2 isN (qf qc %[d2 ixB (dv 5) (ret (.int 1))|0]) (ret .non))) (ub (tst (d2 neB (d2 ixB (dv 4) (ret (.int 1))) (ret (.str "")))) (tst (d2 isN (qf qc %[d2 ixB (dv 4) (ret (.int 1))|0]) (ret .non))))) (qZ (dv 2)) zo) (zt (qB 1 (z8 %[qf qc %[d2 ixB (dv 5) (ret (.int 0))|0],qf qc %[d2 ixB (dv 5) (ret (.int 1))|0],qf qc %[d2 ixB (dv 4) (ret (.int 1))|0]|0]))))))) [T,some (.lst acc),some (.int (p:Nat)),some (.str w),o4,o5] with
    |.ok (.nx Z2)=>zL _ _ _ Z2
    |.ok (.ct Z2)=>zL _ _ _ Z2
    |.ok (.bk Z2) => .ok (.nx Z2)
    |.ok (.rt r Z2) => .ok (.rt r Z2)
    |.exc x Z2 => .exc x Z2
    |.bad => .bad)=_
   rw[e]
  show match (match ww w with|some d=>if p<=11 then qbo ws (p+1) (acc++[d])else .inl p|none => .inl p) with
   |.inl q=>_
   |.inr ds=>_
  cases e:ww w with
  |none=>
   rw[e]at x
   exact⟨_,stop x⟩
  | some d=>
   rw[e]at x
   by_cases h11:p<=11
   ·have x':(qt (qY 4 (qA qO (dv 3) %[ret (.str "*")|0])) (qt (qY 5 (qA qO (d2 ixB (dv 4) (ret (.int 0))) %[ret (.str "/")|0])) (qt (sif (tor (tst (d2 gtD (dv 2) (ret (.int 11)))) (tor (tst (d2 neB (qs jW %[dv 4|0]) (ret (.int 2)))) (tor (tst (d2 neB (qs jW %[dv 5|0]) (ret (.int 2)))) (tst (d2 inB (qf qc %[d2 ixB (dv 5) (ret (.int 0))|0]) (z8 %[ret .non,ret (.int 0)|0])))))) (qZ (dv 2)) zo) (qt (sif (tor (tst (d2 isN (qf qc %[d2 ixB (dv 5) (ret (.int 1))|0]) (ret .non))) (ub (tst (d2 neB (d2 ixB (dv 4) (ret (.int 1))) (ret (.str "")))) (tst (d2 isN (qf qc %[d2 ixB (dv 4) (ret (.int 1))|0]) (ret .non))))) (qZ (dv 2)) zo) (zt (qB 1 (z8 %[qf qc %[d2 ixB (dv 5) (ret (.int 0))|0],qf qc %[d2 ixB (dv 5) (ret (.int 1))|0],qf qc %[d2 ixB (dv 4) (ret (.int 1))|0]|0]))))))) [T,some (.lst acc),some (.int (p:Nat)),some (.str w),o4,o5]=.ok (.nx [T,some (.lst (acc++[d])),some (.int (p:Nat)),some (.str w),q4,q5]):=x.trans (if_pos h11)
    have r:=qiG T ws (p+1) (acc++[d]) (some (.int (p:Nat))) (some (.str w)) q4 q5 (λy hy=>h y (mM _ hy)) (by rw[lA_,yaC,ha]) (by omega)
    have step:zL (qaq 2 (zp (qz 2) (zp (qz 3) qap))) (qt (qY 4 (qA qO (dv 3) %[ret (.str "*")|0])) (qt (qY 5 (qA qO (d2 ixB (dv 4) (ret (.int 0))) %[ret (.str "/")|0])) (qt (sif (tor (tst (d2 gtD (dv 2) (ret (.int 11)))) (tor (tst (d2 neB (qs jW %[dv 4|0]) (ret (.int 2)))) (tor (tst (d2 neB (qs jW %[dv 5|0]) (ret (.int 2)))) (tst (d2 inB (qf qc %[d2 ixB (dv 5) (ret (.int 0))|0]) (z8 %[ret .non,ret (.int 0)|0])))))) (qZ (dv 2)) zo) (qt (sif (tor (tst (d2 isN (qf qc %[d2 ixB (dv 5) (ret (.int 1))|0]) (ret .non))) (ub (tst (d2 neB (d2 ixB (dv 4) (ret (.int 1))) (ret (.str "")))) (tst (d2 isN (qf qc %[d2 ixB (dv 4) (ret (.int 1))|0]) (ret .non))))) (qZ (dv 2)) zo) (zt (qB 1 (z8 %[qf qc %[d2 ixB (dv 5) (ret (.int 0))|0],qf qc %[d2 ixB (dv 5) (ret (.int 1))|0],qf qc %[d2 ixB (dv 4) (ret (.int 1))|0]|0]))))))) (jt p ((w::ws).map D.str)) [T,some (.lst acc),o2,o3,o4,o5]=zL (qaq 2 (zp (qz 2) (zp (qz 3) qap))) (qt (qY 4 (qA qO (dv 3) %[ret (.str "*")|0])) (qt (qY 5 (qA qO (d2 ixB (dv 4) (ret (.int 0))) %[ret (.str "/")|0])) (qt (sif (tor (tst (d2 gtD (dv 2) (ret (.int 11)))) (tor (tst (d2 neB (qs jW %[dv 4|0]) (ret (.int 2)))) (tor (tst (d2 neB (qs jW %[dv 5|0]) (ret (.int 2)))) (tst (d2 inB (qf qc %[d2 ixB (dv 5) (ret (.int 0))|0]) (z8 %[ret .non,ret (.int 0)|0])))))) (qZ (dv 2)) zo) (qt (sif (tor (tst (d2 isN (qf qc %[d2 ixB (dv 5) (ret (.int 1))|0]) (ret .non))) (ub (tst (d2 neB (d2 ixB (dv 4) (ret (.int 1))) (ret (.str "")))) (tst (d2 isN (qf qc %[d2 ixB (dv 4) (ret (.int 1))|0]) (ret .non))))) (qZ (dv 2)) zo) (zt (qB 1 (z8 %[qf qc %[d2 ixB (dv 5) (ret (.int 0))|0],qf qc %[d2 ixB (dv 5) (ret (.int 1))|0],qf qc %[d2 ixB (dv 4) (ret (.int 1))|0]|0]))))))) (jt (p+1) (ws.map D.str)) [T,some (.lst (acc++[d])),some (.int (p:Nat)),some (.str w),q4,q5]:=by
     show zL _ _ (D.tup [.int (p:Nat),.str w]::jt (p+1) (ws.map D.str)) _=_
     exact vx rfl x'
    dsimp only
    rw[if_pos h11,step]
    exact r
   ·have x':=x.trans (if_neg h11)
    dsimp only
    rw[if_neg h11]
    exact⟨_,stop x'⟩
theorem qcO {t:Str} (ha:asc t) (hl:t.length<=640):zH [.str t]=.ok (qmy (qiD t)):=by
 let X:OD:=some (.str t)
 unfold zH qiD
 have es:=uB (t:=t) qhF hl
 cases h:t==("":Str) with
 |true=>
  obtain rfl:t=("":Str):=beq_iff_eq.mp h
  kernel_rfl
 | false=>
  have em:d2 wv (qA qO (dv 0) %[ret (.str " ")|0]) (qs wW %[d2 neB (dv 0) (ret (.str ""))|0]) [X,some (.lst []),none,none,none,none]=.ok (.lst ((Txt.split t ⟨#[32]⟩).map D.str),[X,some (.lst []),none,none,none,none]):=by
   have i1:qs wW %[d2 neB (dv 0) (ret (.str ""))|0] [X,some (.lst []),none,none,none,none]=.ok (.int 1,[X,some (.lst []),none,none,none,none]):=by
    refine j7 (a:=.bl true) (qr (a:=.str t) rfl rfl ?_) rfl
    show some (D.bl (!(t==("":Str))))=_
    rw[h]
    rfl
   refine qr (z7 rfl (yO rfl) es) i1 ?_
   have:=(zC t 32).1
   show(if(decide (-(2 ^ 62:Int)<=1)&&decide ((1:Int)<2 ^ 62))&&qT (((Txt.split t ⟨#[32]⟩).map D.str).length*1)then some (D.lst (yan 1 ((Txt.split t ⟨#[32]⟩).map D.str)).flatten)else none)=_
   rw[zM (by rw[lM_];omega)]
   simp
  have r:=qiG X (Txt.split t ⟨#[32]⟩) 0 [] none none none none (λw hw=>⟨uC ha 32 w hw,by have:=(zC t 32).2 w hw;omega⟩) rfl (by omega)
  have ef:(qay (vn %[d2 wv (qA qO (dv 0) %[ret (.str " ")|0]) (qs wW %[d2 neB (dv 0) (ret (.str ""))|0])|0]) (qaq 2 (zp (qz 2) (zp (qz 3) qap))) (qt (qY 4 (qA qO (dv 3) %[ret (.str "*")|0])) (qt (qY 5 (qA qO (d2 ixB (dv 4) (ret (.int 0))) %[ret (.str "/")|0])) (qt (sif (tor (tst (d2 gtD (dv 2) (ret (.int 11)))) (tor (tst (d2 neB (qs jW %[dv 4|0]) (ret (.int 2)))) (tor (tst (d2 neB (qs jW %[dv 5|0]) (ret (.int 2)))) (tst (d2 inB (qf qc %[d2 ixB (dv 5) (ret (.int 0))|0]) (z8 %[ret .non,ret (.int 0)|0])))))) (qZ (dv 2)) zo) (qt (sif (tor (tst (d2 isN (qf qc %[d2 ixB (dv 5) (ret (.int 1))|0]) (ret .non))) (ub (tst (d2 neB (d2 ixB (dv 4) (ret (.int 1))) (ret (.str "")))) (tst (d2 isN (qf qc %[d2 ixB (dv 4) (ret (.int 1))|0]) (ret .non))))) (qZ (dv 2)) zo) (zt (qB 1 (z8 %[qf qc %[d2 ixB (dv 5) (ret (.int 0))|0],qf qc %[d2 ixB (dv 5) (ret (.int 1))|0],qf qc %[d2 ixB (dv 4) (ret (.int 1))|0]|0])))))))) [X,some (.lst []),none,none,none,none]=zL (qaq 2 (zp (qz 2) (zp (qz 3) qap))) (qt (qY 4 (qA qO (dv 3) %[ret (.str "*")|0])) (qt (qY 5 (qA qO (d2 ixB (dv 4) (ret (.int 0))) %[ret (.str "/")|0])) (qt (sif (tor (tst (d2 gtD (dv 2) (ret (.int 11)))) (tor (tst (d2 neB (qs jW %[dv 4|0]) (ret (.int 2)))) (tor (tst (d2 neB (qs jW %[dv 5|0]) (ret (.int 2)))) (tst (d2 inB (qf qc %[d2 ixB (dv 5) (ret (.int 0))|0]) (z8 %[ret .non,ret (.int 0)|0])))))) (qZ (dv 2)) zo) (qt (sif (tor (tst (d2 isN (qf qc %[d2 ixB (dv 5) (ret (.int 1))|0]) (ret .non))) (ub (tst (d2 neB (d2 ixB (dv 4) (ret (.int 1))) (ret (.str "")))) (tst (d2 isN (qf qc %[d2 ixB (dv 4) (ret (.int 1))|0]) (ret .non))))) (qZ (dv 2)) zo) (zt (qB 1 (z8 %[qf qc %[d2 ixB (dv 5) (ret (.int 0))|0],qf qc %[d2 ixB (dv 5) (ret (.int 1))|0],qf qc %[d2 ixB (dv 4) (ret (.int 1))|0]|0]))))))) (jt 0 ((Txt.split t ⟨#[32]⟩).map D.str)) [X,some (.lst []),none,none,none,none]:=by rw[uV,qmx em]
  show dfn 6 1 yr [.str t]=.ok (qmy (qbo (Txt.split t ⟨#[32]⟩) 0 []))
  cases eo:qbo (Txt.split t ⟨#[32]⟩) 0 [] with
  |inl q=>
   rw[eo]at r
   obtain⟨Z',e⟩:=r
   refine qbb rfl ⟨Z',?_⟩
   unfold yr
   exact(qp (Z':=[X,some (.lst []),none,none,none,none]) rfl).trans (j6 (ef.trans e))
  |inr ds=>
   rw[eo]at r
   obtain⟨q2,q3,q4,q5,e⟩:=r
   refine qbb rfl ⟨[X,some (.lst ds),q2,q3,q4,q5],?_⟩
   unfold yr
   exact(qp (Z':=[X,some (.lst []),none,none,none,none]) rfl).trans ((qp (ef.trans e)).trans rfl)
theorem qgf {d:D} (h:wX (tyD d) "str"=false):qv [d]=.ok (.int 0):=by
 let Z:Env:=[some d,none,none,none,none]
 have t:(tst (qbG "str" (dv 0)):M Bool) Z=.ok (false,Z):=by
  refine ze ?_
  rw[qdi]
  show R.ok (D.bl (wX (tyD d) "str"),Z)=_
  rw[h]
 refine qiE (q:=0) (Z1:=Z) ?_
 unfold ug
 refine qin rfl ?_
 unfold vy
 exact qfN ((qev (qkt t)).trans rfl)
theorem qoD(S:OD):(sif (tor (tst (d2 neB (qf qv %[qA vt (ret (.str " ")) %[d2 wv (jg %[ret (.str "1/1*")|0]) (ret (.int 13))|0]|0]) (ret (.int 12)))) (tor (tst (d2 neB (qf qv %[ret (.str " ")|0]) (ret (.int 0)))) (tst (d2 neB (ue uX %[z8 (ret [])|0]) (ret (.str "")))))) (qZ (ret (.bl false))) zo) [S,none,none,none,none,none,none,none,none,none,none]=.ok (.nx [S,none,none,none,none,none,none,none,none,none,none]):=by kernel_rfl
theorem qcP {α β:Type} {f g:α->β} {l:List α} (h:l.map f=l.map g):∀x∈l,f x=g x:=λx hx=>by
 obtain⟨i,hi⟩:=List.mem_iff_getElem?.mp hx
 have:=congrArg (λl=>l[i]?) h
 simpa [hi] using this
def fgS (n:Nat):Str:=match vP [.int (n:Nat)] with
 |some (.str s)=>s
 |_=>""
theorem qnD:(ya2 40).map (λi=>yR [.int (i:Nat)])=(ya2 40).map (λi => .ok (.str (fgS i))):=by kernel_rfl
theorem qnE:(ya2 40).map (λi=>vP [.int (i:Nat)])=(ya2 40).map (λi=>some (.str (fgS i))):=by kernel_rfl
theorem qnF:(ya2 40).all (λi=>decide ((fgS i).length<=2)&&(fgS i).cps.toList.all λc=>decide (c<128))=true:=by kernel_rfl
theorem yA {n:Nat} (h:n<40):yR [.int (n:Nat)]=.ok (.str (fgS n))/\vP [.int (n:Nat)]=some (.str (fgS n))/\(fgS n).length<=2/\asc (fgS n):=by
 have hm:n∈ya2 40:=by simpa using h
 have l:=List.all_eq_true.mp qnF n hm
 simp only[yad,decide_eq_true_eq]at l
 exact⟨qcP qnD n hm,qcP qnE n hm,l.1,λc hc=>of_decide_eq_true (List.all_eq_true.mp l.2 c hc)⟩
def mtW:Option Nat->Str
 |none=>""
 |some j=>fgS j
def wdW(a b:Nat)(m:Option Nat):Str:=fgS a++"/"++fgS b++"*"++mtW m
def kdW(a b:Nat)(m:Option Nat):D:=.tup [.int (a:Nat),.int (b:Nat),match m with|none => .non|some j => .int (j:Nat)]
theorem qmA {k:D} (h:zF k):∃a b m,k=kdW a b m/\1<=a/\a<40/\b<40/\∀j,m=some j->j<40:=by
 obtain⟨a,b,m,rfl,h1,h2,h3,h4,hm⟩:=h
 have ea:a=((a.toNat:Nat):Int):=by omega
 have eb:b=((b.toNat:Nat):Int):=by omega
 rcases hm with rfl|⟨j,rfl,h5,h6⟩
 ·exact⟨a.toNat,b.toNat,none,by unfold kdW;rw[<-ea,<-eb],by omega,by omega,by omega,λj z=>by cases z⟩
 ·have ej:j=((j.toNat:Nat):Int):=by omega
  exact⟨a.toNat,b.toNat,some j.toNat,by unfold kdW;dsimp only;rw[<-ea,<-eb,<-ej],by omega,by omega,by omega,λi z=>by cases z;omega⟩
theorem qiH {x y:Str} (h:x.length+y.length<=1000000):qP (.str x) (.str y)=some (.str (x++y)):=by
 show(if qT (x.length+y.length)then some (D.str (x++y))else none)=_
 rw[if_pos (zM h)]
theorem y7 (x y:Str):(x++y).length=x.length+y.length:=by
 show(x.cps++y.cps).size=x.cps.size+y.cps.size
 exact Array.size_append
theorem qgg:("/":Str).length=1:=by kernel_rfl
theorem qiI:("*":Str).length=1:=by kernel_rfl
theorem qgh {m:Option Nat} (h:∀j,m=some j->j<40):(mtW m).length<=2/\asc (mtW m):=by
 cases m with
 |none=>exact⟨yaN _,λc hc=>by cases hc⟩
 |some j=>exact⟨(yA (h j rfl)).2.2.1,(yA (h j rfl)).2.2.2⟩
section
variable{a b:Nat}{m:Option Nat}(ha:a<40)(hb:b<40)(hm:∀j,m=some j->j<40)
include ha hb hm
theorem qkv:(wdW a b m).length<=8:=by
 have:=(yA ha).2.2.1
 have:=(yA hb).2.2.1
 have:=(qgh hm).1
 unfold wdW
 simp only[y7,qgg,qiI]
 omega
theorem qn6 {f1 f2 f3 f4 f5:M D} {Z:Env} (e1:f1 Z=.ok (.str (fgS a),Z)) (e2:f2 Z=.ok (.str "/",Z)) (e3:f3 Z=.ok (.str (fgS b),Z)) (e4:f4 Z=.ok (.str "*",Z)) (e5:f5 Z=.ok (.str (mtW m),Z)) :
  d2 qP (d2 qP (d2 qP (d2 qP f1 f2) f3) f4) f5 Z=.ok (.str (wdW a b m),Z):=by
 have l1:=(yA ha).2.2.1
 have l2:=(yA hb).2.2.1
 have l3:=(qgh hm).1
 refine qr (qr (qr (qr e1 e2 (qiH (by rw[qgg];omega))) e3 (qiH ?_)) e4 (qiH ?_)) e5 (qiH ?_)<;>simp only[y7,qgg,qiI]<;>omega
theorem qkw:yt [kdW a b m]=.ok (.str (wdW a b m)):=by
 let Z:Env:=[some (kdW a b m),some (.str (mtW m))]
 unfold yt
 refine qbb rfl ⟨Z,?_⟩
 unfold u9
 refine(qp (Z':=Z) ?_).trans (v9 (qn6 ha hb hm (zY (qr (a:=kdW a b m) rfl rfl rfl) (yA ha).1) rfl (zY (qr (a:=kdW a b m) rfl rfl rfl) (yA hb).1) rfl rfl))
 refine jp (Z1:=[some (kdW a b m),none]) (d:=.str (mtW m)) ?_
 cases m with
 |none=>rfl
 |some j=>
  rw[qd5,ze (b:=false) (qr (qr (a:=kdW a b (some j)) rfl rfl rfl) rfl rfl)]
  exact zY (qr (a:=kdW a b (some j)) rfl rfl rfl) (yA (hm j rfl)).1
end
abbrev N3:=Nat×Nat×Option Nat
def kT(x:N3):D:=kdW x.1 x.2.1 x.2.2
def wT(x:N3):Str:=wdW x.1 x.2.1 x.2.2
def gN3(x:N3):Prop:=1<=x.1/\x.1<40/\x.2.1<40/\∀j,x.2.2=some j->j<40
theorem qgi{x:N3}(h:gN3 x):(wT x).length<=8:=qkv h.2.1 h.2.2.1 h.2.2.2
theorem qcQ {z:Str} {n:Nat}:∀(ws:List Str)(a:Nat),(∀w∈ws,w.length+z.length<=n)->ws.foldl (λs w=>s+w.length+z.length) a<=a+ws.length*n
 | [],a,_=>by simp
 |w::ws,a,h=>by
  have h1:=h w mS_
  have h2:=qcQ ws (a+w.length+z.length) λx hx=>h x (mM _ hx)
  rw[ydZ,lC_,yc0]
  omega
theorem qhK {xs:List N3} (hx:∀x∈xs,gN3 x) (hl:xs.length<=12):yb1 (" ":Str) (xs.map wT)=true:=by
 unfold yb1
 have e:(" ":Str).length=1:=by rw[qhF];rfl
 have h:=qcQ (z:=(" ":Str)) (n:=9) (xs.map wT) 0 (λw hw=>by
  obtain⟨x,hm,rfl⟩:=mP_.mp hw
  have:=qgi (hx x hm)
  omega)
 rw[lM_]at h
 rw[<-yfb]
 show(!yc6 ((xs.map wT).foldl (λs w=>s+w.length+(" ":Str).length) 0))=true
 rw[yaT]
 show decide (_>yap)=false
 rw[decide_eq_false_iff_not,ybh]
 omega
theorem qmB {xs:List N3} (hx:∀x∈xs,gN3 x) (hl:xs.length<=12):vt (.str (" ":Str)) [.lst ((xs.map wT).map D.str)]=some (.str (Txt.join (" ":Str) (xs.map wT))):=by
 show(match vq ((xs.map wT).map D.str) with|some ws=>(if yb1 (" ":Str) ws then some (D.str (Txt.join (" ":Str) ws))else none)|none=>none)=_
 rw[qae]
 show(if yb1 (" ":Str) (xs.map wT)then some (D.str (Txt.join (" ":Str) (xs.map wT)))else none)=_
 rw[if_pos (qhK hx hl)]
theorem qmC {xs:List N3} (hx:∀x∈xs,gN3 x) (hl:xs.length<=12) (hs:vS (.tup (xs.map kT))=true):uX [.tup (xs.map kT)]=.ok (.str (Txt.join (" ":Str) (xs.map wT))):=by
 let Z:Env:=[some (.tup (xs.map kT))]
 unfold uX
 refine qjJ rfl ⟨Z,?_⟩
 unfold qdE
 have q:=qiu (e:=qf yt %[dv 0|0]) (xs:=qbn (dv 0)) (fr:=[]) (Z:=Z) (r:=[]) (k:=kT) xs (λx=>D.str (wT x)) rfl rfl (by omega) (λx hm=>zY rfl (qkw (hx x hm).2.1 (hx x hm).2.2.1 (hx x hm).2.2.2))
 have e:(xs.map λx=>D.str (wT x))=(xs.map wT).map D.str:=by rw[List.map_map];rfl
 rw[e]at q
 exact(qp (Z':=Z) (qkl (qdJ (a:=.tup (xs.map kT)) rfl (qbf _ hs)))).trans (v9 (z7 rfl (yO q) (qmB hx hl)))
theorem yH {x y:Str} (hx:asc x) (hy:asc y):asc (x++y):=λc hc=>by
 have e:(x++y).cps.toList=x.cps.toList++y.cps.toList:=by
  show(x.cps++y.cps).toList=_
  exact ycn
 rw[e]at hc
 rcases mA_.mp hc with z|z
 ·exact hx c z
 ·exact hy c z
theorem qmD:asc ("/":Str):=by
 rw[qmu]
 intro c hc
 have:c=47:=by simpa using hc
 omega
theorem qmE:asc ("*":Str):=by
 rw[qmv]
 intro c hc
 have:c=42:=by simpa using hc
 omega
theorem qdL:asc (" ":Str):=by
 rw[qhF]
 intro c hc
 have:c=32:=by simpa using hc
 omega
theorem qbi {z:Str} (hz:asc z):∀ws:List Str,(∀w∈ws,asc w)->asc (ybf z ws)
 | [],_=>λc hc=>by cases hc
 | [a],h=>h a mS_
 |a::b::r,h=>yH (yH (h a mS_) hz) (qbi hz (b::r) λw hw=>h w (mM _ hw))
theorem qiJ{x:N3}(h:gN3 x):asc (wT x):=yH (yH (yH (yH (yA h.2.1).2.2.2 qmD) (yA h.2.2.1).2.2.2) qmE) (qgh h.2.2.2).2
theorem qkx {xs:List N3} (hx:∀x∈xs,gN3 x):asc (Txt.join (" ":Str) (xs.map wT)):=by
 rw[uO]
 refine qbi qdL _ λw hw=>?_
 obtain⟨x,hm,rfl⟩:=mP_.mp hw
 exact qiJ (hx x hm)
theorem qdM {S K B X o8 o9 o10:OD}:∀(xs acc:List N3)(o5 o6 o7:OD),(∀x∈xs,gN3 x)->acc.length+xs.length<=12 ->
  ∃q5 q6 q7,zL (qaq 3 (zp (qz 5) (zp (qz 6) (zp (qz 7) qap)))) (zt (qB 4 (d2 qP (d2 qP (d2 qP (d2 qP (qs vP %[dv 5|0]) (ret (.str "/"))) (qs vP %[dv 6|0])) (ret (.str "*"))) (dif (tst (d2 isN (dv 7) (ret .non))) (ret (.str "")) (qs vP %[dv 7|0]))))) (xs.map kT) [S,K,B,X,some (.lst ((acc.map wT).map D.str)),o5,o6,o7,o8,o9,o10]=.ok (.nx [S,K,B,X,some (.lst (((acc++xs).map wT).map D.str)),q5,q6,q7,o8,o9,o10])
 | [],acc,o5,o6,o7,_,_=>⟨o5,o6,o7,by rw[ya4];rfl⟩
 | x :: xs,acc,o5,o6,o7,h,hl=>by
  rw[lC_]at hl
  obtain⟨h1,h2,h3,h4⟩:=h x mS_
  let Mo:D:=match x.2.2 with|none => .non|some j => .int (j:Nat)
  let Z:Env:=[S,K,B,X,some (.lst ((acc.map wT).map D.str)),some (.int (x.1:Nat)),some (.int (x.2.1:Nat)),some Mo,o8,o9,o10]
  obtain⟨q5,q6,q7,q⟩:=qdM (S:=S) (K:=K) (B:=B) (X:=X) (o8:=o8) (o9:=o9) (o10:=o10) xs (acc++[x]) (some (.int (x.1:Nat))) (some (.int (x.2.1:Nat))) (some Mo) (λy hy=>h y (mM _ hy)) (by rw[lA_,yaC];omega)
  refine⟨q5,q6,q7,?_⟩
  have em:dif (tst (d2 isN (dv 7) (ret .non))) (ret (.str "")) (qs vP %[dv 7|0]) Z=.ok (.str (mtW x.2.2),Z):=by
   have t:(tst (d2 isN (dv 7) (ret .non)):M Bool) Z=.ok (jZ Mo,Z):=ze (qr (a:=Mo) rfl rfl rfl)
   rw[qd5,t]
   cases e:x.2.2 with
   |none=>
    have:jZ Mo=true:=by show jZ (match x.2.2 with|none => .non|some j => .int (j:Nat))=true;rw[e];rfl
    rw[this];rfl
   |some j=>
    have eM:Mo=.int (j:Nat):=by show(match x.2.2 with|none=>D.non|some j => .int (j:Nat))=_;rw[e]
    rw[show jZ Mo=false by rw[eM];rfl]
    exact j7 (a:=.int (j:Nat)) (by show R.ok (Mo,Z)=_;rw[eM]) (yA (h4 j e)).2.1
  have w:d2 qP (d2 qP (d2 qP (d2 qP (qs vP %[dv 5|0]) (ret (.str "/"))) (qs vP %[dv 6|0])) (ret (.str "*"))) (dif (tst (d2 isN (dv 7) (ret .non))) (ret (.str "")) (qs vP %[dv 7|0])) Z=.ok (.str (wT x),Z) :=
   qn6 h2 h3 h4 (j7 (a:=.int (x.1:Nat)) rfl (yA h2).2.1) rfl (j7 (a:=.int (x.2.1:Nat)) rfl (yA h3).2.1) rfl em
  have b:(zt (qB 4 (d2 qP (d2 qP (d2 qP (d2 qP (qs vP %[dv 5|0]) (ret (.str "/"))) (qs vP %[dv 6|0])) (ret (.str "*"))) (dif (tst (d2 isN (dv 7) (ret .non))) (ret (.str "")) (qs vP %[dv 7|0]))))) Z=.ok (.nx [S,K,B,X,some (.lst (((acc++[x]).map wT).map D.str)),some (.int (x.1:Nat)),some (.int (x.2.1:Nat)),some Mo,o8,o9,o10]):=by
   rw[qah (ds:=(acc.map wT).map D.str) (d:=.str (wT x)) rfl w rfl (by simp;omega),yd4,yd4]
   rfl
  rw[mC_]
  exact(vx rfl b).trans (by rw[q,aA_];rfl)
theorem qmF {x:N3} (h:gN3 x):uf (kT x)=true:=by
 obtain⟨a,b,m⟩:=x
 have h1:qb6 (.int ((a:Nat):Int))=true:=decide_eq_true (p:=(0:Int)<((a:Nat):Int)) (by have:1<=a:=h.1;omega)
 have h2:jo (.int ((b:Nat):Int))=true:=decide_eq_true (p:=(0:Int)<=((b:Nat):Int)) (yfc b)
 cases m with
 |none=>
  show(qb6 (.int ((a:Nat):Int))&&jo (.int ((b:Nat):Int))&&(jZ .non||jo .non))=true
  rw[h1,h2]
  rfl
 |some j=>
  have h3:jo (.int ((j:Nat):Int))=true:=decide_eq_true (p:=(0:Int)<=((j:Nat):Int)) (yfc j)
  show(qb6 (.int ((a:Nat):Int))&&jo (.int ((b:Nat):Int))&&(jZ (.int ((j:Nat):Int))||jo (.int ((j:Nat):Int))))=true
  rw[h1,h2,h3]
  rfl
theorem qky {xs:List N3} (hx:∀x∈xs,gN3 x) (hl:xs.length<=12):vS (.tup (xs.map kT))=true:=by
 show(decide ((xs.map kT).length<=12)&&(xs.map kT).all uf)=true
 rw[lM_,decide_eq_true hl,ybS,List.all_eq_true]
 intro k hk
 obtain⟨x,hm,rfl⟩:=mP_.mp hk
 exact qmF (hx x hm)
theorem qiK:∀{ks:List D},(∀k∈ks,zF k)->∃xs:List N3,ks=xs.map kT/\∀x∈xs,gN3 x
 | [],_=>⟨[],rfl,λx h=>by cases h⟩
 |k::ks,h=>by
  obtain⟨a,b,m,e,h1,h2,h3,h4⟩:=qmA (h k mS_)
  obtain⟨xs,e',h5⟩:=qiK λx hx=>h x (mM _ hx)
  refine⟨(a,b,m)::xs,by rw[e,e'];rfl,λx hx=>?_⟩
  rcases List.mem_cons.mp hx with rfl|hx
  ·exact⟨h1,h2,h3,h4⟩
  ·exact h5 x hx
theorem qnG (n:Int) {m:Nat} (h0:0<m) (h1:m<=1000000):∃(j:Nat)(n':Int),j<m/\qk [.int n] [.int (m:Nat)]=.ok (.int (j:Nat),[.int n']):=by
 have p:(0:Int)<((m:Nat):Int):=by omega
 have q0:=Int.emod_nonneg n (show((m:Nat):Int)≠0 by omega)
 have q1:=yfa n p
 refine⟨(n%(m:Nat)).toNat,n/(m:Nat),by omega,?_⟩
 rw[jE (n:=n) (m:=(m:Nat)) p (by omega),yeL q0]
theorem vY {n:Int} {m:Nat} {f:M D} {Z:Env} (hg:zW 0 Z=some [.int n]) (hf:f Z=.ok (.int (m:Nat),Z)) (h0:0<m) (h1:m<=1000000):∃(j:Nat)(n':Int),j<m/\qo qk 0 %[f|0] Z=.ok (.int (j:Nat),Z.set 0 (some (.lst [.int n']))):=by
 obtain⟨j,n',hj,e⟩:=qnG n h0 h1
 exact⟨j,n',hj,io1 hg hf e⟩
theorem qgj{F:D->D->OD}{f g:M D}{Z Z1:Env}{a b d:D}(hf:f Z=.ok (a,Z))(hg:g Z=.ok (b,Z1))(e:F a b=some d):d2 F f g Z=.ok (d,Z1):=by rw[qmS,hf];simp only[hg,e]
theorem qiL {f:M D} {g k:M (Option Int)} {Z:Env} {z:Str} {l u:Option Int} (hf:f Z=.ok (.str z,Z)) (hg:g Z=.ok (l,Z)) (hk:k Z=.ok (u,Z)) (hz:z.length<=1000000):qhi f g k Z=.ok (.str (Txt.slice z l u),Z):=by
 unfold qhi bnd
 rw[hf]
 dsimp only
 rw[hg]
 dsimp only
 rw[hk]
 dsimp only
 rw[zM hz]
 rfl
theorem qgk {f:M D} {g k:M (Option Int)} {Z:Env} {ds:List D} {l u:Option Int} (hf:f Z=.ok (.lst ds,Z)) (hg:g Z=.ok (l,Z)) (hk:k Z=.ok (u,Z)):uL f g k Z=.ok (.lst (qfa ds l u),Z):=by
 unfold uL bnd
 rw[hf]
 dsimp only
 rw[hg]
 dsimp only
 rw[hk]
 rfl
theorem qal {f:M D} {Z:Env} {i:Int} (hf:f Z=.ok (.int i,Z)):zu f Z=.ok (some i,Z):=by
 unfold zu bnd
 rw[hf]
 rfl
theorem qcd {x:Str} (h:asc x) (l u:Option Int):asc (Txt.slice x l u):=by
 unfold Txt.slice
 split
 ·exact h
 ·intro c hc
  rw[List.mem_filterMap]at hc
  obtain⟨i,_,e⟩:=hc
  exact h c (Array.mem_toList_iff.mpr (Array.mem_of_getElem? e))
def gW(w:Str):Prop:=asc w/\w.length<=8
def sgW (j:Nat):Str:=match ixB (.str "0123456789/* \na-+/*") (.int (j:Nat)) with
 |some (.str s)=>s
 |_=>""
theorem qoE:(ya2 19).map (λj=>ixB (.str "0123456789/* \na-+/*") (.int (j:Nat)))=(ya2 19).map (λj=>some (.str (sgW j))):=by kernel_rfl
theorem qnH:(ya2 19).all (λi=>decide ((sgW i).length<=8)&&(sgW i).cps.toList.all λc=>decide (c<128))=true:=by kernel_rfl
theorem qmG {j:Nat} (h:j<19):ixB (.str "0123456789/* \na-+/*") (.int (j:Nat))=some (.str (sgW j))/\gW (sgW j):=by
 have hm:j∈ya2 19:=by simpa using h
 have l:=List.all_eq_true.mp qnH j hm
 simp only[yad,decide_eq_true_eq]at l
 exact⟨qcP qoE j hm,λc hc=>of_decide_eq_true (List.all_eq_true.mp l.2 c hc),l.1⟩
def odW:List Str:=["","0/1*1","1/01*","1/1","1*1","/1*1","1/*1","1/1*1*1","1/1/1*","2/0*0"]
theorem odl:odW.all (λw=>decide (w.length<=8)&&w.cps.toList.all λc=>decide (c<128))=true:=by kernel_rfl
theorem qmH {j:Nat} (h:j<10):∃w,ixB (.lst (odW.map D.str)) (.int (j:Nat))=some (.str w)/\gW w:=by
 have hl:j<odW.length:=h
 refine⟨odW[j],qaK (gG hl),?_⟩
 have l:=List.all_eq_true.mp odl _ (ycN hl)
 simp only[yad,decide_eq_true_eq]at l
 exact⟨λc hc=>of_decide_eq_true (List.all_eq_true.mp l.2 c hc),l.1⟩
theorem qnI {i j1 j2 a z:Nat} {u v:Str} {f:M D} {Z:Env} {L:List Str} (hf:f Z=.ok (.tup [.str u,.str v],Z)) (hg:zW i Z=some (L.map D.str)) (h1:Z[j1]? = some (some (.int (a:Nat)))) (h2:Z[j2]? = some (some (.int (z:Nat)))) (ha:a<L.length) (hz:z<L.length) :
  qef i j1 j2 f Z=.ok (.nx (Z.set i (some (.lst (((L.set a u).set z v).map D.str))))):=by
 have nn:∀{m q:Nat},q<m->ixN m ((q:Nat):Int)=some q:=λh=>by
  unfold ixN
  rw[if_pos (by omega),if_pos (by omega),ybo]
 have e1:ixN (L.map D.str).length ((a:Nat):Int)=some a:=nn (by rw[lM_];exact ha)
 have e2:ixN (L.map D.str).length ((z:Nat):Int)=some z:=nn (by rw[lM_];exact hz)
 unfold qef sbnd
 rw[hf]
 simp only[hg,h1,h2,e1,e2,imm,yaY,if_true]
 rw[List.map_set,List.map_set]
def GW(l:List Str):Prop:=l.length<=13/\∀w∈l,gW w
theorem GW.join {l:List Str} (h:GW l):vt (.str (" ":Str)) [.lst (l.map D.str)]=some (.str (Txt.join (" ":Str) l))/\asc (Txt.join (" ":Str) l)/\(Txt.join (" ":Str) l).length<=220:=by
 have e:(" ":Str).length=1:=by rw[qhF];rfl
 refine⟨?_,?_,?_⟩
 ·have ok:yb1 (" ":Str) l=true:=by
   unfold yb1
   have h':=qcQ (z:=(" ":Str)) (n:=9) l 0 (λw hw=>by
    have:=(h.2 w hw).2
    omega)
   have:=h.1
   rw[<-yfb]
   show(!yc6 (l.foldl (λs w=>s+w.length+(" ":Str).length) 0))=true
   rw[yaT]
   show decide (_>yap)=false
   rw[decide_eq_false_iff_not,ybh]
   omega
  show(match vq (l.map D.str) with|some ws=>(if yb1 (" ":Str) ws then some (D.str (Txt.join (" ":Str) ws))else none)|none=>none)=_
  rw[qae]
  show(if yb1 (" ":Str) l then some (D.str (Txt.join (" ":Str) l))else none)=_
  rw[if_pos ok]
 ·rw[uO]
  exact qbi qdL _ λw hw=>(h.2 w hw).1
 ·have hj:=yef (" ":Str) l
  rw[uO]
  have hs:∀ys:List Str,(∀x∈ys,gW x)->(ys.map (·.length)).sum<=ys.length*8:=λys=>by
   induction ys with
   |nil=>intro _;simp
   |cons y ys ih=>
    intro hy
    have a:=(hy y mS_).2
    have b:=ih λx hm=>hy x (mM _ hm)
    rw[mC_,List.sum_cons,lC_,yc0]
    omega
  have:=hs l h.2
  have:=h.1
  rw[e]at hj
  omega
theorem qam (a b:List Str) (h:a.length+b.length<=1000000):qP (.lst (a.map D.str)) (.lst (b.map D.str))=some (.lst ((a++b).map D.str)):=by
 show(if qT ((a.map D.str).length+(b.map D.str).length)then some (D.lst (a.map D.str++b.map D.str))else none)=_
 rw[lM_,lM_,zM h,yd4]
 rfl
theorem qmW{f:M D}{Z:Env}{a:D}(hf:f Z=.ok (a,Z)):jg %[f|0] Z=.ok (.lst [a],Z):=by rw[qaB,yO hf];simp only[lC_,lN_,zM (show 0+1<=1000000 by omega),if_true]
theorem qiM {f g h:M D} {Z:Env} {a b c:D} (hf:f Z=.ok (a,Z)) (hg:g Z=.ok (b,Z)) (hh:h Z=.ok (c,Z)):qb f %[g,h|0] Z=.ok ([a,b,c],Z):=by
 have e0:=qf2 hg hh
 rw[yV,hf]
 simp only[e0]
theorem qn7{f g h:M D}{Z:Env}{a b c:D}(hf:f Z=.ok (a,Z))(hg:g Z=.ok (b,Z))(hh:h Z=.ok (c,Z)):jg %[f,g,h|0] Z=.ok (.lst [a,b,c],Z):=by rw[qaB,qiM hf hg hh];simp only[lC_,lN_,zM (show 0+1+1+1<=1000000 by omega),if_true]
section
variable{T:Str}{ws:List Str}(hT:asc T)(hTl:T.length<=110)(hs:Txt.split T ⟨#[32]⟩=ws)(h1:1<=ws.length)(h12:ws.length<=12)(hw:∀w∈ws,gW w)
include hT hTl hs h1 h12 hw
theorem qcR (n:Int):∃t n',qD [.int n] [.str T]=.ok (.str t,[.int n'])/\asc t/\t.length<=230:=by
 let X:OD:=some (.str T)
 let B (k:Int):OD:=some (.lst [.int k])
 let W:OD:=some (.lst (ws.map D.str))
 have s0:(qY 2 (qA qO (dv 1) %[ret (.str " ")|0])) [B n,X,none,none,none,none,none,none,none,none,none]=.ok (.nx [B n,X,W,none,none,none,none,none,none,none,none]):=by
  have:=uB (t:=T) qhF (by omega)
  rw[hs]at this
  exact jp (z7 (z:=T) rfl (yO rfl) this)
 have lw:∀(b:Int)(o3 o4 o5 o6 o7 o8 o9 o10:OD),qs jW %[dv 2|0] [B b,X,W,o3,o4,o5,o6,o7,o8,o9,o10]=.ok (.int ((ws.length:Nat):Int),[B b,X,W,o3,o4,o5,o6,o7,o8,o9,o10]):=λb o3 o4 o5 o6 o7 o8 o9 o10=>j7 (a:=.lst (ws.map D.str)) rfl (qcN ws)
 obtain⟨at_,n1,ha,e1⟩:=vY (n:=n) (m:=ws.length) (Z:=[B n,X,W,none,none,none,none,none,none,none,none]) rfl (lw n _ _ _ _ _ _ _ _) (by omega) (by omega)
 let A:OD:=some (.int (at_:Nat))
 obtain⟨to_,n2,ht,e2⟩:=vY (n:=n1) (m:=ws.length) (Z:=[B n1,X,W,A,none,none,none,none,none,none,none]) rfl (lw n1 _ _ _ _ _ _ _ _) (by omega) (by omega)
 let O:OD:=some (.int (to_:Nat))
 have lt:d2 qP (qs jW %[dv 1|0]) (ret (.int 1)) [B n2,X,W,A,O,none,none,none,none,none,none]=.ok (.int ((T.length+1:Nat):Int),[B n2,X,W,A,O,none,none,none,none,none,none]):=by
  refine qr (a:=.int ((T.length:Nat):Int)) (j7 (a:=.str T) rfl ?_) rfl (jM _ _)
  show(if qT T.length then some (D.int (T.length:Nat))else none)=_
  rw[zM (by omega)]
  rfl
 obtain⟨wh,n3,hwh,e3⟩:=vY (n:=n2) (m:=T.length+1) (Z:=[B n2,X,W,A,O,none,none,none,none,none,none]) rfl lt (by omega) (by omega)
 let H:OD:=some (.int (wh:Nat))
 obtain⟨sj,n4,hsj,e4⟩:=vY (n:=n3) (m:=19) (f:=ret (.int 19)) (Z:=[B n3,X,W,A,O,H,none,none,none,none,none]) rfl rfl (by omega) (by omega)
 obtain⟨es,gs⟩:=qmG hsj
 let G:OD:=some (.str (sgW sj))
 obtain⟨kd,n5,hk,e5⟩:=vY (n:=n4) (m:=8) (f:=ret (.int 8)) (Z:=[B n4,X,W,A,O,H,G,none,none,none,none]) rfl rfl (by omega) (by omega)
 let K:OD:=some (.int (kd:Nat))
 let Z:Env:=[B n5,X,W,A,O,H,G,K,none,none,none]
 have pre:∀{r:R Fl},(qt (sif (tst (d2 ltD (dv 7) (ret (.int 3)))) (qZ (d2 qP (d2 qP (qhi (dv 1) (ret none) (zu (dv 5))) (d2 ixB (jg %[dv 6,ret (.str ""),dv 6|0]) (dv 7))) (qhi (dv 1) (zu (d2 qP (dv 5) (qs wW %[d2 gtD (dv 7) (ret (.int 0))|0]))) (ret none)))) zo) (qt (qfP 8 (qt (yE 8 (qcC (dv 2))) (qef 8 3 4 (z8 %[qbK 8 (dv 4),qbK 8 (dv 3)|0])))) (qt (qY 9 (d2 ixB (jg %[ret (.str ""),ret (.str "0/1*1"),ret (.str "1/01*"),ret (.str "1/1"),ret (.str "1*1"),ret (.str "/1*1"),ret (.str "1/*1"),ret (.str "1/1*1*1"),ret (.str "1/1/1*"),ret (.str "2/0*0")|0]) (qo qk 0 %[ret (.int 10)|0]))) (qt (qY 10 (jg %[d2 qP (uL (dv 2) (ret none) (zu (dv 3))) (uL (dv 2) (zu (d2 qP (dv 3) (ret (.int 1)))) (ret none)),d2 qP (d2 qP (uL (dv 2) (ret none) (zu (dv 3))) (jg %[d2 ixB (dv 2) (dv 3)|0])) (uL (dv 2) (zu (dv 3)) (ret none)),dv 8|0])) (qZ (qA vt (ret (.str " ")) %[d2 ixB (d2 qP (dv 10) (jg %[d2 qP (d2 qP (uL (dv 2) (ret none) (zu (dv 3))) (jg %[dv 9|0])) (uL (dv 2) (zu (dv 3)) (ret none)),d2 qP (d2 qP (uL (dv 2) (ret none) (zu (dv 3))) (jg %[dv 9|0])) (uL (dv 2) (zu (d2 qP (dv 3) (ret (.int 1)))) (ret none))|0])) (d2 qkH (dv 7) (ret (.int 3)))|0])))))) Z=r->yq [B n,X,none,none,none,none,none,none,none,none,none]=r:=λe=>by
  unfold yq
  refine(qp s0).trans ((qp (Z':=[B n1,X,W,A,none,none,none,none,none,none,none]) (jp e1)).trans ((qp (Z':=[B n2,X,W,A,O,none,none,none,none,none,none]) (jp e2)).trans ((qp (Z':=[B n3,X,W,A,O,H,none,none,none,none,none]) (jp e3)).trans ((qp (Z':=[B n4,X,W,A,O,H,G,none,none,none,none]) (jp (qgj rfl e4 es))).trans ((qp (Z':=Z) (jp e5)).trans e)))))
 have tk:(tst (d2 ltD (dv 7) (ret (.int 3))):M Bool) Z=.ok (decide (((kd:Nat):Int)<3),Z):=ze (qr (a:=.int (kd:Nat)) rfl rfl rfl)
 by_cases h3:kd<3
 ·have tt:(tst (d2 ltD (dv 7) (ret (.int 3))):M Bool) Z=.ok (true,Z):=by rw[tk,decide_eq_true (by omega)]
  have c1:qhi (dv 1) (ret none) (zu (dv 5)) Z=.ok (.str (Txt.slice T none (some (wh:Nat))),Z):=qiL rfl rfl (qal rfl) (by omega)
  have fin:∀(s:Str)(z:Int),gW s->d2 ixB (jg %[dv 6,ret (.str ""),dv 6|0]) (dv 7) Z=.ok (.str s,Z)->qs wW %[d2 gtD (dv 7) (ret (.int 0))|0] Z=.ok (.int z,Z)->∃t n',qD [.int n] [.str T]=.ok (.str t,[.int n'])/\asc t/\t.length<=230:=λs z gs' c2 c3=>by
   have c4:qhi (dv 1) (zu (d2 qP (dv 5) (qs wW %[d2 gtD (dv 7) (ret (.int 0))|0]))) (ret none) Z=.ok (.str (Txt.slice T (some ((wh:Nat)+z)) none),Z):=qiL rfl (qal (qr (a:=.int (wh:Nat)) rfl c3 (jM _ _))) rfl (by omega)
   have l1:=Txt.slice_le T none (some ((wh:Nat):Int))
   have l2:=Txt.slice_le T (some (((wh:Nat):Int)+z)) none
   have l3:=gs'.2
   refine⟨Txt.slice T none (some (wh:Nat))++s++Txt.slice T (some ((wh:Nat)+z)) none,n5,?_,yH (yH (qcd hT _ _) gs'.1) (qcd hT _ _),by rw[y7,y7];omega⟩
   unfold qD
   refine qaC (Z:=Z) rfl (pre (j6 ((qev tt).trans (v9 (qr (qr c1 c2 (qiH (by omega))) c4 (qiH ?_)))))) rfl
   rw[y7]
   omega
  have l3:jg %[dv 6,ret (.str ""),dv 6|0] Z=.ok (.lst [.str (sgW sj),.str "",.str (sgW sj)],Z):=qn7 rfl rfl rfl
  have cg:d2 gtD (dv 7) (ret (.int 0)) Z=.ok (.bl (decide ((0:Int)<((kd:Nat):Int))),Z):=qr (a:=.int (kd:Nat)) rfl rfl rfl
  have ge:gW "":=⟨λc hc=>(by cases hc),yaN _⟩
  have q:∃(x:Str)(z:Int),gW x/\ixB (.lst [.str (sgW sj),.str "",.str (sgW sj)]) (.int (kd:Nat))=some (.str x)/\wW [.bl (decide ((0:Int)<((kd:Nat):Int)))]=some (.int z):=by
   rcases(show kd=0\/kd=1\/kd=2 by omega)with h|h|h<;>rw[h]
   ·exact⟨_,0,gs,rfl,rfl⟩
   ·exact⟨_,1,ge,rfl,rfl⟩
   ·exact⟨_,1,gs,rfl,rfl⟩
  obtain⟨x,z,q1,q2,q3⟩:=q
  exact fin x z q1 (qr l3 rfl q2) (j7 cg q3)
 ·have tf:(tst (d2 ltD (dv 7) (ret (.int 3))):M Bool) Z=.ok (false,Z):=by rw[tk,decide_eq_false (by omega)]
  let wa:Str:=ws[at_]
  let wo:Str:=ws[to_]
  let ot:List Str:=(ws.set at_ wo).set to_ wa
  let Z1:Env:=[B n5,X,W,A,O,H,G,K,some (.lst (ws.map D.str)),none,none]
  let Z2:Env:=[B n5,X,W,A,O,H,G,K,some (.lst (ot.map D.str)),none,none]
  have sw:(qfP 8 (qt (yE 8 (qcC (dv 2))) (qef 8 3 4 (z8 %[qbK 8 (dv 4),qbK 8 (dv 3)|0])))) Z=.ok (.nx Z2):=by
   show qt (yE 8 (qcC (dv 2))) _ (Z.set 8 none)=_
   refine(qp (Z':=Z1) ?_).trans ?_
   ·have im:immL (ws.map D.str)=true:=by
     have:∀l:List Str,immL (l.map D.str)=true:=λl=>by
      induction l with
      |nil=>rfl
      |cons x l ih=>show(imm (.str x)&&immL (l.map D.str))=true;rw[ih];rfl
     exact this ws
    have c:qcC (dv 2) Z=.ok (ws.map D.str,Z):=by
     show lift (if immL (ws.map D.str)then some (ws.map D.str)else none) Z=_
     rw[im]
     rfl
    show yE 8 (qcC (dv 2)) Z=_
    rw[qcs,c]
    rfl
   ·have g1:qbK 8 (dv 4) Z1=.ok (.str wo,Z1):=by
     show(match atI (ws.map D.str) ((to_:Nat):Int) with|some d=>R.ok (d,Z1)|none => .bad)=_
     have:ixD (.lst (ws.map D.str)) (.int (to_:Nat))=some (.str wo):=qiw (by rw[gM_,gG ht];rfl)
     rw[show atI (ws.map D.str) ((to_:Nat):Int)=some (.str wo)from this]
    have g2:qbK 8 (dv 3) Z1=.ok (.str wa,Z1):=by
     show(match atI (ws.map D.str) ((at_:Nat):Int) with|some d=>R.ok (d,Z1)|none => .bad)=_
     have:ixD (.lst (ws.map D.str)) (.int (at_:Nat))=some (.str wa):=qiw (by rw[gM_,gG ha];rfl)
     rw[show atI (ws.map D.str) ((at_:Nat):Int)=some (.str wa)from this]
    exact qnI (L:=ws) (a:=at_) (z:=to_) (qoA g1 g2) rfl rfl rfl ha ht
  obtain⟨oj,n6,hoj,e6⟩:=vY (n:=n5) (m:=10) (f:=ret (.int 10)) (Z:=Z2) rfl rfl (by omega) (by omega)
  obtain⟨od,eo,go⟩:=qmH hoj
  let Z3:Env:=[B n6,X,W,A,O,H,G,K,some (.lst (ot.map D.str)),some (.str od),none]
  have c0:∀(o10:OD),uL (dv 2) (ret none) (zu (dv 3)) (Z3.set 10 o10)=.ok (.lst ((ws.take at_).map D.str),Z3.set 10 o10):=λo10=>by
   rw[List.map_take,<-qhA _ _ (by rw[lM_];omega)]
   exact qgk (ds:=ws.map D.str) rfl rfl (qal rfl)
  have c1:∀(o10:OD),uL (dv 2) (zu (dv 3)) (ret none) (Z3.set 10 o10)=.ok (.lst ((ws.drop at_).map D.str),Z3.set 10 o10):=λo10=>by
   rw[List.map_drop,<-qdC _ _ (by rw[lM_];omega)]
   exact qgk (ds:=ws.map D.str) rfl (qal rfl) rfl
  have c2:∀(o10:OD),uL (dv 2) (zu (d2 qP (dv 3) (ret (.int 1)))) (ret none) (Z3.set 10 o10)=.ok (.lst ((ws.drop (at_+1)).map D.str),Z3.set 10 o10):=λo10=>by
   rw[List.map_drop,<-qdC _ _ (by rw[lM_];omega)]
   exact qgk (ds:=ws.map D.str) rfl (qal (qr (a:=.int (at_:Nat)) rfl rfl (jM _ _))) rfl
  have lt1:(ws.take at_).length=at_:=by rw[ycg];omega
  have ld1:(ws.drop at_).length=ws.length-at_:=ych
  have ld2:(ws.drop (at_+1)).length=ws.length-(at_+1):=ych
  let l1:List Str:=ws.take at_++ws.drop (at_+1)
  let l2:List Str:=(ws.take at_++[wa])++ws.drop at_
  let l4:List Str:=(ws.take at_++[od])++ws.drop at_
  let l5:List Str:=(ws.take at_++[od])++ws.drop (at_+1)
  let Z4:Env:=[B n6,X,W,A,O,H,G,K,some (.lst (ot.map D.str)),some (.str od),some (.lst [.lst (l1.map D.str),.lst (l2.map D.str),.lst (ot.map D.str)])]
  have gw:ws[at_]∈ws:=ycN ha
  have st:∀{w},w∈ws.take at_->gW w:=λh=>hw _ (List.mem_of_mem_take h)
  have sd:∀{k w},w∈ws.drop k->gW w:=λh=>hw _ (List.mem_of_mem_drop h)
  have G1:GW l1:=⟨by show(ws.take at_++ws.drop (at_+1)).length<=13;rw[lA_];omega,λw h=>by
   rcases mA_.mp h with h|h
   ·exact st h
   ·exact sd h⟩
  have three:∀{x:Str}{k:Nat},gW x->at_+1+(ws.length-k)<=13->GW ((ws.take at_++[x])++ws.drop k):=λ{x k} hx hl=>⟨by
   rw[lA_,lA_,lt1,ych,yaC]
   exact hl,λw h=>by
   rcases mA_.mp h with h|h
   ·rcases mA_.mp h with h|h
    ·exact st h
    ·rw[ms_.mp h];exact hx
   ·exact sd h⟩
  have G2:GW l2:=three (hw _ gw) (by omega)
  have G4:GW l4:=three go (by omega)
  have G5:GW l5:=three go (by omega)
  have G3:GW ot:=⟨by show((ws.set at_ wo).set to_ wa).length<=13;rw[lS_,lS_];omega,λw h=>by
   rcases ydG h with h|h
   ·rcases ydG h with h|h
    ·exact hw _ h
    ·rw[h];exact hw _ (ycN ht)
   ·rw[h];exact hw _ gw⟩
  have one:∀(x:Str),D.lst [.str x]=.lst ([x].map D.str):=λ_=>rfl
  have s10:(qY 10 (jg %[d2 qP (uL (dv 2) (ret none) (zu (dv 3))) (uL (dv 2) (zu (d2 qP (dv 3) (ret (.int 1)))) (ret none)),d2 qP (d2 qP (uL (dv 2) (ret none) (zu (dv 3))) (jg %[d2 ixB (dv 2) (dv 3)|0])) (uL (dv 2) (zu (dv 3)) (ret none)),dv 8|0])) Z3=.ok (.nx Z4):=by
   refine jp (qn7 (qr (c0 none) (c2 none) (qam _ _ (by omega))) (qr (qr (c0 none) (qmW (qr (a:=.lst (ws.map D.str)) (b:=.int (at_:Nat)) rfl rfl (qaK (gG ha)))) ?_) (c1 none) (qam _ _ ?_)) rfl)
   ·rw[one]
    exact qam _ _ (by rw[yaC];omega)
   ·rw[lA_,yaC];omega
  let S:OD:=some (.lst [.lst (l1.map D.str),.lst (l2.map D.str),.lst (ot.map D.str)])
  have all5:d2 qP (dv 10) (jg %[d2 qP (d2 qP (uL (dv 2) (ret none) (zu (dv 3))) (jg %[dv 9|0])) (uL (dv 2) (zu (dv 3)) (ret none)),d2 qP (d2 qP (uL (dv 2) (ret none) (zu (dv 3))) (jg %[dv 9|0])) (uL (dv 2) (zu (d2 qP (dv 3) (ret (.int 1)))) (ret none))|0]) Z4=.ok (.lst [.lst (l1.map D.str),.lst (l2.map D.str),.lst (ot.map D.str),.lst (l4.map D.str),.lst (l5.map D.str)],Z4):=by
   refine qr (a:=.lst [.lst (l1.map D.str),.lst (l2.map D.str),.lst (ot.map D.str)]) rfl (qoB (qr (qr (c0 S) (qmW rfl) ?_) (c1 S) (qam _ _ ?_)) (qr (qr (c0 S) (qmW rfl) ?_) (c2 S) (qam _ _ ?_))) rfl
   ·rw[one]
    exact qam _ _ (by rw[yaC];omega)
   ·rw[lA_,yaC];omega
   ·rw[one]
    exact qam _ _ (by rw[yaC];omega)
   ·rw[lA_,yaC];omega
  have fin:∀(l:List Str),GW l->d2 ixB (d2 qP (dv 10) (jg %[d2 qP (d2 qP (uL (dv 2) (ret none) (zu (dv 3))) (jg %[dv 9|0])) (uL (dv 2) (zu (dv 3)) (ret none)),d2 qP (d2 qP (uL (dv 2) (ret none) (zu (dv 3))) (jg %[dv 9|0])) (uL (dv 2) (zu (d2 qP (dv 3) (ret (.int 1)))) (ret none))|0])) (d2 qkH (dv 7) (ret (.int 3))) Z4=.ok (.lst (l.map D.str),Z4)->∃t n',qD [.int n] [.str T]=.ok (.str t,[.int n'])/\asc t/\t.length<=230:=λl gl e=>by
   obtain⟨j1,j2,j3⟩:=gl.join
   refine⟨_,n6,?_,j2,by omega⟩
   unfold qD
   exact qaC (Z:=Z4) rfl (pre ((qp (qcK tf)).trans ((qp sw).trans ((qp (Z':=Z3) (jp (qgj (a:=.lst (odW.map D.str)) rfl e6 eo))).trans ((qp s10).trans (v9 (z7 rfl (yO e) j1))))))) rfl
  have sb:d2 qkH (dv 7) (ret (.int 3)) Z4=.ok (.int ((kd:Nat)-3),Z4):=qr (a:=.int (kd:Nat)) rfl rfl (qht _ _)
  have q:∃l,GW l/\ixB (.lst [.lst (l1.map D.str),.lst (l2.map D.str),.lst (ot.map D.str),.lst (l4.map D.str),.lst (l5.map D.str)]) (.int ((kd:Nat)-3))=some (.lst (l.map D.str)):=by
   rcases(show kd=3\/kd=4\/kd=5\/kd=6\/kd=7 by omega)with h|h|h|h|h<;>rw[h]
   ·exact⟨l1,G1,rfl⟩
   ·exact⟨l2,G2,rfl⟩
   ·exact⟨ot,G3,rfl⟩
   ·exact⟨l4,G4,rfl⟩
   ·exact⟨l5,G5,rfl⟩
  obtain⟨l,q1,q2⟩:=q
  exact fin l q1 (qr all5 sb q2)
end
theorem qmI:∀(cs:List Nat)(a:Nat),(∀c∈cs,48<=c/\c<=57)->cs.foldl (λacc c=>acc*10+(c-48)) a<(a+1)*10 ^ cs.length
 | [],a,_=>by simp
 |c::cs,a,h=>by
  have h1:=h c mS_
  have h2:=qmI cs (a*10+(c-48)) λx hx=>h x (mM _ hx)
  rw[ydZ,lC_]
  refine yat h2 ?_
  rw[Nat.pow_succ,ydN (10 ^ cs.length) 10,<-Nat.mul_assoc]
  exact yeF _ (by omega)
theorem qkz {x:Str} (h:isF x=true) (hl:x.length<=230):nF x<10 ^ 230:=by
 have:=qmI x.cps.toList 0 λc hc=>of_decide_eq_true (List.all_eq_true.mp (va h).2.1 c hc)
 rw[ye6,Nat.one_mul]at this
 have el:x.cps.toList.length=x.length:=rfl
 exact yat this (Nat.pow_le_pow_right (by omega) (by omega))
structure OkR (w e:Nat) (d:D):Prop where
 lv:(zI d).leavesShort 231=true
 sh:(zI d).showable=true
 wt:(zI d).weight<=w
 dp:(zI d).depth<=e
 pl:plain d=true
theorem qbj {i:Nat} (h:i<10 ^ 230):OkR 770 0 (.int (i:Nat)):=by
 have hn:(((i:Nat):Int)).natAbs=i:=Int.natAbs_natCast i
 have hl:(((i:Nat):Int)).natAbs.log2<769:=by
  rw[hn]
  by_cases h0:i=0
  ·rw[h0];decide
  ·exact(Nat.log2_lt h0).mpr (yat h (by decide +kernel))
 refine⟨?_,?_,?_,yah _,rfl⟩
 ·show decide ((PyData.shown (.int ((i:Nat):Int))).length<=231)=true
  refine decide_eq_true ?_
  have e:=int_text_length_le10 (a:=((i:Nat):Int)) (k:=230) (by decide) (by rw[hn];exact h)
  show(ycv (yfx ((i:Nat):Int))).length<=231
  rw[PySem.ofString_length]
  exact e
 ·show decide ((((i:Nat):Int)).natAbs.log2<1920)=true
  exact decide_eq_true (by omega)
 ·show(if(((i:Nat):Int)==0)=true then 0 else(((i:Nat):Int)).natAbs.log2+1)<=770
  split<;>omega
theorem qkA:OkR 770 0 .non:=⟨rfl,rfl,yaN _,yaN _,rfl⟩
theorem qgl {w e:Nat}:∀ds:List D,(∀d∈ds,OkR w e d)->yev 231 (toPDs ds)=true/\ybZ (toPDs ds)=true/\PyData.weightAll (toPDs ds)<=ds.length*(w+1)/\ybl (toPDs ds)<=e
 | [],_=>⟨rfl,rfl,yaN _,yaN _⟩
 |d::ds,h=>by
  obtain⟨h1,h2,h3,h4⟩:=qgl ds λx hx=>h x (mM _ hx)
  have g:=h d mS_
  have g3:=g.wt
  have g4:=g.dp
  simp only[toPDs,yev,ybZ,PyData.weightAll,ybl,h1,h2,g.lv,g.sh,yaY,true_and,lC_,yc0]
  omega
theorem qcS {w e n:Nat} {ds:List D} (h:∀d∈ds,OkR w e d) (hl:ds.length<=n):OkR (n*(w+1)) (e+1) (.tup ds):=by
 obtain⟨h1,h2,h3,h4⟩:=qgl ds h
 obtain⟨p1,p2⟩:=qb8 ds λd hd=>(h d hd).pl
 refine⟨?_,?_,?_,?_,?_⟩
 ·simp only[zI,PyData.leavesShort,h1]
 ·simp only[zI,yd1,h2]
 ·simp only[zI,PyData.weight]
  exact yaH h3 (yeF _ hl)
 ·simp only[zI,ye7]
  omega
 ·simp only[plain,zI,PyData.hasDict,noL,p1,p2]
  rfl
theorem qdN {w e:Nat} {d:D} (h:OkR w e d) (hw:w<=60000) (he:e<=50):jX [d]=some (.str (zI d).shown):=by
 have h1:=PyData.shown_le 231 (by omega) _ h.lv
 have h2:(231+2)*(zI d).weight<=233*60000:=Nat.mul_le_mul_left _ (yaH h.wt hw)
 have h3:=h.dp
 have e1:(zI d).shown.length<=yap:=by rw[yfn];omega
 have e2:(zI d).depth<=50:=by omega
 have hp:=h.pl
 unfold plain at hp
 rw[yad]at hp
 have:qbM d=true:=by simp only[qbM,h.sh,e1,e2,decide_true,ybS,hp.1,ye8]
 simp only[jX,this,if_true]
theorem qhL {w:Str} {d:D} (h:ww w=some d) (hl:w.length<=230):OkR 2313 1 d:=by
 obtain⟨a,b,c,p,e1,e2,hc,rfl⟩:=vB h
 obtain⟨q1,q2,q3⟩:=qgb hc
 have l1:=(zC w 42).2
 have l2:=(zC p 47).2
 rw[e1]at l1
 rw[e2]at l2
 have lp:=l1 p (by simp)
 have lc:=l1 c (by simp)
 have la:=l2 a (by simp)
 have lb:=l2 b (by simp)
 refine qcS (n:=3) (w:=770) (e:=0) (λd hd=>?_) (yah _)
 simp only[yar,nN_,or_false]at hd
 rcases hd with rfl|rfl|rfl
 ·exact qbj (qkz q1 (by omega))
 ·exact qbj (qkz q2 (by omega))
 ·unfold moF
  rcases q3 with rfl|q3
  ·exact qkA
  ·have hne:=(va q3).1
   rw[hne]
   exact qbj (qkz q3 (by omega))
theorem qgm:∀(ws:List Str)(p:Nat)(acc:List D),(∀w∈ws,w.length<=230)->(∀d∈acc,OkR 2313 1 d)->acc.length=p->p<=12->OkR 27768 2 (qmy (qbo ws p acc))
 | [],p,acc,_,ha,hp,hl=>qcS (n:=12) (w:=2313) (e:=1) ha (by omega)
 | w :: ws,p,acc,hw,ha,hp,hl=>by
  have bad:OkR 27768 2 (.int (p:Nat)):=by
   have:=qbj (i:=p) (Nat.lt_of_le_of_lt hl (by decide +kernel))
   exact⟨this.lv,this.sh,yaH this.wt (by omega),yaH this.dp (by omega),this.pl⟩
  unfold qbo
  cases e:ww w with
  |none=>exact bad
  | some d=>
   dsimp only
   by_cases h:p<=11
   ·rw [if_pos h]
    refine qgm ws (p+1) (acc++[d]) (λx hx=>hw x (mM _ hx)) (λx hx=>?_) (by rw[lA_,hp];rfl) (by omega)
    rcases mA_.mp hx with hx|hx
    ·exact ha x hx
    ·rw[ms_.mp hx]
     exact qhL e (hw w mS_)
   ·rw[if_neg h]
    exact bad
theorem qhM {t:Str} (hl:t.length<=230):OkR 27768 2 (qmy (qiD t)):=by
 unfold qiD
 split
 ·exact qcS (n:=12) (w:=2313) (e:=1) (λd hd=>by cases hd) (yaN _)
 ·exact qgm _ 0 [] (λw hw=>yaH ((zC t 32).2 w hw) hl) (λd hd=>by cases hd) rfl (yaN _)
theorem qkB {t:Str} (ha:asc t) (hl:t.length<=230) {i:Nat} {Z:Env} (hg:dv i Z=.ok (.str t,Z)) :
  (tst (d2 neB (qs jX %[qf qv %[dv i|0]|0]) (qs jX %[qf zH %[dv i|0]|0])):M Bool) Z=.ok (false,Z):=by
 have r:=qdN (qhM hl) (by omega) (by omega)
 exact ze (qr (j7 (zY hg (qhI (by omega))) r) (j7 (zY hg (qcO ha (by omega))) r) (qf1 _))
theorem io2 {F:List D->List D->R (D×List D)} {i:Nat} {f g:M D} {Z:Env} {ds ds':List D} {a b d:D} (h0:zW i Z=some ds) (hf:f Z=.ok (a,Z)) (hg:g Z=.ok (b,Z)) (e:F ds [a,b]=.ok (d,ds')):qo F i %[f,g|0] Z=.ok (d,Z.set i (some (.lst ds'))):=by
 simp only[uq,h0,qf2 hf hg,e]
theorem qhN {F:List D->R D} {f:M D} {Z:Env} {a d:D} (hf:f Z=.ok (a,Z)) (e:F [a]=.ok d):ue F %[f|0] Z=.ok (d,Z):=by
 rw[qa4,yO hf]
 simp only[e]
theorem qkC {xs:List N3} (hx:∀x∈xs,gN3 x) (hl:xs.length<=12):(Txt.join (" ":Str) (xs.map wT)).length<=108:=by
 have h:=yef (" ":Str) (xs.map wT)
 rw[uO]
 have e:(" ":Str).length=1:=by rw[qhF];rfl
 have hs:∀ys:List N3,(∀x∈ys,gN3 x)->((ys.map wT).map (·.length)).sum<=ys.length*8:=λys=>by
  induction ys with
  |nil=>intro _;simp
  |cons y ys ih=>
   intro hy
   have a:=qgi (hy y mS_)
   have b:=ih λx hm=>hy x (mM _ hm)
   rw[mC_,mC_,List.sum_cons,lC_,yc0]
   omega
 have:=hs xs hx
 rw[lM_,e]at h
 omega
theorem qnJ {x:N3} (h:gN3 x):32 ∉ (wT x).cps.toList:=by
 have f40:(ya2 40).all (λi=>(fgS i).cps.toList.all λc=>decide (c≠32))=true:=by kernel_rfl
 have ff:∀{n:Nat},n<40->32 ∉ (fgS n).cps.toList:=λhn z=>by
  have:=List.all_eq_true.mp (List.all_eq_true.mp f40 _ (List.mem_range.mpr hn)) 32 z
  simp at this
 have ap:∀{x y:Str},32 ∉ x.cps.toList->32 ∉ y.cps.toList->32 ∉ (x++y).cps.toList:=λ{x y} hx hy z=>by
  have e:(x++y).cps.toList=x.cps.toList++y.cps.toList:=by
   show(x.cps++y.cps).toList=_
   exact ycn
  rw[e]at z
  rcases mA_.mp z with z|z
  ·exact hx z
  ·exact hy z
 refine ap (ap (ap (ap (ff h.2.1) ?_) (ff h.2.2.1)) ?_) ?_
 ·rw[qmu];simp
 ·rw[qmv];simp
 ·show 32 ∉ (mtW x.2.2).cps.toList
  cases e:x.2.2 with
  |none=>exact λz=>by cases z
  |some j=>exact ff (h.2.2.2 j e)
theorem qkD {xs:List N3} (hx:∀x∈xs,gN3 x) (hl:xs.length<=12):∃ws,Txt.split (Txt.join (" ":Str) (xs.map wT)) ⟨#[32]⟩=ws/\1<=ws.length/\ws.length<=12/\∀w∈ws,gW w:=by
 cases xs with
 |nil=>
  refine⟨[""],by kernel_rfl,by decide,by decide,λw hw=>?_⟩
  rw[ms_.mp hw]
  exact⟨λc hc=>(by cases hc),yaN _⟩
 | cons x xs=>
  refine⟨(x::xs).map wT,?_,by simp,by rw[lM_];exact hl,λw hw=>?_⟩
  ·rw [qhF]
   exact qaI (by simp) λw hw=>by
    obtain⟨y,hy,rfl⟩:=mP_.mp hw
    exact qnJ (hx y hy)
  ·obtain⟨y,hy,rfl⟩:=mP_.mp hw
   exact⟨qiJ (hx y hy),qgi (hx y hy)⟩
theorem qdO {S K B X Wd o5 o6 o7 T:OD}:∀(ts:List Str)(o9 o10:OD),(∀t∈ts,asc t/\t.length<=230)->∃q9,
  zL (qz 9) (sif (tst (d2 neB (qs jX %[qf qv %[dv 9|0]|0]) (qs jX %[qf zH %[dv 9|0]|0]))) (qZ (ret (.bl false))) zo) (ts.map D.str) [S,K,B,X,Wd,o5,o6,o7,T,o9,o10]=.ok (.nx [S,K,B,X,Wd,o5,o6,o7,T,q9,o10])
 | [],o9,o10,_=>⟨o9,rfl⟩
 |t::ts,o9,o10,h=>by
  obtain⟨h1,h2⟩:=h t mS_
  obtain⟨q9,q⟩:=qdO (S:=S) (K:=K) (B:=B) (X:=X) (Wd:=Wd) (o5:=o5) (o6:=o6) (o7:=o7) (T:=T) ts (some (.str t)) o10 λx hx=>h x (mM _ hx)
  exact⟨q9,by rw[mC_];exact(vx rfl (qcK (qkB h1 h2 rfl))).trans q⟩
theorem qhO (ns:List Int) (i:Int) (h0:0<=i) (r:Env) (hr:r.length=9):∃r',r'.length=9/\(qt (yE 2 (qbO jd %[dv 0,dv 1|0])) (qt (qY 3 (qo zx 2 %[ret (.int 12),ret .non|0])) (qt (yE 4 (qfg (ret []))) (qt (qay (qbn (dv 3)) (qaq 3 (zp (qz 5) (zp (qz 6) (zp (qz 7) qap)))) (zt (qB 4 (d2 qP (d2 qP (d2 qP (d2 qP (qs vP %[dv 5|0]) (ret (.str "/"))) (qs vP %[dv 6|0])) (ret (.str "*"))) (dif (tst (d2 isN (dv 7) (ret .non))) (ret (.str "")) (qs vP %[dv 7|0])))))) (qt (qY 8 (qcB (qA vt (ret (.str " ")) %[dv 4|0]))) (qt (sif (tst (d2 neB (qs jX %[ue uX %[dv 3|0]|0]) (qs jX %[dv 8|0]))) (qZ (ret (.bl false))) zo) (qt (qay (qbn (d2 qP (jg %[dv 8,d2 qP (dv 8) (ret (.str " ")),d2 qP (ret (.str " ")) (dv 8),ret (.str "")|0]) (yL 1 [2,8] (some (1,2)) (u5 %[ret (.int 3)|0]) (qz 0) (ret true) (qo qD 1 %[dv 2|0])))) (qz 9) (sif (tst (d2 neB (qs jX %[qf qv %[dv 9|0]|0]) (qs jX %[qf zH %[dv 9|0]|0]))) (qZ (ret (.bl false))) zo)) (qt (qY 10 (qo qX 2 (ret []))) (sif (tor (ub (vd (tst (qbG "str" (dv 10)))) (tst (d2 neB (qf qv %[dv 10|0]) (ret (.int 0))))) (tst (d2 neB (qf qv %[jg %[dv 8|0]|0]) (ret (.int 0))))) (qZ (ret (.bl false))) zo))))))))) ([some (.fz ns),some (.int i)]++r)=.ok (.nx ([some (.fz ns),some (.int i)]++r')):=by
 match r,hr with
 | [o2,o3,o4,o5,o6,o7,o8,o9,o10],_=>
  obtain⟨n,eb⟩:=qmp ns i h0
  obtain⟨dks,n1,es,hk0,hl0⟩:=qeq n
  obtain⟨xs,rfl,hx⟩:=qiK hk0
  have hl:xs.length<=12:=by rw[lM_]at hl0;exact hl0
  let T:Str:=Txt.join (" ":Str) (xs.map wT)
  have hT:asc T:=qkx hx
  have hTl:T.length<=108:=qkC hx hl
  obtain⟨ws,hs,w1,w12,hw⟩:=qkD hx hl
  obtain⟨t1,m1,b1,a1,z1⟩:=qcR hT (by omega) hs w1 w12 hw n1
  obtain⟨t2,m2,b2,a2,z2⟩:=qcR hT (by omega) hs w1 w12 hw m1
  obtain⟨t3,m3,b3,a3,z3⟩:=qcR hT (by omega) hs w1 w12 hw m2
  obtain⟨od,m4,eo,_,_⟩:=qmq m3
  let S:OD:=some (.fz ns)
  let I:OD:=some (.int i)
  let B (k:Int):OD:=some (.lst [.int k])
  let X:OD:=some (.tup (xs.map kT))
  let Td:OD:=some (.str T)
  let Wd:OD:=some (.lst ((xs.map wT).map D.str))
  obtain⟨q5,q6,q7,ew⟩:=qdM (S:=S) (K:=I) (B:=B n1) (X:=X) (o8:=o8) (o9:=o9) (o10:=o10) xs [] o5 o6 o7 hx (by simpa using hl)
  rw[ybY]at ew
  have bl1:(" ":Str).length=1:=by rw[qhF];rfl
  let ts:List Str:=[T,T++" "," "++T,"",t1,t2,t3]
  obtain ⟨q9,et⟩:=qdO (S:=S) (K:=I) (B:=B m3) (X:=X) (Wd:=Wd) (o5:=q5) (o6:=q6) (o7:=q7) (T:=Td) ts o9 o10 λt ht=>by
   simp only[ts,yar,nN_,or_false]at ht
   rcases ht with rfl|rfl|rfl|rfl|rfl|rfl|rfl
   ·exact⟨hT,by omega⟩
   ·exact⟨yH hT qdL,by rw[y7];omega⟩
   ·exact⟨yH qdL hT,by rw[y7];omega⟩
   ·exact⟨λc hc=>(by cases hc),yaN _⟩
   ·exact⟨a1,z1⟩
   ·exact⟨a2,z2⟩
   ·exact⟨a3,z3⟩
  refine⟨[B m4,X,Wd,q5,q6,q7,Td,q9,some od],rfl,?_⟩
  show(qt (yE 2 (qbO jd %[dv 0,dv 1|0])) (qt (qY 3 (qo zx 2 %[ret (.int 12),ret .non|0])) (qt (yE 4 (qfg (ret []))) (qt (qay (qbn (dv 3)) (qaq 3 (zp (qz 5) (zp (qz 6) (zp (qz 7) qap)))) (zt (qB 4 (d2 qP (d2 qP (d2 qP (d2 qP (qs vP %[dv 5|0]) (ret (.str "/"))) (qs vP %[dv 6|0])) (ret (.str "*"))) (dif (tst (d2 isN (dv 7) (ret .non))) (ret (.str "")) (qs vP %[dv 7|0])))))) (qt (qY 8 (qcB (qA vt (ret (.str " ")) %[dv 4|0]))) (qt (sif (tst (d2 neB (qs jX %[ue uX %[dv 3|0]|0]) (qs jX %[dv 8|0]))) (qZ (ret (.bl false))) zo) (qt (qay (qbn (d2 qP (jg %[dv 8,d2 qP (dv 8) (ret (.str " ")),d2 qP (ret (.str " ")) (dv 8),ret (.str "")|0]) (yL 1 [2,8] (some (1,2)) (u5 %[ret (.int 3)|0]) (qz 0) (ret true) (qo qD 1 %[dv 2|0])))) (qz 9) (sif (tst (d2 neB (qs jX %[qf qv %[dv 9|0]|0]) (qs jX %[qf zH %[dv 9|0]|0]))) (qZ (ret (.bl false))) zo)) (qt (qY 10 (qo qX 2 (ret []))) (sif (tor (ub (vd (tst (qbG "str" (dv 10)))) (tst (d2 neB (qf qv %[dv 10|0]) (ret (.int 0))))) (tst (d2 neB (qf qv %[jg %[dv 8|0]|0]) (ret (.int 0))))) (qZ (ret (.bl false))) zo))))))))) [S,I,o2,o3,o4,o5,o6,o7,o8,o9,o10]=_
  refine(qp (Z':=[S,I,B n,o3,o4,o5,o6,o7,o8,o9,o10]) ?_).trans ?_
  ·push_cast [S,I,B,eb,immFs,immF,immL,imm,yaY]
  refine(qp (Z':=[S,I,B n1,X,o4,o5,o6,o7,o8,o9,o10]) ?_).trans ?_
  ·show qY 3 _ [S,I,B n,o3,o4,o5,o6,o7,o8,o9,o10]=_
   rw[qdk,io2 (ds:=[.int n]) (a:=.int 12) (b:=.non) rfl rfl rfl es]
   rfl
  refine(qp (Z':=[S,I,B n1,X,some (.lst []),o5,o6,o7,o8,o9,o10]) rfl).trans ?_
  refine(qp (Z':=[S,I,B n1,X,Wd,q5,q6,q7,o8,o9,o10]) ?_).trans ?_
  ·have e:qbn (dv 3) [S,I,B n1,X,some (.lst []),o5,o6,o7,o8,o9,o10]=.ok (xs.map kT,[S,I,B n1,X,some (.lst []),o5,o6,o7,o8,o9,o10]):=rfl
   rw[uV,e]
   exact ew
  refine(qp (Z':=[S,I,B n1,X,Wd,q5,q6,q7,Td,o9,o10]) ?_).trans ?_
  ·refine jp (Z1:=[S,I,B n1,X,Wd,q5,q6,q7,o8,o9,o10]) ?_
   have e:qA vt (ret (.str " ")) %[dv 4|0] [S,I,B n1,X,Wd,q5,q6,q7,o8,o9,o10]=.ok (.str T,[S,I,B n1,X,Wd,q5,q6,q7,o8,o9,o10]):=z7 rfl (yO rfl) (qmB hx hl)
   unfold qcB
   rw[e]
   exact if_pos ⟨rfl,rfl⟩
  let Z:Env:=[S,I,B n1,X,Wd,q5,q6,q7,Td,o9,o10]
  refine(qp (Z':=Z) ?_).trans ?_
  ·have rT:jX [.str T]=some (.str (zI (.str T)).shown):=by
    refine qdN (w:=200) (e:=0) ⟨?_,rfl,?_,yah _,rfl⟩ (by omega) (by omega)
    ·show(T.cps.toList.all λc=>decide (c<16 ^ 8))=true
     exact List.all_eq_true.mpr λc hc=>decide_eq_true (by have:=hT c hc;omega)
    ·show T.cps.size<=200
     have:T.cps.size=T.length:=rfl
     omega
   have c1:ue uX %[dv 3|0] Z=.ok (.str T,Z):=qhN (a:=.tup (xs.map kT)) rfl (qmC hx hl (qky hx hl))
   exact qcK (ze (qr (j7 c1 rT) (j7 (a:=.str T) rfl rT) (qf1 _)))
  refine(qp (Z':=[S,I,B m3,X,Wd,q5,q6,q7,Td,q9,o10]) ?_).trans ?_
  ·let Z6:Env:=[S,I,B m3,X,Wd,q5,q6,q7,Td,o9,o10]
   have io:∀(j a b:Int)(t:Str),qD [.int a] [.str T]=.ok (.str t,[.int b])->qo qD 1 %[dv 2|0] [some (.int j),some (.lst [.int a]),Td]=.ok (.str t,[some (.int j),some (.lst [.int b]),Td]):=λj a b t e=>io1 (i:=1) (ds:=[.int a]) (a:=.str T) rfl rfl e
   have cl:∀(j a b:Int)(t:Str)(ds acc:List D)(o:OD),qD [.int a] [.str T]=.ok (.str t,[.int b])->acc.length<=100->z6 (qz 0) (ret true) (qo qD 1 %[dv 2|0]) (.int j::ds) acc [o,some (.lst [.int a]),Td]=z6 (qz 0) (ret true) (qo qD 1 %[dv 2|0]) ds (acc++[.str t]) [some (.int j),some (.lst [.int b]),Td]:=λj a b t ds acc o e ha=>by
    rw[z6]
    simp only[qz,ybA,qfo,io j a b t e,zM (show acc.length+1<=1000000 by omega),if_true]
   have cc:yL 1 [2,8] (some (1,2)) (u5 %[ret (.int 3)|0]) (qz 0) (ret true) (qo qD 1 %[dv 2|0]) Z=.ok (.lst [.str t1,.str t2,.str t3],Z6):=by
    rw[qct]
    have rg:u5 %[ret (.int 3)|0] Z=.ok ([.int 0,.int 1,.int 2],Z):=by
     rw[wD (yO rfl) (by omega) (by omega)]
     rfl
    rw[rg]
    have el:z6 (qz 0) (ret true) (qo qD 1 %[dv 2|0]) [.int 0,.int 1,.int 2] [] [none,some (.lst [.int n1]),Td]=.ok ([.str t1,.str t2,.str t3],[some (.int 2),some (.lst [.int m3]),Td]):=by
     rw[cl 0 n1 m1 t1 _ _ _ b1 (by simp),cl 1 m1 m2 t2 _ _ _ b2 (by simp),cl 2 m2 m3 t3 _ _ _ b3 (by simp)]
     rfl
    show(match z6 (qz 0) (ret true) (qo qD 1 %[dv 2|0]) [.int 0,.int 1,.int 2] [] [none,some (.lst [.int n1]),Td] with|.ok (ys,Ze)=>R.ok (D.lst ys,qkI (some (1,2)) Ze _)|_ => .bad)=_
    rw[el]
    rfl
   have l4:jg %[dv 8,d2 qP (dv 8) (ret (.str " ")),d2 qP (ret (.str " ")) (dv 8),ret (.str "")|0] Z=.ok (.lst [.str T,.str (T++" "),.str (" "++T),.str ""],Z):=by
    have p1:d2 qP (dv 8) (ret (.str " ")) Z=.ok (.str (T++" "),Z):=qr (a:=.str T) rfl rfl (qiH (by omega))
    have p2:d2 qP (ret (.str " ")) (dv 8) Z=.ok (.str (" "++T),Z):=qr (b:=.str T) rfl rfl (qiH (by omega))
    have p3:=qiM (f:=d2 qP (dv 8) (ret (.str " "))) (g:=d2 qP (ret (.str " ")) (dv 8)) (h:=ret (.str "")) p1 p2 (show ret (D.str "") Z=.ok (.str "",Z)from rfl)
    have p0:dv 8 Z=.ok (.str T,Z):=rfl
    rw[qaB,yV,p0]
    simp only[p3,lC_,lN_,zM (show 0+1+1+1+1<=1000000 by omega),if_true]
   have e:qbn (d2 qP (jg %[dv 8,d2 qP (dv 8) (ret (.str " ")),d2 qP (ret (.str " ")) (dv 8),ret (.str "")|0]) (yL 1 [2,8] (some (1,2)) (u5 %[ret (.int 3)|0]) (qz 0) (ret true) (qo qD 1 %[dv 2|0]))) Z=.ok (ts.map D.str,Z6):=by
    have s:=qgj (F:=qP) l4 cc (show qP (.lst [.str T,.str (T++" "),.str (" "++T),.str ""]) (.lst [.str t1,.str t2,.str t3])=some (.lst (ts.map D.str))from rfl)
    unfold qbn bnd
    rw[s]
    rfl
   show qay _ _ _ Z=_
   rw[uV,e]
   exact et
  refine(qp (Z':=[S,I,B m4,X,Wd,q5,q6,q7,Td,q9,some od]) ?_).trans ?_
  ·show qY 10 _ [S,I,B m3,X,Wd,q5,q6,q7,Td,q9,o10]=_
   have e:qo qX 2 (ret []) [S,I,B m3,X,Wd,q5,q6,q7,Td,q9,o10]=.ok (od,[S,I,B m4,X,Wd,q5,q6,q7,Td,q9,o10]):=by
    rw[uq]
    have g:zW 2 [S,I,B m3,X,Wd,q5,q6,q7,Td,q9,o10]=some [.int m3]:=rfl
    simp only[g,qfo,eo]
    rfl
   exact jp e
  ·let Z9:Env:=[S,I,B m4,X,Wd,q5,q6,q7,Td,q9,some od]
   have ti:(tst (qbG "str" (dv 10)):M Bool) Z9=.ok (wX (tyD od) "str",Z9):=by
    refine ze ?_
    rw[qdi]
    rfl
   have l1:(tst (d2 neB (qf qv %[jg %[dv 8|0]|0]) (ret (.int 0))):M Bool) Z9=.ok (false,Z9):=ze (qr (zY (qmW (a:=.str T) rfl) (qgf rfl)) rfl rfl)
   refine qcK (qhx ?_ l1)
   cases hi:wX (tyD od) "str" with
   |true=>
    rw[hi]at ti
    exact qhy (qkt ti)
   |false=>
    rw[hi]at ti
    exact qhz (qkt ti) (ze (qr (zY (a:=od) rfl (qgf hi)) rfl rfl))
theorem qdP (ns:List Int):∀(ds:List D)(o1:OD)(r:Env),r.length=9->(∀d∈ds,∃i:Int,d=.int i/\0<=i)->∃Z,zL (qz 1) (qt (yE 2 (qbO jd %[dv 0,dv 1|0])) (qt (qY 3 (qo zx 2 %[ret (.int 12),ret .non|0])) (qt (yE 4 (qfg (ret []))) (qt (qay (qbn (dv 3)) (qaq 3 (zp (qz 5) (zp (qz 6) (zp (qz 7) qap)))) (zt (qB 4 (d2 qP (d2 qP (d2 qP (d2 qP (qs vP %[dv 5|0]) (ret (.str "/"))) (qs vP %[dv 6|0])) (ret (.str "*"))) (dif (tst (d2 isN (dv 7) (ret .non))) (ret (.str "")) (qs vP %[dv 7|0])))))) (qt (qY 8 (qcB (qA vt (ret (.str " ")) %[dv 4|0]))) (qt (sif (tst (d2 neB (qs jX %[ue uX %[dv 3|0]|0]) (qs jX %[dv 8|0]))) (qZ (ret (.bl false))) zo) (qt (qay (qbn (d2 qP (jg %[dv 8,d2 qP (dv 8) (ret (.str " ")),d2 qP (ret (.str " ")) (dv 8),ret (.str "")|0]) (yL 1 [2,8] (some (1,2)) (u5 %[ret (.int 3)|0]) (qz 0) (ret true) (qo qD 1 %[dv 2|0])))) (qz 9) (sif (tst (d2 neB (qs jX %[qf qv %[dv 9|0]|0]) (qs jX %[qf zH %[dv 9|0]|0]))) (qZ (ret (.bl false))) zo)) (qt (qY 10 (qo qX 2 (ret []))) (sif (tor (ub (vd (tst (qbG "str" (dv 10)))) (tst (d2 neB (qf qv %[dv 10|0]) (ret (.int 0))))) (tst (d2 neB (qf qv %[jg %[dv 8|0]|0]) (ret (.int 0))))) (qZ (ret (.bl false))) zo))))))))) ds ([some (.fz ns),o1]++r)=.ok (.nx Z)
 | [],o1,r,_,_=>⟨_,rfl⟩
 |d::ds,o1,r,hr,h=>by
  obtain⟨i,rfl,h0⟩:=h d mS_
  obtain⟨r',hr',e⟩:=qhO ns i h0 r hr
  obtain⟨Z,q⟩:=qdP ns ds (some (.int i)) r' hr' λy hy=>h y (mM _ hy)
  refine⟨Z,?_⟩
  unfold zL
  simp only[qz,List.cons_append,ybY,ybA,ydl]at e |-
  simp only[e]
  exact q
theorem law_true (ns:List Int) (hn:ns.length<=63):qcL [.fz ns]=.ok (.bl true):=by
 let j:Int:=if(if(6:Int)<(ns.length:Int) then(6:Int) else(ns.length:Int))>1 then(if(6:Int)<(ns.length:Int) then(6:Int) else(ns.length:Int))else 1
 have hj0:0<=j:=by simp only[j];split<;>split<;>omega
 have hj1:j<=6:=by simp only[j];split<;>split<;>omega
 obtain ⟨Z,q⟩:=qdP ns (qcf 0 j.toNat) none [none,none,none,none,none,none,none,none,none] rfl λd hd=>by
  unfold qcf at hd
  obtain⟨k,hk,rfl⟩:=mP_.mp hd
  exact⟨_,rfl,by omega⟩
 unfold qcL
 refine qbb rfl ⟨Z,?_⟩
 unfold qkm
 refine(qp (qoD (some (.fz ns)))).trans ?_
 refine(qp (Z':=Z) ?_).trans rfl
 rw[uV,wD (j:=j) (Z1:=[some (.fz ns),none,none,none,none,none,none,none,none,none,none]) ?_ hj0 (by omega)]
 ·exact q
 ·rfl
section
variable{P:yai}{w:World}{K:yae}{mg:Str->Option Value}{base:Heap}
variable{f:Addr}{fd:yaD}
set_option maxHeartbeats 4000000
theorem qcT:qF ["thing"] ["thing"] (qh yc):=%[0|1]
section
variable(P:yai)(w:World)(K:Fr0)(mg:Str->Option Value)(base:Heap)
abbrev Q0:Prop:=zP P w K mg base 1 "is_whole" ["thing"] (spD K uQ)
abbrev Q1:Prop:=zP P w K mg base 2 "is_count" ["thing"] (spD K yg)
abbrev Q2:Prop:=zP P w K mg base 3 "is_kind" ["thing"] (spD K jR)
abbrev Q3:Prop:=zP P w K mg base 1 "number_of" ["word"] (spD K zG)
abbrev Q4:Prop:=zP P w K mg base 1 "is_figures" ["word"] (spD K qI)
abbrev Q5:Prop:=zP P w K mg base 4 "read_kind" ["word"] (spD K qR)
abbrev Q6:Prop:=qac P w K mg base 5 "read" ["text"] (spX K (clR K RN) ug)
abbrev Q7:Prop:=qcA P w K mg base 1 "_law_marks" ["e"] (spD K jS)
abbrev Q8:Prop:=qcA P w K mg base 1 "_law_whole" ["thing"] (spD K uA)
abbrev Q9:Prop:=zP P w K mg base 6 "_law_said" ["thing"] (spD K qv)
abbrev Q10:Prop:=zP P w K mg base 1 "_law_take" ["box","many"] (qdd K qk)
abbrev Q11:Prop:=zP P w K mg base 2 "_law_odd_thing" ["box"] (qdd K qX)
abbrev Q12:Prop:=zP P w K mg base 2 "_law_bent" ["box","text"] (qdd K qD)
abbrev Q13:Prop:=zP P w K mg base 1 "_law_number_in" ["word"] (spD K qc)
abbrev Q14:Prop:=zP P w K mg base 2 "_law_read" ["text"] (spD K zH)
abbrev Q15:Prop:=zP P w K mg base 1 "figures" ["number"] (spD K yR)
abbrev Q16:Prop:=zP P w K mg base 2 "show_kind" ["kind"] (spD K yt)
abbrev Q17:Prop:=zP P w K mg base 4 "is_store" ["thing"] (spD K uR)
abbrev Q18:Prop:=qac P w K mg base 5 "need_store" ["thing"] (spX K (clR K RN) yz)
abbrev Q19:Prop:=qac P w K mg base 6 "show" ["store"] (spX K (clR K RN) uX)
abbrev Q20:Prop:=zP P w K mg base 2 "_law_kind_of" ["box","ends"] (qdd K zw)
abbrev Q21:Prop:=zP P w K mg base 3 "_law_stocked" ["box","most","ends"] (qdd K zx)
abbrev Q22:Prop:=zP P w K mg base 1 "_law_mix" ["cell","k"] (spD K yh)
abbrev Q23:Prop:=zP P w K mg base 1 "_law_cell" ["script","k"] (spD K jD)
abbrev Q24:Prop:=zP P w K mg base 2 "_law_box" ["script","k"] (spD K jd)
end
theorem q0 (F:Fun K "is_whole" "is_whole" yc f fd) (m:mg "is_whole"=some (.ref f)) (T:Txt K mg) (XTt:XT K mg RN TN) (hB:K.In base):Q0 P w K mg base:=by
 refine %[f,fd,m,F,[_]|2]
 exact zZ (N:=["thing"]) (O:=[]) (body:=vU) F qcT (by decide) λcdv A outer s H E B hr=>(ql (qK (qc1 (v5 qe8 rfl T.b_isinstance rfl T.b_int qaA (qe 0) qC) (qaw (qhU (v5 qc7 rfl T.b_isinstance rfl T.b_bool qfn (qe 0) qC))))))
theorem qcU:qF ["thing"] ["thing"] (qh yd):=%[0|1]
theorem q1 (F:Fun K "is_count" "is_count" yd f fd) (m:mg "is_count"=some (.ref f)) (T:Txt K mg) (XTt:XT K mg RN TN) (hB:K.In base) (Cv:Q0 P w K mg base):Q1 P w K mg base:=by
 refine %[f,fd,m,F,[_]|2]
 exact zZ (N:=["thing"]) (O:=[]) (body:=vV) F qcU (by decide) λcdv A outer s H E B hr=>(ql (qK (qc1 (dC Cv hr (qd (qe 0) qg)) (qaw (wU qle qhX (qe 0) qi (qJ _))))))
theorem qer:qF ["thing"] ["thing"] (qh yP):=%[0|1]
theorem q2 (F:Fun K "is_kind" "is_kind" yP f fd) (m:mg "is_kind"=some (.ref f)) (T:Txt K mg) (XTt:XT K mg RN TN) (hB:K.In base) (Ci:Q1 P w K mg base):Q2 P w K mg base:=by
 refine %[f,fd,m,F,[_]|2]
 exact zZ (N:=["thing"]) (O:=[]) (body:=qak) F qer (by decide) λcdv A outer s H E B hr=>(qj (jr (DW.dt (ui (ua (yw (v5 qbF rfl T.b_isinstance rfl T.b_tuple vk (qe 0) qC))) (uc (qU (j4 hr) z0 (zf z5 ji rfl T.b_len vj (qd (qe 0) qg)) qi (qJ _))))) (ql (qK uZ)) qM)
   (qj (jr (DW.dt (ui (ua (yw (dC Ci hr (qd (zA uo uj (qe 0) (gI T.c_WEIGHT)) qg)))) (uc (qU (yM hr) jk (zA uo uj (qe 0) (gI T.c_WEIGHT)) qi (qJ _))))) (ql (qK uZ)) qM)
   (ql (qK (qc1 (dC Ci hr (qd (zA uo uj (qe 0) (gI T.c_WORTH)) qg)) (qaw (qlz (wU qas vH (zA uo uj (qe 0) (gI T.c_MOST)) yi (qJ _)) (qaw (dC Ci hr (qd (zA uo uj (qe 0) (gI T.c_MOST)) qg))))))))))
theorem yB:qF ["word","number","sign"] ["word"] (qh ju):=%[0|1]
theorem q3 (F:Fun K "number_of" "number_of" ju f fd) (m:mg "number_of"=some (.ref f)) (T:Txt K mg) (XTt:XT K mg RN TN) (hB:K.In base):Q3 P w K mg base:=by
 refine %[f,fd,m,F,[_]|2]
 exact zZ (N:=["word","number","sign"]) (O:=[]) (body:=u8) F yB (by decide) λcdv A outer s H E B hr=>(qj (qW (i:=1) yB.nd qi)
   (qj (v6 ybm rfl (qfR (qe 0)) (zE (i:=2) yB.nd) (ql (qW (i:=1) yB.nd (qy qG qH (qy yF jJ (qe 1) qi) (yj qbZ qaH rfl T.b_int qaA (qd (qe 2) qg))))))
   (ql (qK (qe 1)))))
theorem qbk:qF ["word"] ["word"] (qh zQ):=%[0|1]
theorem q4 (F:Fun K "is_figures" "is_figures" zQ f fd) (m:mg "is_figures"=some (.ref f)) (T:Txt K mg) (XTt:XT K mg RN TN) (hB:K.In base):Q4 P w K mg base:=by
 refine %[f,fd,m,F,[_]|2]
 exact zZ (N:=["word"]) (O:=[]) (body:=ux) F qbk (by decide) λcdv A outer s H E B hr=>(qj (jr (DW.dt (ui (qU (yM hr) jk (qe 0) qx (qJ _)) (uc (ua (yw (zf (qc8 rfl) qbH rfl T.b_all qh5 (qd (wZ (fo:=none) rfl (qfR (qe 0)) (cs ["word"] ["sign"] 1 [] (qh zQ)) (f0 [] []) (λ_ _ _ _ _ _ _ _ _ _ _=>⟨(zE (i:=0) (nd ["sign"])),qdb,(wU qeN qjV (qe 0) (gS T.c_FIGURES) rfl)⟩)) qg))))))) (ql (qK uZ)) qM)
   (ql (qK (qlz (wU (yM hr) jk (qe 0) qx (qJ _)) (qaw (wU (j4 hr) z0 (zA jb qQ (qe 0) qi) qx (qJ _)))))))
theorem jU:qF ["word","front","back","most","kind"] ["word"] (qh jv):=%[0|1]
theorem q5 (F:Fun K "read_kind" "read_kind" jv f fd) (m:mg "read_kind"=some (.ref f)) (T:Txt K mg) (XTt:XT K mg RN TN) (hB:K.In base) (Cf:Q2 P w K mg base) (Cj:Q3 P w K mg base) (Ch:Q4 P w K mg base):Q5 P w K mg base:=by
 refine %[f,fd,m,F,[_]|2]
 exact zZ (N:=["word","front","back","most","kind"]) (O:=[]) (body:=yW) F jU (by decide) λcdv A outer s H E B hr=>(qj (qW (i:=1) jU.nd (jm ydv ydw qfQ qaG (qe 0) (qd qx qg)))
   (qj (qW (i:=2) jU.nd (jm ydv ydw qfQ qaG (zA jb qQ (qe 1) qi) (qd qx qg)))
   (qj (jr (DW.dt (ui (qU (yM hr) jk (zA jb qQ (qe 2) qi) qx (qJ _)) (ui (ua (yw (dC Ch hr (qd (zA jb qQ (qe 1) qi) qg)))) (uc (ua (yw (dC Ch hr (qd (zA jb qQ (qe 2) qi) qg)))))))) (ql (qK yi)) qM)
   (qj (jr (DW.dt (qav (qU (j4 hr) z0 (zA jb qQ (qe 2) qi) qx (qJ _)) (vE (ua (yw (dC Ch hr (qd (zA jb qQ (qe 2) qi) qg))))))) (ql (qK yi)) qM)
   (qj (qW (i:=3) jU.nd (qgI (qU (yM hr) jk (zA jb qQ (qe 2) qi) qx (qJ _)) yi (dC Cj hr (qd (zA jb qQ (qe 2) qi) qg))))
   (qj (qW (i:=4) jU.nd (zN (qd (dC Cj hr (qd (zA jb qQ (qe 1) qi) qg)) (qd (dC Cj hr (qd (zA jb qQ (qe 2) qi) qg)) (qd (qe 3) qg)))))
   (ql (qK (qgI (yw (dC Cf hr (qd (qe 4) qg))) (qe 4) yi)))))))))
theorem qan:qF ["text","kinds","at","word","kind"] ["text"] (qh qaj):=%[0|1]
theorem q6 (F:Fun K "read" "read" qaj f fd) (m:mg "read"=some (.ref f)) (T:Txt K mg) (XTt:XT K mg RN TN) (hB:K.In base) (CD:Q5 P w K mg base) (V_NoText:qa8 P w K mg base):Q6 P w K mg base:=by
 obtain⟨CF,hc_NoText⟩:=XTt.has (n:="NoText") (by decide)
 have hk_NoText:=(XTt.cls hc_NoText).1
 have mc_NoText:=XTt.mgc _ _ hk_NoText
 obtain⟨C1,fI_NoText,fd_NoText,hC1,xi_NoText,hn_NoText,G_NoText,b_NoText,xc_NoText⟩:=V_NoText.ex
 rw[hk_NoText]at hC1
 cases hC1
 refine⟨f,fd,?_,m,F.kp,F.binds λ_ _ _ _ _ _ us hl=>match us,hl with | [_],_=>rfl⟩
 show uY P w K mg base (CX1 P w) 5 f fd ["text"] (spX K (clR K RN) (qbU (["text","kinds","at","word","kind"]:List Str).length (["text"]:List Str).length vy))
 refine qfE (N:=["text","kinds","at","word","kind"]) (ps:=["text"]) (k:=4) (O:=[1]) (body:=vy) (cl:=clR K RN) F qan ?a ?b
 case a=>decide
 intro cdv A outer s H E B hr
 have L:=qfD (P:=P) (w:=w) (K:=K) (mg:=mg) (base:=base) (N:=["text","kinds","at","word","kind"]) (qual:="read") (scope:=qh qaj) (f:=f) (cdv:=cdv) (A:=A) (outer:=outer) (s:=s) (H:=H) (E:=E) (c:=cfn [1] [] B H (λ_=>False) (λx H'=>∀C dd,clR K RN x.cls=some C->XV x.val dd H'->E (.ref C) dd H') λ_=>none) (cl:=clR K RN) rfl (λx C dd H' h1 h2 xv=>h2 C dd h1 xv)
 exact (qj (jr (ua (yw (v5 qe9 rfl T.b_isinstance rfl T.b_str qbP (qe 0) qC))) (ql (qb4 rfl L.three hc_NoText rfl mc_NoText xi_NoText hn_NoText G_NoText b_NoText (hr.mono (by decide)) (qd qi qg))) qM)
   (qj (jr (qU (yM hr) jk (qe 0) qx (qJ _)) (ql (qK (zN qg))) qM)
   (qj (u6 (i:=1) qan.nd (qbI qg))
   (qj (qhr L.three (qhs L.three rfl) rfl rfl (λhp L3=>(v6 hp rfl (qdx rfl T.b_enumerate (qd (jm ybv ybw vp yp (qe 0) (qd qx qg)) qg)) (qc2 (n:=2) rfl (j8 (zE (i:=2) qan.nd) (j8 (zE (i:=3) qan.nd) qaS))) (qj (qW (i:=4) qan.nd (dC CD hr (qd (qe 3) qg)))
   (qj (jr (DW.dt (ui (qU qas vH (qe 4) yi (qJ _)) (uc (qU qle qhX (qe 2) (gI T.c_KINDS_AT_MOST) (qJ _))))) (ql (qb4 rfl L3 hc_NoText rfl mc_NoText xi_NoText hn_NoText G_NoText b_NoText (hr.mono (by decide)) (qd (qe 2) qg))) qM)
   (ql (vG (ul (i:=1) (qe 4)))))))))
   (ql (qK (qcq (i:=1) rfl T.b_tuple vk)))))))
theorem y8:qF ["e","found"] ["e"] (qh zR):=%[0|1]
theorem q7 (F:Fun K "_law_marks" "_law_marks" zR f fd) (m:mg "_law_marks"=some (.ref f)) (T:Txt K mg) (XTt:XT K mg RN TN) (hB:K.In base):Q7 P w K mg base:=by
 have rn0:RN.contains "NoText"=true:=by decide
 refine⟨f,fd,?_,m,F.kp,F.binds λ_ _ _ _ _ _ us hl=>match us,hl with | [_],_=>rfl⟩
 show qbV P w K mg base CX0 1 f fd ["e"] (spD K (dfn (["e","found"]:List Str).length (["e"]:List Str).length uy))
 refine qdt (N:=["e","found"]) (ps:=["e"]) (k:=0) (O:=[]) (body:=uy) F y8 ?a ?b
 case a=>decide
 intro cdv A outer s H E B hr al
 have hal:∀Z σ H',Rep K (cfn [] [] B H (λ_=>False) (λ_ _=>False) λ_=>none) Z σ H'->AloneA (A.deeper (yaW "_law_marks" (qh zR) s.heap.objs.size f cdv)) H':=Sk.AloneA.rep al (λ_ z=>z)
 exact (qj (jr (DW.dt (ui (ua (yw (qad (RN:=RN) (m:="SackError") (mgl:=mg) XTt (by decide) (by decide) rfl T.b_isinstance rfl (qe 0) (XTt.ask rn0 (by decide)) qC))) (uc (ua (yw (qjI XTt rfl T.b_isinstance rfl T.b_ValueError (qe 0) qC)))))) (ql (qK qx)) qM)
   (qj (qW (i:=1) y8.nd (zO (qd (qad (RN:=RN) (m:="NoStore") (mgl:=mg) XTt (by decide) (by decide) rfl T.b_isinstance rfl (qe 0) (XTt.ask rn0 (by decide)) qC) (qd (qad (RN:=RN) (m:="NoNumber") (mgl:=mg) XTt (by decide) (by decide) rfl T.b_isinstance rfl (qe 0) (XTt.ask rn0 (by decide)) qC) (qd (qad (RN:=RN) (m:="NoLoad") (mgl:=mg) XTt (by decide) (by decide) rfl T.b_isinstance rfl (qe 0) (XTt.ask rn0 (by decide)) qC) (qd (qad (RN:=RN) (m:="TooMany") (mgl:=mg) XTt (by decide) (by decide) rfl T.b_isinstance rfl (qe 0) (XTt.ask rn0 (by decide)) qC) qg))))))
   (qj (qW (i:=1) y8.nd (qy qG qH (qe 1) (zO (qd (qad (RN:=RN) (m:="NotSingle") (mgl:=mg) XTt (by decide) (by decide) rfl T.b_isinstance rfl (qe 0) (XTt.ask rn0 (by decide)) qC) (qd (qad (RN:=RN) (m:="NoText") (mgl:=mg) XTt (by decide) (by decide) rfl T.b_isinstance rfl (qe 0) (XTt.ask rn0 (by decide)) qC) qg)))))
   (qj (jr (qU qlc qe4 (qfI PySem.F.slot_list_count qg7 qg5 qcx (qe 1) (qd uZ qg)) qi (qJ _)) (ql (qK qx)) qM)
   (ql (qK (zA uo uj (zO (qd qx (qd qx (qd qx (qd qx (qd qx (qd qx qg))))))) (qfI PySem.F.slot_list_index qg8 qg6 qcy (qe 1) (qd uZ qg)))))))))
theorem qbl:qF ["thing"] ["thing"] (qh zS):=%[0|1]
theorem q8 (F:Fun K "_law_whole" "_law_whole" zS f fd) (m:mg "_law_whole"=some (.ref f)) (T:Txt K mg) (XTt:XT K mg RN TN) (hB:K.In base):Q8 P w K mg base:=by
 refine⟨f,fd,?_,m,F.kp,F.binds λ_ _ _ _ _ _ us hl=>match us,hl with | [_],_=>rfl⟩
 show qbV P w K mg base CX0 1 f fd ["thing"] (spD K (dfn (["thing"]:List Str).length (["thing"]:List Str).length uz))
 refine qdt (N:=["thing"]) (ps:=["thing"]) (k:=0) (O:=[]) (body:=uz) F qbl ?a ?b
 case a=>decide
 intro cdv A outer s H E B hr al
 have hal:∀Z σ H',Rep K (cfn [] [] B H (λ_=>False) (λ_ _=>False) λ_=>none) Z σ H'->AloneA (A.deeper (yaW "_law_whole" (qh zS) s.heap.objs.size f cdv)) H':=Sk.AloneA.rep al (λ_ z=>z)
 exact(ql (qK (qc1 (v5 qe8 rfl T.b_isinstance rfl T.b_int qaA (qe 0) qC) (qaw (qhU (v5 qc7 rfl T.b_isinstance rfl T.b_bool qfn (qe 0) qC))))))
theorem wm:qF ["thing","e"] ["thing"] (qh jw):=%[0|1]
theorem q9 (F:Fun K "_law_said" "_law_said" jw f fd) (m:mg "_law_said"=some (.ref f)) (T:Txt K mg) (XTt:XT K mg RN TN) (hB:K.In base) (Cd:Q6 P w K mg base) (Ck:Q7 P w K mg base) (Co:Q8 P w K mg base) (V_NoText:qa8 P w K mg base):Q9 P w K mg base:=by
 have hcl:∀n,RN.contains n=true->(clR K RN n).isSome=true:=λn hn=>Option.isSome_iff_exists.mpr (XTt.has hn)
 obtain⟨S,mS,xS⟩:=XTt.xcls hB
 obtain⟨CF,hc_NoText⟩:=XTt.has (n:="NoText") (by decide)
 have hk_NoText:=(XTt.cls hc_NoText).1
 have mc_NoText:=XTt.mgc _ _ hk_NoText
 obtain⟨C1,fI_NoText,fd_NoText,hC1,xi_NoText,hn_NoText,G_NoText,b_NoText,xc_NoText⟩:=V_NoText.ex
 rw[hk_NoText]at hC1
 cases hC1
 refine⟨f,fd,?_,m,F.kp,F.binds λ_ _ _ _ _ _ us hl=>match us,hl with | [_],_=>rfl⟩
 exact zZ (N:=["thing","e"]) (O:=[]) (body:=yX) F wm (by decide) λcdv A outer s H E B hr=>(ql (qj8 (i:=1) wm.nd rfl rfl xS rfl mS (λee H6 al=>have hal:=qns (K:=K) al;have hr:=qjO (e:=ee) hr;(qj (jr (DW.dt (qav (qU (qjP hr) jk (lC hal Ck hr (qd (qe 1) qg)) qx (qJ _)) (vE (yw (lC hal Co hr (qd (qmk hk_NoText xc_NoText (qe 1)) qg)))))) (ql (qK (qmk hk_NoText xc_NoText (qe 1)))) qM)
   (ql (qK (lC hal Ck hr (qd (qe 1) qg)))))) (λxe pn E2 cE L=>(ql (qK (xC L hcl Cd hr (qd (qe 0) qg)))))))
theorem uD:qF ["box","many","left","digit"] ["box","many"] (qh jx):=%[0|1]
theorem q10 (F:Fun K "_law_take" "_law_take" jx f fd) (m:mg "_law_take"=some (.ref f)) (T:Txt K mg) (XTt:XT K mg RN TN) (hB:K.In base):Q10 P w K mg base:=by
 refine⟨f,fd,?_,m,F.kp,F.binds λ_ _ _ _ _ _ us hl=>match us,hl with | [_,_],_=>rfl⟩
 show uY P w K mg base CX0 1 f fd ["box","many"] (qdd K (u7 (["box","many","left","digit"]:List Str).length (["box","many"]:List Str).length yY))
 refine qfh (N:=["box","many","left","digit"]) (ps:=["box","many"]) (k:=0) (O:=[0]) (body:=yY) F uD ?a ?a0 ?b
 case a=>decide
 case a0=>decide
 intro cdv A outer s H E B Io S hr
 exact (qj (qlB (zf qcg qbE rfl T.b_divmod qfm (qd (qdc (i:=0) qi) (qd (qe 1) qg))) (qc2 (n:=2) rfl (j8 (zE (i:=2) uD.nd) (j8 (zE (i:=3) uD.nd) qaS))))
   (qj (qji (i:=0) (qe 2) qi)
   (ql (qK (qe 3)))))
theorem jG:qF ["box","some"] ["box"] (qh zq):=%[0|1]
theorem q11 (F:Fun K "_law_odd_thing" "_law_odd_thing" zq f fd) (m:mg "_law_odd_thing"=some (.ref f)) (T:Txt K mg) (XTt:XT K mg RN TN) (hB:K.In base) (Ca:Q10 P w K mg base):Q11 P w K mg base:=by
 refine⟨f,fd,?_,m,F.kp,F.binds λ_ _ _ _ _ _ us hl=>match us,hl with | [_],_=>rfl⟩
 show uY P w K mg base CX0 2 f fd ["box"] (qdd K (u7 (["box","some"]:List Str).length (["box"]:List Str).length z9))
 refine qfh (N:=["box","some"]) (ps:=["box"]) (k:=1) (O:=[0]) (body:=z9) F jG ?a ?a0 ?b
 case a=>decide
 case a0=>decide
 intro cdv A outer s H E B Io S hr
 exact (qj (qW (i:=1) jG.nd (zO (qd yi (qd uZ (qd uZ (qd (qdf qi) (qd qx (qd qx (qd (zN (qd qi qg)) (qd (zO (qd qi qg)) (qd qgV (qd (zN (qd (qdf qi) qg)) (qd (zN (qd uZ qg)) (qd (zN (qd (zN (qd qi (qd qi qg))) qg)) (qd (zN (qd yi qg)) (qd (qy qk9 qjs qi qi) qg))))))))))))))))
   (qj (qW (i:=1) jG.nd (qy qG qH (qe 1) (zO (qd (zN (qd qi (qd qi (qd qi qg)))) (qd (zN (qd (zN (qd qi (qd qi (qd qi qg)))) qg)) (qd (zN (qd (zN (qd qi (qd (qdf qi) (qd qi qg)))) qg)) (qd (zN (qd (zN (qd qi (qd qi (qd (qdf qi) qg)))) qg)) (qd (zO (qd (zN (qd qi (qd qi (qd qi qg)))) qg)) (qd qgU (qd qx (qd (zN (qd (zN (qd qi (qd qi (qd uZ qg)))) qg)) qg)))))))))))
   (ql (qK (zA uo uj (qe 1) (iC (i:=0) Ca hr (qd qi qg)))))))
theorem zh:qF ["box","text","words","at","to","where","sign","kind","other","odd","some"] ["box","text"] (qh jy):=%[0|1]
theorem q12 (F:Fun K "_law_bent" "_law_bent" jy f fd) (m:mg "_law_bent"=some (.ref f)) (T:Txt K mg) (XTt:XT K mg RN TN) (hB:K.In base) (Ca:Q10 P w K mg base):Q12 P w K mg base:=by
 refine⟨f,fd,?_,m,F.kp,F.binds λ_ _ _ _ _ _ us hl=>match us,hl with | [_,_],_=>rfl⟩
 show uY P w K mg base CX0 2 f fd ["box","text"] (qdd K (u7 (["box","text","words","at","to","where","sign","kind","other","odd","some"]:List Str).length (["box","text"]:List Str).length yq))
 refine qfh (N:=["box","text","words","at","to","where","sign","kind","other","odd","some"]) (ps:=["box","text"]) (k:=1) (O:=[0]) (body:=yq) F zh ?a ?a0 ?b
 case a=>decide
 case a0=>decide
 intro cdv A outer s H E B Io S hr
 exact (qj (qW (i:=2) zh.nd (jm ybv ybw vp yp (qe 1) (qd qx qg)))
   (qj (qW (i:=3) zh.nd (iC (i:=0) Ca hr (qd (zf z5 ji rfl T.b_len vj (qd (qe 2) qg)) qg)))
   (qj (qW (i:=4) zh.nd (iC (i:=0) Ca hr (qd (zf z5 ji rfl T.b_len vj (qd (qe 2) qg)) qg)))
   (qj (qW (i:=5) zh.nd (iC (i:=0) Ca hr (qd (qy qG qH (zf z5 ji rfl T.b_len vj (qd (qe 1) qg)) qi) qg)))
   (qj (qW (i:=6) zh.nd (zA jb qQ qx (iC (i:=0) Ca hr (qd qi qg))))
   (qj (qW (i:=7) zh.nd (iC (i:=0) Ca hr (qd qi qg)))
   (qj (jr (qU qld qhW (qe 7) qi (qJ _)) (ql (qK (qy qG qH (qy qG qH (qb0 (qe 1) yC (yD (qe 5))) (zA jb qQ (zO (qd (qe 6) (qd qx (qd (qe 6) qg)))) (qe 7))) (qb0 (qe 1) (yD (qy qG qH (qe 5) (yj qbs qax rfl T.b_int qaA (qd (wU qgD qc4 (qe 7) qi (qJ _)) qg)))) yC)))) qM)
   (qfU (i:=8) (u6 (i:=8) zh.nd (qjQ rfl T.b_list (qe 2)))
   (qjT (i:=8) (j1:=3) (j2:=4) rfl (zN (qd (qdc (i:=8) (qe 4)) (qd (qdc (i:=8) (qe 3)) qg))))
   (qj (qW (i:=9) zh.nd (zA jb qQ (zO (qd qx (qd qx (qd qx (qd qx (qd qx (qd qx (qd qx (qd qx (qd qx (qd qx qg))))))))))) (iC (i:=0) Ca hr (qd qi qg))))
   (qj (qW (i:=10) zh.nd (zO (qd (qy qG qH (jQ (qe 2) yC (yD (qe 3))) (jQ (qe 2) (yD (qy qG qH (qe 3) qi)) yC)) (qd (qy qG qH (qy qG qH (jQ (qe 2) yC (yD (qe 3))) (zO (qd (zA jb qQ (qe 2) (qe 3)) qg))) (jQ (qe 2) (yD (qe 3)) yC)) (qd (qe 8) qg)))))
   (ql (qK (jm ycb ycc qa6 uM qx (qd (zA jb qQ (qy qG qH (qe 10) (zO (qd (qy qG qH (qy qG qH (jQ (qe 2) yC (yD (qe 3))) (zO (qd (qe 9) qg))) (jQ (qe 2) (yD (qe 3)) yC)) (qd (qy qG qH (qy qG qH (jQ (qe 2) yC (yD (qe 3))) (zO (qd (qe 9) qg))) (jQ (qe 2) (yD (qy qG qH (qe 3) qi)) yC)) qg)))) (qy qk7 qja (qe 7) qi)) qg))))))))))))))
theorem vZ:qF ["word"] ["word"] (qh zc):=%[0|1]
theorem q13 (F:Fun K "_law_number_in" "_law_number_in" zc f fd) (m:mg "_law_number_in"=some (.ref f)) (T:Txt K mg) (XTt:XT K mg RN TN) (hB:K.In base):Q13 P w K mg base:=by
 refine %[f,fd,m,F,[_]|2]
 exact zZ (N:=["word"]) (O:=[]) (body:=jY) F vZ (by decide) λcdv A outer s H E B hr=>(qj (jr (DW.dt (ui (qU (yM hr) jk (qe 0) qx (qJ _)) (ui (qU (j4 hr) z0 (wZ (fo:=none) rfl (qfR (qe 0)) (cs ["word"] ["sign"] 1 [] (qh zc)) (f0 [] []) (λ_ _ _ _ _ _ _ _ _ _ _=>⟨(zE (i:=0) (nd ["sign"])),(qlM (qU qj0 qhh (qe 0) qx rfl)),(qe 0)⟩)) (zO qg) (qJ _)) (uc (DW.dt (qav (qU (yM hr) jk (zA jb qQ (qe 0) qi) qx (qJ _)) (vE (qU (j4 hr) z0 (qe 0) qx (qJ _))))))))) (ql (qK yi)) qM)
   (ql (qK (yj qbZ qaH rfl T.b_int qaA (qd (qe 0) qg)))))
theorem je:qF ["text","found","at","word","parts","halves"] ["text"] (qh jz):=%[0|1]
theorem q14 (F:Fun K "_law_read" "_law_read" jz f fd) (m:mg "_law_read"=some (.ref f)) (T:Txt K mg) (XTt:XT K mg RN TN) (hB:K.In base) (Cb:Q13 P w K mg base):Q14 P w K mg base:=by
 refine %[f,fd,m,F,[_]|2]
 exact zZ (N:=["text","found","at","word","parts","halves"]) (O:=[1]) (body:=yr) F je (by decide) λcdv A outer s H E B hr=>(qj (u6 (i:=1) je.nd (qbI qg))
   (qj (v6 ybm rfl (qdx rfl T.b_enumerate (qd (qy yF jJ (jm ybv ybw vp yp (qe 0) (qd qx qg)) (yj qbs qax rfl T.b_int qaA (qd (wU (j4 hr) z0 (qe 0) qx (qJ _)) qg))) qg)) (qc2 (n:=2) rfl (j8 (zE (i:=2) je.nd) (j8 (zE (i:=3) je.nd) qaS))) (qj (qW (i:=4) je.nd (jm ybv ybw vp yp (qe 3) (qd qx qg)))
   (qj (qW (i:=5) je.nd (jm ybv ybw vp yp (zA jb qQ (qe 4) qi) (qd qx qg)))
   (qj (jr (DW.dt (ui (qU qgD qc4 (qe 2) qi (qJ _)) (ui (qU (j4 hr) z0 (zf z5 ji rfl T.b_len vj (qd (qe 4) qg)) qi (qJ _)) (ui (qU (j4 hr) z0 (zf z5 ji rfl T.b_len vj (qd (qe 5) qg)) qi (qJ _)) (uc (qU (ql6 hr) qjM (dC Cb hr (qd (zA jb qQ (qe 5) qi) qg)) (zN (qd yi (qd qi qg))) rfl)))))) (ql (qK (qe 2))) qM)
   (qj (jr (DW.dt (ui (qU qas vH (dC Cb hr (qd (zA jb qQ (qe 5) qi) qg)) yi (qJ _)) (uc (DW.dt (qav (qU (j4 hr) z0 (zA jb qQ (qe 4) qi) qx (qJ _)) (vE (qU qas vH (dC Cb hr (qd (zA jb qQ (qe 4) qi) qg)) yi (qJ _)))))))) (ql (qK (qe 2))) qM)
   (ql (vG (ul (i:=1) (zN (qd (dC Cb hr (qd (zA jb qQ (qe 5) qi) qg)) (qd (dC Cb hr (qd (zA jb qQ (qe 5) qi) qg)) (qd (dC Cb hr (qd (zA jb qQ (qe 4) qi) qg)) qg))))))))))))
   (ql (qK (qcq (i:=1) rfl T.b_tuple vk)))))
theorem uT:qF ["number","signs","rest"] ["number"] (qh yQ):=%[0|1]
theorem q15 (F:Fun K "figures" "figures" yQ f fd) (m:mg "figures"=some (.ref f)) (T:Txt K mg) (XTt:XT K mg RN TN) (hB:K.In base):Q15 P w K mg base:=by
 refine %[f,fd,m,F,[_]|2]
 exact zZ (N:=["number","signs","rest"]) (O:=[1]) (body:=qcb) F uT (by decide) λcdv A outer s H E B hr=>(qj (u6 (i:=1) uT.nd (qbI (qd (zA jb qQ (gS T.c_FIGURES) (qy wK u3 (qe 0) qi)) qg)))
   (qj (qW (i:=2) uT.nd (qy wJ ve (qe 0) qi))
   (qj (qfO 40 ybm (qU qgD qc4 (qe 2) qi (qJ _)) (qj (vG (ul (i:=1) (zA jb qQ (gS T.c_FIGURES) (qy wK u3 (qe 2) qi))))
   (ql (qW (i:=2) uT.nd (qy wJ ve (qe 2) qi)))))
   (ql (qK (qjZ (i:=1) rfl rfl T.b_reversed))))))
theorem wn:qF ["kind","most"] ["kind"] (qh jA):=%[0|1]
theorem q16 (F:Fun K "show_kind" "show_kind" jA f fd) (m:mg "show_kind"=some (.ref f)) (T:Txt K mg) (XTt:XT K mg RN TN) (hB:K.In base) (Cg:Q15 P w K mg base):Q16 P w K mg base:=by
 refine %[f,fd,m,F,[_]|2]
 exact zZ (N:=["kind","most"]) (O:=[]) (body:=u9) F wn (by decide) λcdv A outer s H E B hr=>(qj (qW (i:=1) wn.nd (qgI (qU qas vH (zA jb qQ (qe 0) (gI T.c_MOST)) yi (qJ _)) qx (dC Cg hr (qd (zA jb qQ (qe 0) (gI T.c_MOST)) qg))))
   (ql (qK (qy qG qH (qy qG qH (qy qG qH (qy qG qH (dC Cg hr (qd (zA jb qQ (qe 0) (gI T.c_WEIGHT)) qg)) qx) (dC Cg hr (qd (zA jb qQ (qe 0) (gI T.c_WORTH)) qg))) qx) (qe 1)))))
theorem qcV:qF ["thing"] ["thing"] (qh jB):=%[0|1]
theorem q17 (F:Fun K "is_store" "is_store" jB f fd) (m:mg "is_store"=some (.ref f)) (T:Txt K mg) (XTt:XT K mg RN TN) (hB:K.In base) (Cf:Q2 P w K mg base):Q17 P w K mg base:=by
 refine %[f,fd,m,F,[_]|2]
 exact zZ (N:=["thing"]) (O:=[]) (body:=vW) F qcV (by decide) λcdv A outer s H E B hr=>(qj (jr (DW.dt (ui (ua (yw (v5 qbF rfl T.b_isinstance rfl T.b_tuple vk (qe 0) qC))) (uc (qU qgD qc4 (zf z5 ji rfl T.b_len vj (qd (qe 0) qg)) (gI T.c_KINDS_AT_MOST) (qJ _))))) (ql (qK uZ)) qM)
   (ql (qK (zf (qc8 rfl) qbH rfl T.b_all qh5 (qd (wZ (fo:=none) rfl (qda (qe 0)) (cs ["thing"] ["part"] 1 [] (qh jB)) (f0 [] []) (λ_ _ _ _ _ _ _ _ _ _ _=>⟨(zE (i:=0) (nd ["part"])),qdb,(dC Cf hr (qd (qe 0) qg))⟩)) qg)))))
theorem qbm:qF ["thing"] ["thing"] (qh zT):=%[0|1]
theorem q18 (F:Fun K "need_store" "need_store" zT f fd) (m:mg "need_store"=some (.ref f)) (T:Txt K mg) (XTt:XT K mg RN TN) (hB:K.In base) (CA:Q17 P w K mg base):Q18 P w K mg base:=by
 obtain⟨S,mS,xS⟩:=XTt.xcls hB
 obtain⟨CG,hc_NoStore⟩:=XTt.has (n:="NoStore") (by decide)
 have mc_NoStore:=XTt.mgc _ _ (XTt.cls hc_NoStore).1
 obtain⟨bm_NoStore,xc_NoStore⟩:=xS.raw _ _ hc_NoStore (by decide)
 refine⟨f,fd,?_,m,F.kp,F.binds λ_ _ _ _ _ _ us hl=>match us,hl with | [_],_=>rfl⟩
 show uY P w K mg base (CX1 P w) 5 f fd ["thing"] (spX K (clR K RN) (qbU (["thing"]:List Str).length (["thing"]:List Str).length yy))
 refine qfE (N:=["thing"]) (ps:=["thing"]) (k:=4) (O:=[]) (body:=yy) (cl:=clR K RN) F qbm ?a ?b
 case a=>decide
 intro cdv A outer s H E B hr
 have L:=qfD (P:=P) (w:=w) (K:=K) (mg:=mg) (base:=base) (N:=["thing"]) (qual:="need_store") (scope:=qh zT) (f:=f) (cdv:=cdv) (A:=A) (outer:=outer) (s:=s) (H:=H) (E:=E) (c:=cfn [] [] B H (λ_=>False) (λx H'=>∀C dd,clR K RN x.cls=some C->XV x.val dd H'->E (.ref C) dd H') λ_=>none) (cl:=clR K RN) rfl (λx C dd H' h1 h2 xv=>h2 C dd h1 xv)
 exact(ql (jr (ua (yw (dC CA hr (qd (qe 0) qg)))) (ql (qg1 rfl L hc_NoStore rfl mc_NoStore xc_NoStore (qd qx qg))) qM))
theorem qkE:qF ["store"] ["store"] (qh wf):=%[0|1]
theorem q19 (F:Fun K "show" "show" wf f fd) (m:mg "show"=some (.ref f)) (T:Txt K mg) (XTt:XT K mg RN TN) (hB:K.In base) (Cp:Q16 P w K mg base) (CC:Q18 P w K mg base):Q19 P w K mg base:=by
 have hcl:∀n,RN.contains n=true->(clR K RN n).isSome=true:=λn hn=>Option.isSome_iff_exists.mpr (XTt.has hn)
 refine⟨f,fd,?_,m,F.kp,F.binds λ_ _ _ _ _ _ us hl=>match us,hl with | [_],_=>rfl⟩
 show uY P w K mg base (CX1 P w) 6 f fd ["store"] (spX K (clR K RN) (qbU (["store"]:List Str).length (["store"]:List Str).length qdE))
 refine qfE (N:=["store"]) (ps:=["store"]) (k:=5) (O:=[]) (body:=qdE) (cl:=clR K RN) F qkE ?a ?b
 case a=>decide
 intro cdv A outer s H E B hr
 have L:=qfD (P:=P) (w:=w) (K:=K) (mg:=mg) (base:=base) (N:=["store"]) (qual:="show") (scope:=qh wf) (f:=f) (cdv:=cdv) (A:=A) (outer:=outer) (s:=s) (H:=H) (E:=E) (c:=cfn [] [] B H (λ_=>False) (λx H'=>∀C dd,clR K RN x.cls=some C->XV x.val dd H'->E (.ref C) dd H') λ_=>none) (cl:=clR K RN) rfl (λx C dd H' h1 h2 xv=>h2 C dd h1 xv)
 exact (qj (vG (xC L.two hcl CC hr (qd (qe 0) qg)))
   (ql (qK (jm ycb ycc qa6 uM qx (qd (wZ (fo:=none) rfl (qda (qe 0)) (cs ["store"] ["kind"] 1 [] (qh wf)) (f0 [] []) (λ_ _ _ _ _ _ _ _ _ _ _=>⟨(zE (i:=0) (nd ["kind"])),qdb,(dC Cp hr (qd (qe 0) qg))⟩)) qg)))))
theorem zm:qF ["box","ends","way","heavy","dear","often"] ["box","ends"] (qh zJ):=%[0|1]
theorem q20 (F:Fun K "_law_kind_of" "_law_kind_of" zJ f fd) (m:mg "_law_kind_of"=some (.ref f)) (T:Txt K mg) (XTt:XT K mg RN TN) (hB:K.In base) (Ca:Q10 P w K mg base):Q20 P w K mg base:=by
 refine⟨f,fd,?_,m,F.kp,F.binds λ_ _ _ _ _ _ us hl=>match us,hl with | [_,_],_=>rfl⟩
 show uY P w K mg base CX0 2 f fd ["box","ends"] (qdd K (u7 (["box","ends","way","heavy","dear","often"]:List Str).length (["box","ends"]:List Str).length jN))
 refine qfh (N:=["box","ends","way","heavy","dear","often"]) (ps:=["box","ends"]) (k:=1) (O:=[0]) (body:=jN) F zm ?a ?a0 ?b
 case a=>decide
 case a0=>decide
 intro cdv A outer s H E B Io S hr
 exact (qj (qW (i:=2) zm.nd (iC (i:=0) Ca hr (qd qi qg)))
   (qj (qh4 (i:=3) (j:=4) zm.nd (qd (qy qG qH qi (iC (i:=0) Ca hr (qd qi qg))) (qd (iC (i:=0) Ca hr (qd qi qg)) qg)) rfl)
   (qj (jr (qU (yM hr) jk (qe 2) qi (qJ _)) (ql (qW (i:=4) zm.nd (qy yF jJ qi (qe 3)))) qM)
   (qj (jr (qU (yM hr) jk (qe 2) qi (qJ _)) (ql (qW (i:=4) zm.nd (qy qG qH (qe 3) (iC (i:=0) Ca hr (qd qi qg))))) qM)
   (qj (jr (qU (yM hr) jk (qe 2) qi (qJ _)) (ql (qh4 (i:=3) (j:=4) zm.nd (qd (qy qG qH qi (iC (i:=0) Ca hr (qd qi qg))) (qd (iC (i:=0) Ca hr (qd qi qg)) qg)) rfl)) qM)
   (qj (qW (i:=5) zm.nd (zA uo uj (zO (qd qi (qd qi (qd qi (qd qi (qd qi (qd qi (qd qi (qd (qe 1) qg))))))))) (iC (i:=0) Ca hr (qd qi qg))))
   (ql (qK (zN (qd (qe 3) (qd (qe 4) (qd (qe 5) qg))))))))))))
theorem zU:qF ["box","most","ends","found","k","kind"] ["box","most","ends"] (qh zK):=%[0|1]
theorem q21 (F:Fun K "_law_stocked" "_law_stocked" zK f fd) (m:mg "_law_stocked"=some (.ref f)) (T:Txt K mg) (XTt:XT K mg RN TN) (hB:K.In base) (Ca:Q10 P w K mg base) (Cw:Q20 P w K mg base):Q21 P w K mg base:=by
 refine⟨f,fd,?_,m,F.kp,F.binds λ_ _ _ _ _ _ us hl=>match us,hl with | [_,_,_],_=>rfl⟩
 show uY P w K mg base CX0 3 f fd ["box","most","ends"] (qdd K (u7 (["box","most","ends","found","k","kind"]:List Str).length (["box","most","ends"]:List Str).length jO))
 refine qfh (N:=["box","most","ends","found","k","kind"]) (ps:=["box","most","ends"]) (k:=2) (O:=[0,3]) (body:=jO) F zU ?a ?a0 ?b
 case a=>decide
 case a0=>decide
 intro cdv A outer s H E B Io S hr
 exact (qj (u6 (i:=3) zU.nd (qbI qg))
   (qj (v6 ybm rfl (vg rfl T.b_range (qd (iC (i:=0) Ca hr (qd (qy qG qH (qe 1) qi) qg)) qg)) (zE (i:=4) zU.nd) (qj (qW (i:=5) zU.nd (iC (i:=0) Cw hr (qd (qe 2) qg)))
   (qj (jr (DW.dt (qav (qlQ (i:=3) hr (zO qg)) (vE (qU (yM hr) jk (iC (i:=0) Ca hr (qd qi qg)) qi (qJ _))))) (ql (qW (i:=5) zU.nd (qdc (i:=3) (iC (i:=0) Ca hr (qd (qjj (i:=3) rfl T.b_len) qg))))) qM)
   (ql (vG (ul (i:=3) (qe 5)))))))
   (ql (qK (qcq (i:=3) rfl T.b_tuple vk)))))
theorem y9:qF ["cell","k","some","stir"] ["cell","k"] (qh ye):=%[0|1]
theorem q22 (F:Fun K "_law_mix" "_law_mix" ye f fd) (m:mg "_law_mix"=some (.ref f)) (T:Txt K mg) (XTt:XT K mg RN TN) (hB:K.In base):Q22 P w K mg base:=by
 refine %[f,fd,m,F,[_,_]|2]
 exact zZ (N:=["cell","k","some","stir"]) (O:=[]) (body:=vX) F y9 (by decide) λcdv A outer s H E B hr=>(qj (qW (i:=2) y9.nd (zO (qd qi (qd qi (qd qi (qd qi (qd qi (qd qi (qd qi (qd qi (qd qi (qd qi (qd qi (qd qi (qd qi qg)))))))))))))))
   (qj (qW (i:=3) y9.nd (qy qG qH (qy qG qH (qy yF jJ (qy qG qH (qy wK u3 (qe 0) qi) qi) (zA uo uj (qe 2) (qy wK u3 (qe 1) qi))) (qy yF jJ qi (qe 1))) (qy yF jJ qi (qy wJ ve (qe 1) qi))))
   (qj (qW (i:=3) y9.nd (qy wK u3 (qe 3) qi))
   (ql (qK (qy wJ ve (qy wK u3 (qy qG qH (qy yF jJ (qe 3) (qe 3)) (qy yF jJ qi (qe 1))) qi) qi))))))
theorem qce:qF ["script","k"] ["script","k"] (qh jC):=%[0|1]
theorem q23 (F:Fun K "_law_cell" "_law_cell" jC f fd) (m:mg "_law_cell"=some (.ref f)) (T:Txt K mg) (XTt:XT K mg RN TN) (hB:K.In base):Q23 P w K mg base:=by
 refine %[f,fd,m,F,[_,_]|2]
 exact zZ (N:=["script","k"]) (O:=[]) (body:=yZ) F qce (by decide) λcdv A outer s H E B hr=>(qj (jr (qU qld qhW (qe 1) (zf z5 ji rfl T.b_len vj (qd (qe 0) qg)) (qJ _)) (ql (qK (zA uo uj (qe 0) (qe 1)))) qM)
   (ql (qK qi)))
theorem yu:qF ["script","k","cell","number","j"] ["script","k"] (qh yf):=%[0|1]
theorem q24 (F:Fun K "_law_box" "_law_box" yf f fd) (m:mg "_law_box"=some (.ref f)) (T:Txt K mg) (XTt:XT K mg RN TN) (hB:K.In base) (Cq:Q22 P w K mg base) (Cu:Q23 P w K mg base):Q24 P w K mg base:=by
 refine %[f,fd,m,F,[_,_]|2]
 exact zZ (N:=["script","k","cell","number","j"]) (O:=[]) (body:=uS) F yu (by decide) λcdv A outer s H E B hr=>(qj (qW (i:=2) yu.nd (dC Cu hr (qd (qe 0) (qd (qe 1) qg))))
   (qj (jr (qU (yM hr) jk (qy wK u3 (qe 2) qi) qi (qJ _)) (ql (qK (zO (qd (qy wJ ve (zf qgE qe5 rfl T.b_abs qlV (qd (qe 2) qg)) qi) qg)))) qM)
   (qj (qW (i:=3) yu.nd qi)
   (qj (v6 ybm rfl (vg rfl T.b_range (qd qi qg)) (zE (i:=4) yu.nd) (ql (qW (i:=3) yu.nd (qy qG qH (qy yF jJ (qe 3) qi) (dC Cq hr (qd (qe 2) (qd (qe 4) qg)))))))
   (ql (qK (zO (qd (qe 3) qg))))))))
theorem uE:qF ["script","k","box","store","words","heavy","dear","most","text","some","odd"] ["script"] (qh qar):=%[0|1]
theorem qmJ (F:Fun K "law" "law" qar f fd) (T:Txt K mg) (XTt:XT K mg RN TN) (hB:K.In base) (Ce:Q9 P w K mg base) (Cz:Q11 P w K mg base) (Ct:Q12 P w K mg base) (Cr:Q14 P w K mg base) (Cc:Q19 P w K mg base) (Cy:Q21 P w K mg base) (Cs:Q24 P w K mg base):uY P w K mg base CX0 7 f fd ["script"] (spD K qcL):=by
 exact zZ (N:=["script","k","box","store","words","heavy","dear","most","text","some","odd"]) (O:=[2,4]) (body:=qkm) F uE (by decide) λcdv A outer s H E B hr=>(qj (jr (DW.dt (ui (qU (j4 hr) z0 (dC Ce hr (qd (jm ycb ycc qa6 uM qx (qd (qy yF jJ (zO (qd qx qg)) qi) qg)) qg)) qi (qJ _)) (ui (qU (j4 hr) z0 (dC Ce hr (qd qx qg)) qi (qJ _)) (uc (qU (j4 hr) z0 (pC Cc hr (qd (zN qg) qg)) qx (qJ _)))))) (ql (qK uZ)) qM)
   (qj (v6 ybm rfl (vg rfl T.b_range (qd (zf (qeP rfl) qe6 rfl T.b_max qlW (qd qi (qd (zf (qeQ rfl) qe7 rfl T.b_min qlX (qd (zf z5 ji rfl T.b_len vj (qd (qe 0) qg)) (qd qi qg))) qg))) qg)) (zE (i:=1) uE.nd) (qj (u6 (i:=2) uE.nd (nC Cs hr (qd (qe 0) (qd (qe 1) qg))))
   (qj (qW (i:=3) uE.nd (iC (i:=2) Cy hr (qd qi (qd yi qg))))
   (qj (u6 (i:=4) uE.nd (qbI qg))
   (qj (v6 ybm rfl (qda (qe 3)) (qc2 (n:=3) rfl (j8 (zE (i:=5) uE.nd) (j8 (zE (i:=6) uE.nd) (j8 (zE (i:=7) uE.nd) qaS)))) (ql (vG (ul (i:=4) (qy qG qH (qy qG qH (qy qG qH (qy qG qH (yj uh vQ rfl T.b_str qbP (qd (qe 5) qg)) qx) (yj uh vQ rfl T.b_str qbP (qd (qe 6) qg))) qx) (qgI (qU qas vH (qe 7) yi (qJ _)) qx (yj uh vQ rfl T.b_str qbP (qd (qe 7) qg))))))))
   (qj (qW (i:=8) uE.nd (qjK (i:=4) (jm ycb ycc qa6 uM qx (qd (qe 4) qg))))
   (qj (jr (qU (j4 hr) z0 (zf (uH hr) uI rfl T.b_repr qaW (qd (pC Cc hr (qd (qe 3) qg)) qg)) (zf (uH hr) uI rfl T.b_repr qaW (qd (qe 8) qg)) (qJ _)) (ql (qK uZ)) qM)
   (qj (v6 ybm rfl (qda (qy qG qH (zO (qd (qe 8) (qd (qy qG qH (qe 8) qx) (qd (qy qG qH qx (qe 8)) (qd qx qg))))) (wZ (fo:=(some (1,2))) rfl (vg rfl T.b_range (qd qi qg)) (cs ["script","k","box","store","words","heavy","dear","most","text","some","odd"] ["lap","box","text"] 1 [2,8] (qh qar)) (f1 1 [2,8] [2,4] 1 2) (λ_ _ _ _ _ _ _ _ _ _ _=>⟨(zE (i:=0) (nd ["lap","box","text"])),qdb,(iC (i:=1) Ct hr (qd (qe 2) qg))⟩)))) (zE (i:=9) uE.nd) (ql (jr (qU (j4 hr) z0 (zf (uH hr) uI rfl T.b_repr qaW (qd (dC Ce hr (qd (qe 9) qg)) qg)) (zf (uH hr) uI rfl T.b_repr qaW (qd (dC Cr hr (qd (qe 9) qg)) qg)) (qJ _)) (ql (qK uZ)) qM)))
   (qj (qW (i:=10) uE.nd (iC (i:=2) Cz hr qg))
   (ql (jr (DW.dt (ui (DW.dt (qav (ua (yw (v5 qe9 rfl T.b_isinstance rfl T.b_str qbP (qe 10) qC))) (vE (qU (j4 hr) z0 (dC Ce hr (qd (qe 10) qg)) qi (qJ _))))) (uc (qU (j4 hr) z0 (dC Ce hr (qd (zO (qd (qe 8) qg)) qg)) qi (qJ _))))) (ql (qK uZ)) qM)))))))))))
   (ql (qK uZ))))
theorem vC:qF ["self","at"] ["self","at"] (qh zj):=%[0|1]
theorem qV {f C:Addr} {fd:yaD} (F:Fun K "__init__" "NoText.__init__" zj f fd) (hC:jq K "NoText"=some C) (mg_:∀n C,jq K n=some C->mg n=some (.ref C)) (hB:K.In base) (hx:qmU K C f=true) (hf:PySem.W.isFn K (.ref f)=true):qa8 P w K mg base:=by
 obtain⟨S,hS,xs,xc,xi⟩:=qny hB hx
 refine⟨C,f,fd,hC,xi,qek hB hf,qhm F vC (mg_ _ _ hS) xs xc rfl (λX h1 h2=>?_) (λenv h=>⟨_,rfl⟩),F.binds λ_ _ _ _ _ _ us hl=>match us,hl with | [_,_],_=>rfl,xc⟩
 ·exact⟨by unfold Gl Env.kindOf;rw[h2];rfl,yI (by rw[h1];rfl) (by rw[h2];exact ya0 rfl),yI (by rw[h1];rfl) (by rw[h2];exact ya0 rfl),yI (by rw[h1];rfl) (by rw[h2];exact ya0 rfl)⟩
end
theorem all_mk {l:yd3} {w:World} {K:yae} {h:Heap} {mg:Str->Option Value} {fa f0 f1 f2 f3 f4 f5 f6 f7 f8 f9 f10 f11 f12 f13 f14 f15 f16 f17 f18 f19 f20 f21 f22 f23 f24 f25:Addr} (X:K.In h) (G:h.Ns yaf mg) (hfa:mg "law"=some (.ref fa))
  {od0 an0 od1 an1 od2 an2 od3 an3 od4 an4 od5 an5 od6 an6 od7 an7 od8 an8 od9 an9 od10 an10 od11 an11 od12 an12 od13 an13 od14 an14 od15 an15 od16 an16 od17 an17 od18 an18 od19 an19 od20 an20 od21 an21 od22 an22 od23 an23 od24 an24 od25 an25:Option Addr} {sl0 sl1 sl2 sl3 sl4 sl5 sl6 sl7 sl8 sl9 sl10 sl11 sl12 sl13 sl14 sl15 sl16 sl17 sl18 sl19 sl20 sl21 sl22 sl23 sl24 sl25:Array (Option Value)} {oc0 kV0 dc0 pm0 cd0 ct0 oc1 kV1 dc1 pm1 cd1 ct1 oc2 kV2 dc2 pm2 cd2 ct2 oc3 kV3 dc3 pm3 cd3 ct3 oc4 kV4 dc4 pm4 cd4 ct4 oc5 kV5 dc5 pm5 cd5 ct5 oc6 kV6 dc6 pm6 cd6 ct6 oc7 kV7 dc7 pm7 cd7 ct7 oc8 kV8 dc8 pm8 cd8 ct8 oc9 kV9 dc9 pm9 cd9 ct9 oc10 kV10 dc10 pm10 cd10 ct10 oc11 kV11 dc11 pm11 cd11 ct11 oc12 kV12 dc12 pm12 cd12 ct12 oc13 kV13 dc13 pm13 cd13 ct13 oc14 kV14 dc14 pm14 cd14 ct14 oc15 kV15 dc15 pm15 cd15 ct15 oc16 kV16 dc16 pm16 cd16 ct16 oc17 kV17 dc17 pm17 cd17 ct17 oc18 kV18 dc18 pm18 cd18 ct18 oc19 kV19 dc19 pm19 cd19 ct19 oc20 kV20 dc20 pm20 cd20 ct20 oc21 kV21 dc21 pm21 cd21 ct21 oc22 kV22 dc22 pm22 cd22 ct22 oc23 kV23 dc23 pm23 cd23 ct23 oc24 kV24 dc24 pm24 cd24 ct24 oc25 kV25 dc25 pm25 cd25 ct25:Value} {tk_FIGURES:Tok} {tk_KINDS_AT_MOST:Tok} {tk_MOST:Tok} {tk_WEIGHT:Tok} {tk_WORTH:Tok} {nC nI:Addr} {odN anN:Option Addr} {slN:Array (Option Value)} {ocN kVN dcN pmN cdN ctN:Value}
  (zn:yak K yaf "NoText"=some (some (.ref nC))) (zn0:yb5 K (.ref nC) "__init__"=some (some (.ref nI))) (zn1:PySem.W.isFn K (.ref nI)=true) (zn2:K.lookup nI=some ⟨ocN,odN,.func (yau "__init__" "NoText.__init__" (qN zj) (qE zj) (qh zj) .none kVN dcN pmN anN cdN ctN),slN⟩) (zn3:yas K cdN "NoText.__init__"=true) (zn4:yal K (.ref nI)=true) (zn5:qmU K nC nI=true)
  (a0:%["is_whole",f0|3]) (l0:%["is_whole",yc,0|4]) (c0:%["is_whole",cd0|5]) (k0:%[f0|6])
  (a1:%["is_count",f1|3]) (l1:%["is_count",yd,1|4]) (c1:%["is_count",cd1|5]) (k1:%[f1|6])
  (a2:%["is_kind",f2|3]) (l2:%["is_kind",yP,2|4]) (c2:%["is_kind",cd2|5]) (k2:%[f2|6])
  (a3:%["number_of",f3|3]) (l3:%["number_of",ju,3|4]) (c3:%["number_of",cd3|5]) (k3:%[f3|6])
  (a4:%["is_figures",f4|3]) (l4:%["is_figures",zQ,4|4]) (c4:%["is_figures",cd4|5]) (k4:%[f4|6])
  (a5:%["read_kind",f5|3]) (l5:%["read_kind",jv,5|4]) (c5:%["read_kind",cd5|5]) (k5:%[f5|6])
  (a6:%["read",f6|3]) (l6:%["read",qaj,6|4]) (c6:%["read",cd6|5]) (k6:%[f6|6])
  (a7:%["_law_marks",f7|3]) (l7:%["_law_marks",zR,7|4]) (c7:%["_law_marks",cd7|5]) (k7:%[f7|6])
  (a8:%["_law_whole",f8|3]) (l8:%["_law_whole",zS,8|4]) (c8:%["_law_whole",cd8|5]) (k8:%[f8|6])
  (a9:%["_law_said",f9|3]) (l9:%["_law_said",jw,9|4]) (c9:%["_law_said",cd9|5]) (k9:%[f9|6])
  (a10:%["_law_take",f10|3]) (l10:%["_law_take",jx,10|4]) (c10:%["_law_take",cd10|5]) (k10:%[f10|6])
  (a11:%["_law_odd_thing",f11|3]) (l11:%["_law_odd_thing",zq,11|4]) (c11:%["_law_odd_thing",cd11|5]) (k11:%[f11|6])
  (a12:%["_law_bent",f12|3]) (l12:%["_law_bent",jy,12|4]) (c12:%["_law_bent",cd12|5]) (k12:%[f12|6])
  (a13:%["_law_number_in",f13|3]) (l13:%["_law_number_in",zc,13|4]) (c13:%["_law_number_in",cd13|5]) (k13:%[f13|6])
  (a14:%["_law_read",f14|3]) (l14:%["_law_read",jz,14|4]) (c14:%["_law_read",cd14|5]) (k14:%[f14|6])
  (a15:%["figures",f15|3]) (l15:%["figures",yQ,15|4]) (c15:%["figures",cd15|5]) (k15:%[f15|6])
  (a16:%["show_kind",f16|3]) (l16:%["show_kind",jA,16|4]) (c16:%["show_kind",cd16|5]) (k16:%[f16|6])
  (a17:%["is_store",f17|3]) (l17:%["is_store",jB,17|4]) (c17:%["is_store",cd17|5]) (k17:%[f17|6])
  (a18:%["need_store",f18|3]) (l18:%["need_store",zT,18|4]) (c18:%["need_store",cd18|5]) (k18:%[f18|6])
  (a19:%["show",f19|3]) (l19:%["show",wf,19|4]) (c19:%["show",cd19|5]) (k19:%[f19|6])
  (a20:%["_law_kind_of",f20|3]) (l20:%["_law_kind_of",zJ,20|4]) (c20:%["_law_kind_of",cd20|5]) (k20:%[f20|6])
  (a21:%["_law_stocked",f21|3]) (l21:%["_law_stocked",zK,21|4]) (c21:%["_law_stocked",cd21|5]) (k21:%[f21|6])
  (a22:%["_law_mix",f22|3]) (l22:%["_law_mix",ye,22|4]) (c22:%["_law_mix",cd22|5]) (k22:%[f22|6])
  (a23:%["_law_cell",f23|3]) (l23:%["_law_cell",jC,23|4]) (c23:%["_law_cell",cd23|5]) (k23:%[f23|6])
  (a24:%["_law_box",f24|3]) (l24:%["_law_box",yf,24|4]) (c24:%["_law_box",cd24|5]) (k24:%[f24|6])
  (a25:%["law",f25|3]) (l25:%["law",qar,25|4]) (c25:%["law",cd25|5]) (k25:%[f25|6])
  (zb_ValueError:yak K yaf "ValueError"=some none)
  (zb_abs:yak K yaf "abs"=some none)
  (zb_all:yak K yaf "all"=some none)
  (zb_bool:yak K yaf "bool"=some none)
  (zb_divmod:yak K yaf "divmod"=some none)
  (zb_enumerate:yak K yaf "enumerate"=some none)
  (zb_int:yak K yaf "int"=some none)
  (zb_isinstance:yak K yaf "isinstance"=some none)
  (zb_len:yak K yaf "len"=some none)
  (zb_list:yak K yaf "list"=some none)
  (zb_max:yak K yaf "max"=some none)
  (zb_min:yak K yaf "min"=some none)
  (zb_range:yak K yaf "range"=some none)
  (zb_repr:yak K yaf "repr"=some none)
  (zb_reversed:yak K yaf "reversed"=some none)
  (zb_str:yak K yaf "str"=some none)
  (zb_tuple:yak K yaf "tuple"=some none)
  (xz:qnq K RN TN=true)
  (zg_FIGURES:yak K yaf "FIGURES"=some (some (.str "0123456789" tk_FIGURES)))
  (zg_KINDS_AT_MOST:yak K yaf "KINDS_AT_MOST"=some (some (.int 12 tk_KINDS_AT_MOST)))
  (zg_MOST:yak K yaf "MOST"=some (some (.int 2 tk_MOST)))
  (zg_WEIGHT:yak K yaf "WEIGHT"=some (some (.int 0 tk_WEIGHT)))
  (zg_WORTH:yak K yaf "WORTH"=some (some (.int 1 tk_WORTH))) :
  ∃fd:yaD,(∀(s:yaa)(v:Value),ydJ s fd ⟨[v],[]⟩ [("script",v)])/\∀base:Heap,K.In base->base.Ns yaf mg->uY l.prog w K mg base CX0 7 fa fd ["script"] (spD K qcL):=by
 have e:=hfa.symm.trans (yav X G a25)
 cases e
 have T:Txt K mg:=⟨yaB X G zb_ValueError,yaB X G zb_abs,yaB X G zb_all,yaB X G zb_bool,yaB X G zb_divmod,yaB X G zb_enumerate,yaB X G zb_int,yaB X G zb_isinstance,yaB X G zb_len,yaB X G zb_list,yaB X G zb_max,yaB X G zb_min,yaB X G zb_range,yaB X G zb_repr,yaB X G zb_reversed,yaB X G zb_str,yaB X G zb_tuple,⟨_,yav X G zg_FIGURES⟩,⟨_,yav X G zg_KINDS_AT_MOST⟩,⟨_,yav X G zg_MOST⟩,⟨_,yav X G zg_WEIGHT⟩,⟨_,yav X G zg_WORTH⟩⟩
 refine⟨yau "law" "law" (qN qar) (qE qar) (qh qar) .none kV25 dc25 pm25 an25 cd25 ct25,λs v => .of_eq rfl,λbase hB _=>?_⟩
 have XTt:XT K mg RN TN:=⟨xz,qdr X G⟩
 have hnC:jq K "NoText"=some nC:=by unfold jq;rw[zn]
 have V_NoText:qa8 l.prog w K mg base:=qV (w:=w) (zy (st:=zj) zn2 zn3 zn4) hnC (qdr X G) hB zn5 zn1
 have Cv:=%[q0,yc,0|7] XTt hB
 have Ci:=%[q1,yd,1|7] XTt hB Cv
 have Cf:=%[q2,yP,2|7] XTt hB Ci
 have Cj:=%[q3,ju,3|7] XTt hB
 have Ch:=%[q4,zQ,4|7] XTt hB
 have CD:=%[q5,jv,5|7] XTt hB Cf Cj Ch
 have Cd:=%[q6,qaj,6|7] XTt hB CD V_NoText
 have Ck:=%[q7,zR,7|7] XTt hB
 have Co:=%[q8,zS,8|7] XTt hB
 have Ce:=%[q9,jw,9|7] XTt hB Cd Ck Co V_NoText
 have Ca:=%[q10,jx,10|7] XTt hB
 have Cz:=%[q11,zq,11|7] XTt hB Ca
 have Ct:=%[q12,jy,12|7] XTt hB Ca
 have Cb:=%[q13,zc,13|7] XTt hB
 have Cr:=%[q14,jz,14|7] XTt hB Cb
 have Cg:=%[q15,yQ,15|7] XTt hB
 have Cp:=%[q16,jA,16|7] XTt hB Cg
 have CA:=%[q17,jB,17|7] XTt hB Cf
 have CC:=%[q18,zT,18|7] XTt hB CA
 have Cc:=%[q19,wf,19|7] XTt hB Cp CC
 have Cw:=%[q20,zJ,20|7] XTt hB Ca
 have Cy:=%[q21,zK,21|7] XTt hB Ca Cw
 have Cq:=%[q22,ye,22|7] XTt hB
 have Cu:=%[q23,jC,23|7] XTt hB
 have Cs:=%[q24,yf,24|7] XTt hB Cq Cu
 exact qmJ (P:=l.prog) (w:=w) (base:=base) (zy (st:=qar) l25 c25 k25) T XTt hB Ce Cz Ct Cr Cc Cy Cs
theorem qnK {K:Fr0} {H:Hp} {a:Addr} {ns:List Int} (hO:qmL H) (hS:SqL K H a (ns.map V.int)):qlw K H a (ns.map V.int):=by
 rcases hS with(h|h)|h
 ·rcases hO a with z|z
  ·rw[h]at z;cases z
  ·rcases z with⟨_,_,z⟩|⟨_,_,z⟩<;>(rw[h]at z;cases z)
 ·exact .inl h
 ·exact .inr h
theorem walk {l:yd3} {q:yai} {loose:List Str} {XP:(Str->Option Value)->Heap->Prop} {YP:World->Heap->Prop} {d:DefRec} {K:Params->yae} (hn:l.most=some 63) (hdf:d.params.defaults=[])
  (hY:∀(w:World)(h:Heap),YP w h->(K w.params).In h) (hlm:∀(w:World)(mean:ExcName->Option Value)(mg mb:Str->Option Value)(h:Heap)(c Pt:Addr)(pos:Pos),Top q (PySem.W.looseW q loose) mean mg mb h->(K w.params).In h->lamOf (K w.params)=some (c,Pt,pos)->yen h c Pt/\h.get? Pt=some (yeo #[])/\(K w.params).lookup Pt=none) (hlaw:∀ns:List Int,ns.length<=63->qcL [.fz ns]=.ok (.bl true))
  (F:∀(w:World)(mg:Str->Option Value)(fa:Addr)(h:Heap),(K w.params).In h->h.Ns yaf mg->mg d.name=some (.ref fa) ->
   ∃fd:yaD,(∀(s:yaa)(u:Value),ydJ s fd ⟨[u],[]⟩ [("script",u)])/\∀base:Heap,(K w.params).In base->base.Ns yaf mg->uY l.prog w (K w.params) mg base CX0 7 fa fd ["script"] (spD (K w.params) qcL)) :
  PySem.W.WalkO q loose XP YP l.row.toRowW d [] (λf vs=>yfC f vs) :=
 L2.walk_lam (n:=63) (k:=7) (x:="script") (CX:=λ_=>CX0) (sp:=λw=>spD (K w.params) qcL) (lm:=λw=>(lamOf (K w.params)).map λz=>(z.1,z.2.1,z.2.2,qni)) hn (by decide) hdf ⟨rfl,by decide,by decide,rfl⟩ hY (λw mean mg mb h c Pt pos z T X e=>by
  cases el:lamOf (K w.params) with
  |none=>rw[el]at e;cases e
  |some p=>obtain⟨c',P',pos'⟩:=p;rw[el]at e;cases e;exact hlm w mean mg mb h _ _ _ T X el) F (λw H a ns hl hO hT hS=>by
  refine⟨[.fz ns],λ_=>False,⟨.ref a,[],rfl,⟨a,rfl,qnK hO hS⟩,rfl⟩,λc P pos e=>⟨hT c P pos qni (by rw[e];rfl),λz=>z⟩,?_⟩
  rw[hlaw ns hl]
  exact λv H' _ h=>h) λ_ _ _ _ _ z=>z
end Law
end L2.Sk
open PySem PySem.W PyProof.Rows
set_option maxRecDepth 100000 in
set_option maxHeartbeats 0 in
theorem PySem.Challenge.cw_sackloads_k04_stores_written_and_read_holds : PySem.Challenge.rw_sackloads_k04_stores_written_and_read.Holds := by
 w_on;o_law;k_head;(case hw=>w_witness2)
 k_fill
 refine L2.Sk.Law.walk (l:=PySem.Challenge.rw_sackloads_k04_stores_written_and_read) rfl rfl (λw h Y=>by first|exact PySem.W.kIn_of Y|exact PySem.W.km_in_of Y) ?hlm0 L2.Sk.Law.law_true ?F
 case hlm0=>
  intro w mean mg mb h c Pt pos T X e
  exact absurd ((show L2.Sk.lamOf _=none by kernel_rfl).symm.trans e) (by simp)
 case F=>
  intro w mg fa h KX G hmg
  refine' L2.Sk.Law.all_mk KX G hmg ?zn ?zn0 ?zn1 ?zn2 ?zn3 ?zn4 ?zn5 ?a0 ?l0 ?c0 ?k0 ?a1 ?l1 ?c1 ?k1 ?a2 ?l2 ?c2 ?k2 ?a3 ?l3 ?c3 ?k3 ?a4 ?l4 ?c4 ?k4 ?a5 ?l5 ?c5 ?k5 ?a6 ?l6 ?c6 ?k6 ?a7 ?l7 ?c7 ?k7 ?a8 ?l8 ?c8 ?k8 ?a9 ?l9 ?c9 ?k9 ?a10 ?l10 ?c10 ?k10 ?a11 ?l11 ?c11 ?k11 ?a12 ?l12 ?c12 ?k12 ?a13 ?l13 ?c13 ?k13 ?a14 ?l14 ?c14 ?k14 ?a15 ?l15 ?c15 ?k15 ?a16 ?l16 ?c16 ?k16 ?a17 ?l17 ?c17 ?k17 ?a18 ?l18 ?c18 ?k18 ?a19 ?l19 ?c19 ?k19 ?a20 ?l20 ?c20 ?k20 ?a21 ?l21 ?c21 ?k21 ?a22 ?l22 ?c22 ?k22 ?a23 ?l23 ?c23 ?k23 ?a24 ?l24 ?c24 ?k24 ?a25 ?l25 ?c25 ?k25 ?zb_ValueError ?zb_abs ?zb_all ?zb_bool ?zb_divmod ?zb_enumerate ?zb_int ?zb_isinstance ?zb_len ?zb_list ?zb_max ?zb_min ?zb_range ?zb_repr ?zb_reversed ?zb_str ?zb_tuple ?xz ?zg_FIGURES ?zg_KINDS_AT_MOST ?zg_MOST ?zg_WEIGHT ?zg_WORTH
  (case zn|zn0|zn1|zn2|zn3|zn4=>k_is)
  (case zn5=>kernel_rfl)
  (case a0|l0|c0|k0|a1|l1|c1|k1|a2|l2|c2|k2|a3|l3|c3|k3|a4|l4|c4|k4|a5|l5|c5|k5|a6|l6|c6|k6|a7|l7|c7|k7|a8|l8|c8|k8|a9|l9|c9|k9|a10|l10|c10|k10|a11|l11|c11|k11|a12|l12|c12|k12|a13|l13|c13|k13|a14|l14|c14|k14|a15|l15|c15|k15|a16|l16|c16|k16|a17|l17|c17|k17|a18|l18|c18|k18|a19|l19|c19|k19|a20|l20|c20|k20|a21|l21|c21|k21|a22|l22|c22|k22|a23|l23|c23|k23|a24|l24|c24|k24|a25|l25|c25|k25|zb_ValueError|zb_abs|zb_all|zb_bool|zb_divmod|zb_enumerate|zb_int|zb_isinstance|zb_len|zb_list|zb_max|zb_min|zb_range|zb_repr|zb_reversed|zb_str|zb_tuple=>k_is)
  (case xz=>kernel_rfl)
  (case zg_FIGURES|zg_KINDS_AT_MOST|zg_MOST|zg_WEIGHT|zg_WORTH=>k_is)
