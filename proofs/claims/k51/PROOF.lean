import PyProof.Rows.All
import Wide.All
import OpenK.AllK
import Wide.FinOn
import Lean
import PyProof.EqAt
import PyProof.EqKinds
import PyProof.TupleCall
import KE.KUnpack
import PyProof.Rows.SetFrom
import PySem.Challenge.RW_sackloads_k51_rooms_filled
open PySem renaming wpAny_bind→yaa,Shared→yab,wpAny_pure→yac,starEach→yad,mainGlobals→yai,Program→yaj,Around→yam,sizeLine→yas,bootBuiltins→yaB,wpAny_field→yaD,backTo→yaI,FuncData→yaL,wpAny_newObj_type→yaM,Env→yaN,mem_of_lookup→yaQ,wpAny_call_entry→yaR,compareOp→yaS,wpAny_holding→yaT,sizeLine_eq→yaX,rawInt→ya2,wpAny_mono→ya3,wpAny_seqItems→ya8,wpAny_setField→ya9,Builtin→yba,codeAny_builtin→ybg,IsPair→ybj,pyNext→ybk,binaryOp→ybq,wpAny_setField_rec→ybr,assignEach→ybs,intKind→ybx,wpAny_truthy_bool→yby,codeAny→ybz,behindInMarks→ybB,wpAny_passesOwn→ybL,SetTable→ybO,foldedSetIterable→ybP,wpAny_pyIter_list→ybQ,wpAny_setState_of→ybR,wpAny_isInstance→ybU,wpAny_setEntries_of→ybX,wpAny_attempt→ybY,wpAny_execs_nil→ybZ,wpAny_rule→yb0,wpAny_Call_Name_kw→yb2,wpAny_loadPart'→yb3,firstArgMember→yb9,builtinLookup_eq_fast→ycb,plainId_quiet→yck,sliceBounds→yco,letOwnedTupleGo→ycq,codeAny_mono→yct,builtinsNs→ycz,isSubtype_stop→ycC,IsRangeIter→ycG,swapsWithSole→ycM,swappedStores→ycN,wpAny_onRaise→ycQ,NameKind→ycR,holding→ycX,Keyword→ycY,setFlight→yc0,call_meets→yc6,codeAny_call_builtin→yc8,wpAny_updateSeq_pair→yda,typeLookup_type→ydc,recursionLimit→ydh,leaving→ydi,wpAny_newTuple→ydl,setNext→ydm,wpAny_fieldsOf→ydn,swapsWith→ydp,assign→ydq,Result→yds,cellsFrom→ydt,noteFrame→ydu,wpAny_newFunctionEnv_cells→ydB,attributeBase→ydE,wpAny_pyIter_slot→ydR,sysModules→ydS,typeIs_int→ydT,wpAny_binaryOp_repeat_ref→ydU,codeAny_handlers_suite_as→ydV,hashInt→ydW,BindsTo→ydY,callerA→ydZ,wpAny_eqBool_int→yd0,GenState→yd1,pyIter→yd2,noFill_tuple_add→yd4,checkBuiltinCall→yd5,wpAny_comprehension_free→yd6,wpAny_askSetting→yeb,Arguments→yeh,wpAny_updateSeq→yen,wpAny_specialOf→yeo,wpAny_pyIter_rangeiter→yeq,keywordEach→yes,codeAny_compStart_list→yet,wpAny_of_eq→yev,wpAny_letGo→yew,wpAny_isTrue_Compare1→yey,wpAny_bindName→yez,codeAny_call_function→yeC,codeAny_handlers_test→yeH,wpAny_runValue→yeI,isSubtype_type→yeK,bindName→yeN,compEnvC→yeR,wpAny_newFunctionEnv→yeS,unbindBehindTheSuite→yeT,relayAll→yeU,assignInOrder→yeW,wpAny_standAt→yeX,seq_tuple_add→yeY,wpAny_handled→yeZ,wpAny_isSubtype_exc→ye1,wpAny_handleBy_cons→ye2,PassesOwn→ye8,wpAny_pyIter_range→ye9,concat_meets→yfg,seqIndex_neg→yfh,newExc→yfl,Fin→yfo,wpAny_typeOf→yfq,ElemsOf→yfC,sizeLine_eq→yfJ,wpAny_loadPart_at→yfK,wpAny_pyIter_enum→yfM,wpAny_storeSet_of→yfQ,wpAny_setEpoch_of→yfT,seqIndex_of→yfW,wpAny_throw→yfX,excClassObj→yfY,backToKw→yfZ,compPost→yf0,ReadsAll→yf1,newTuple→yf2,raiseNew→yf3,entryFor→yf4,wpAny_Name→yf5,wpAny_call→yf6,typeLookup→yf8,call→yf9
open PySem.Value renaming ref→yae,none→yap,type→yaP,bool→ybb,isInt→ycl,builtin→ycO,int→ycW,isInt_shape→ydK
open PySem.Heap renaming lt_size→yaf,SameBut→ya6,size_push→ybG,size_update→ycV,MadeExcOf→yeG
open Nat renaming le_refl→yag,ne_of_lt→yar,lt_of_lt_of_le→yau,le_trans→yaF,zero_le→ya5,lt_irrefl→ybp,le_of_lt→ybH,ne_of_gt→ybI,lt_succ_of_lt→yb6,zero_add→yca,le_of_not_lt→ych,le_succ→ycp,not_lt_zero→ycs,exists_eq_add_of_le→ycE,lt_succ_self→ycT,mul_le_mul_right→yde,lt_or_ge→yd9,pow_le_pow_right→yeV,succ_mul→yfi,mul_comm→yfj,lt_or_eq_of_le→yft,lt_of_le_of_lt→yfu,mod_lt→ygb
open PySem.W renaming Frag→yah,nsIn→yao,keepIn→yaq,fnOf→yaw,codeIn→yax,mg_of→yay,mg_none_of→yaC,kia_one→yaU,findIn→ybE,cellsFrom_some→ycI,methodObj→ydL,kitx_list→ydM,kat_cons→yd8,instObj→yeg,OpenLaw→yek,kat_yes→yel,lookIn→yeA,kitOne→yeB,CodeHd→yeD,tabObj→yeE,kat_no→yeJ,kitx_tuple→yfa,callWith_K→yfc,codeRec_of→yfd,specialIn→yfE,kitx_dict→yfF
open List renaming replicate→yak,range→yat,mem_cons→yav,append_nil→yaK,lookup_cons→ya4,length_replicate→ya7,nil_append→ybf,length_singleton→ybh,flatten_cons→ybA,filterMap_cons→ybD,map_append→ybM,length_filter_le→yce,mem_of_getElem?→ycg,forIn_cons→ycr,map_nil→ycv,set_cons_zero→ycy,reverse_cons→ycF,drop_of_length_le→ycK,range_succ_eq_map→ycL,length_take→ycS,Perm→yc1,singleton_append→yc2,mem_append_left→yc3,of_mem_zip→yc4,sum_append→ydf,forIn_nil→ydk,range'→ydo,all_cons→ydC,any_cons→ydD,length_eraseIdx_of_lt→ydH,sum_cons→ydJ,getElem_mem→yea,mem_iff_getElem?→yeF,foldl→yeQ,zip_cons_cons→yff,any_map→yfm,length_range'→yfv,all_map→yfx,flatMap_assoc→yfA,set_cons_succ→yfB,take_sublist→yfH,ext_getElem?→yfS
open Bool renaming false_ne_true→yal,and_eq_true→yan,false_eq_true→yaO,and_self→ya1,eq_iff_iff→ybt,true_and→ybC,false_and→ycA,or_eq_true→yei,not_false→yeL,or_true→yfn,true_or→yfy,not_eq_true'→yfL
open PySem.Obj renaming mapSeq→yaz,mapFields→ybe,data_mapFields→ybi,isFreed_of_fields→yb8,cls_mapFields→ydO,putSet→yga
open PySem.Builtin.SmallTypes renaming nextOf→yaA,ownedTupleIsFree→yaE,ownedTupleHandOut→ycw
open PySem.Heap.SameBut renaming update→yaG,refl→yfN
open PySem.SetTable renaming below→yaH,grown→ycc,insertAt→ydP
open Option.some renaming inj→yaJ
open Array renaming length_toList→yaV,getD_eq_getD_getElem?→ycf,size_push→yem,forIn_toList→yfp,size_extract→yfr,toList_push→yfR
open False renaming elim→yaW
open Or renaming inr→yaY,inl→ybn
open Ne renaming symm→yaZ
open PySem.NameKind renaming free→ya0,cell→ycP
open PySem.Around renaming under_plainId→ybc,frames_deeper→yeO
open PyProof.Rows renaming envOfC→ybd,callWith_type1→ybm,IntsAre→ybv,IntsAre→ybF,seqObj→yb5,kindOf→yb7,tuples'→ycj,AllBare→ycn,callWith_builtin1→yc5,assignInOrder_cons→ydr,listUpdate_at→ydI,subscriptTail_builtinR→yer,listUpdate_at→ye0,keyLt'→ye3,assignInOrder_nil→yfD
open Int renaming toNat_natCast→ybl,mul_nonneg→ycd,emod_lt_of_pos→ydx,fdiv_eq_ediv_of_nonneg→ydz,fmod_eq_emod_of_nonneg→ydA,zero_add→yec,eq_ofNat_of_zero_le→yef,emod_nonneg→yep
open PySem.Str renaming ofString→ybo
open ForInStep renaming yield→ybu
open PySem.PassesOwn renaming never→ybw
open PySem.Builtin.List renaming listExtendWith→ybJ,listTooLong→ybS,listSameRef→ybV,listLengthHint→ydw,listUpdate→yee,listTouch→yex
open PyProof.Rows.F renaming plain_set_update_loop→ybK,entry_set_update_loop→ycx
open PySem.F renaming slot_tuple_iterator_next→ybN,plain_extend_loop→ybW,args_tuple_add_2→ycu,entry_tuple_add→ycD,slot_tuple_add→ycJ,slot_range_iterator_next→ycU,typeOf_object_class→ycZ,slot_int_rmul→yc7,slot_zip_next→ydb,args_tuple_iterator_next_1→ydj,entry_tuple_iterator_next→ydv,entry_extend_loop→ye4,args_int_rmul_2→yfI,args_zip_next_1→yfO,plain_list_iadd→yfU
open PySem.AutoSeq1 renaming wpAny_loadPart'→ybT,sub_tuple_tuple→yd3
open True renaming intro→yb1
open PySem.PyData renaming showableAll→yb4,eqv→yci,canLay0→ycB,showable→yc9,canLayAll0→ydN,leavesShortAll→yeM,leavesShort→yfz,hasDictAll→yfV
open Sum renaming inl→ycm,inr→ydX
open PySem.Data renaming fields→ycH,seq→yd7
open Option renaming map_some→ydd
open PySem.EntryCells renaming newEntry→ydg
open PySem.Calls renaming Name_function_global→ydy,evalArgs_plain→yeP,spliced_cons→yfb,spliced_nil→yfG
open PySem.Value.ref renaming inj→ydF
open PySem.Shared renaming TypeIs→ydG
open PySem.SetTable.probe renaming go→ydQ
open PySem.Builtin.Range renaming rangeSize→yed
open LawfulBEq renaming eq_of_beq→yej
open PySem.SeqAt renaming compareEq_shaped→yeu,EqAt→yf7
open PySem.SeqAt.EqAt renaming int_str→ye5,str_int→ye6,int_int→yfe
open PyProof.Rows.IsTup renaming new→ye7
open PySem.Code renaming quiet_builtin→yfk
open PySem.pickOrder renaming go→yfw
open PySem.SetTable.below renaming go→yfP
def PySem.W.Fast.tw6489788240810796676 : Nat := 0
def PySem.W.Fast.tw15495515587561678304 : Nat := 0
def PySem.W.Fast.tw8865537395532296292 : Nat := 0
def PySem.W.Fast.tw8985455781313035284 : Nat := 0
def PySem.W.Fast.tw5168998425625820935 : Nat := 0
def PySem.W.Fast.tw10745498047597482619 : Nat := 0
def PySem.W.Fast.tw598204565552334474 : Nat := 0
set_option linter.all false
set_option Elab.async false
set_option maxRecDepth 100000
open List renaming mem_cons_of_mem → mM, mem_cons_self → mS_, getElem?_eq_getElem → gG, length_cons → lC_, length_map → lM_, length_append → lA_, getElem?_map → gM_, map_cons → mC_, mem_append → mA_, length_range → lR_, length_nil → lN_, size_toArray → sT_, mem_range → mR_, mem_map → mP_, map_map → mm_, replicate_succ → rS_, length_set → lS_, not_mem_nil → nN_, map_congr_left → mL_, append_assoc → aA_, getElem?_eq_some_iff → gI_, flatMap_cons → fC_, foldl_cons → fo_, mem_singleton → ms_, mem_append_right → mr_, filter_cons → ft_
namespace L2
open PySem PySem.Spec PyProof.Rows
abbrev Key:=Sum Int Str
def qje:Key->Value->Bool
 |.inl k,v=>ycl k v
 |.inr x,v=>Value.isStrOf x v
def qm5 (w:World):Key->Int
 |.inl k=>ydW k
 |.inr x=>hashStr w x
theorem qQ:∀{k:Key}{v:Value},qje k v=true->(∃i t,k=ycm i/\v=ycW i t)\/(∃x t,k=ydX x/\v=Value.str x t)
 |.inl i,v,h=>by
  obtain⟨t,e⟩:=ydK (k:=i) (v:=v) h
  exact .inl ⟨i,t,rfl,e⟩
 |.inr x,v,h=>by
  obtain⟨t,e⟩:=Value.isStrOf_shape (x:=x) (v:=v) h
  exact .inr ⟨x,t,rfl,e⟩
theorem qjf (a b:Int):decide ((ycm a:Key)=ycm b)=(a==b):=by
 by_cases e:a=b
 ·subst e;simp
 ·have h:¬(ycm a:Key)=ycm b:=λq=>e (Sum.inl.inj q)
  rw[decide_eq_false h]
  exact(beq_eq_false_iff_ne.mpr e).symm
theorem qjg (a b:Str):decide ((ydX a:Key)=ydX b)=decide (a=b):=by
 by_cases e:a=b
 ·subst e;simp
 ·have h:¬(ydX a:Key)=ydX b:=λq=>e (Sum.inr.inj q)
  rw[decide_eq_false h,decide_eq_false e]
theorem qjh(a:Int)(b:Str):decide ((ycm a:Key)=ydX b)=false:=decide_eq_false (λq=>nomatch q)
theorem qji(a:Str)(b:Int):decide ((ydX a:Key)=ycm b)=false:=decide_eq_false (λq=>nomatch q)
def wQ (prog:yaj) (w:World):PySem.KeyKind prog w Key where
 is:=qje
 hash:=qm5 w
 inj:=λv a b ha hb=>by
  rcases qQ ha with⟨i,t,rfl,rfl⟩|⟨x,t,rfl,rfl⟩
  ·rcases qQ hb with⟨j,u,rfl,e⟩|⟨y,u,rfl,e⟩
   ·injection e with e1 _;rw[e1]
   ·exact nomatch e
  ·rcases qQ hb with⟨j,u,rfl,e⟩|⟨y,u,rfl,e⟩
   ·exact nomatch e
   ·injection e with e1 _;rw[e1]
 byValue:=λk v h=>by
  rcases qQ h with⟨i,t,rfl,rfl⟩|⟨x,t,rfl,rfl⟩<;>rfl
 pyHash:=λhv h=>by
  rcases qQ hv with⟨i,t,rfl,rfl⟩|⟨x,t,rfl,rfl⟩
  ·exact wpAny_pyHash_int h
  ·exact wpAny_pyHash_str h
 eqBool:=λhu hv h=>by
  rcases qQ hu with⟨i,t,rfl,rfl⟩|⟨x,t,rfl,rfl⟩
  ·rcases qQ hv with⟨j,u,rfl,rfl⟩|⟨y,u,rfl,rfl⟩
   ·rw[qjf]at h;exact yd0 h
   ·rw[qjh]at h;exact ye5 i t y u _ _ _ _ h
  ·rcases qQ hv with⟨j,u,rfl,rfl⟩|⟨y,u,rfl,rfl⟩
   ·rw[qji]at h;exact ye6 x t j u _ _ _ _ h
   ·rw[qjg]at h;exact wpAny_eqBool_str h
 «strs»:=λk x t v h=>by
  rcases qQ h with⟨i,u,rfl,e⟩|⟨y,u,rfl,e⟩
  ·exact nomatch e
  ·injection e with e1 _
   subst e1
   cases v<;>rfl
end L2
namespace L2
open PySem PySem.Spec PyProof.Rows
inductive V where
 |non|bl (b:Bool)|int (i:Int)|str (x:Str)|byt (b:Array UInt8)|flt (b:UInt64)|ref (a:Addr)|ty (n:String)
 deriving DecidableEq
def zJ:V->Value->Prop
 |.non,u=>u=yap
 |.bl b,u=>u=ybb b
 |.int i,u=>∃t,u=ycW i t
 |.str x,u=>∃t,u=Value.str x t
 |.byt b,u=>∃t,u=Value.bytes b t
 |.flt b,u=>∃t,u=Value.float b t
 |.ref a,u=>u=yae a
 |.ty n,u=>u=yaP n
abbrev qO:List V->List Value->Prop:=Paired zJ
theorem qO.length{xs:List V}{us:List Value}(r:qO xs us):xs.length=us.length:=Paired.length r
theorem qO.get:∀{xs:List V}{us:List Value}{i:Nat}{x:V},qO xs us->xs[i]? = some x->∃u,us[i]? = some u/\zJ x u
 |_,_,_,_,.nil,e=>by simp at e
 |_,_,0,_,.cons r _,e=>by simp at e;subst e;exact⟨_,rfl,r⟩
 |_,_,i+1,x,.cons _ t,e=>by
  obtain⟨u,h1,h2⟩:=qO.get (i:=i) (x:=x) t (by simpa using e)
  exact⟨u,by simpa using h1,h2⟩
theorem qO.set {x:V} {u:Value} (r:zJ x u):∀{xs:List V}{us:List Value}(i:Nat),qO xs us->qO (xs.set i x) (us.set i u)
 |_,_,_,.nil => .nil
 |_,_,0,.cons _ t => .cons r t
 |_,_,i+1,.cons q t => .cons q (qO.set r i t)
theorem qO.append:∀{xs ys:List V}{us ws:List Value},qO xs us->qO ys ws->qO (xs++ys) (us++ws)
 |_,_,_,_,.nil,s=>s
 |_,_,_,_,.cons r t,s => .cons r (qO.append t s)
theorem qO.take:∀{xs:List V}{us:List Value}(n:Nat),qO xs us->qO (xs.take n) (us.take n)
 |_,_,0,_ => .nil
 |_,_,_+1,.nil => .nil
 |_,_,n+1,.cons r t => .cons r (qO.take n t)
theorem qO.drop:∀{xs:List V}{us:List Value}(n:Nat),qO xs us->qO (xs.drop n) (us.drop n)
 |_,_,0,r=>r
 |_,_,_+1,.nil => .nil
 |_,_,n+1,.cons _ t=>qO.drop n t
def qjj:Option V->Option Value->Prop
 |some v,some u=>zJ v u
 |none,none=>True
 |_,_=>False
def KV{κ:Type}:List (κ×V)->List (κ×Value)->Prop:=Paired λ(p:κ×V) (q:κ×Value)=>p.1=q.1/\zJ p.2 q.2
def kV:Key->V
 |.inl i => .int i
 |.inr x => .str x
inductive HO where
 /-- a list -/
 |lst (xs:List V)
 /-- a tuple (never changes) -/
 |tup (xs:List V)
 /-- a dict whose keys are ints and texts;one whose keys are tuples of ints and texts (the empty one is both) -/
 |dK (kvs:List (Key×V))|dT (kvs:List (List Key×V))
 /-- a set of ints: its members,its size -/
 |set (S:Int->Bool) (n:Nat)
 /-- an instance of the class at C,its dict at dx,its attributes -/
 |ins (C dx:Addr) (fs:List (Str×V))
 /-- the dict of the instance at x -/
 |own (x:Addr)
 /-- the dict of an exception -/
 |xd (fs:List (Str×V))
 /-- a bound method,f of x -/
 |met (f x:Addr)
 /-- a range object lo,lo+1,.. below hi -/
 |rng (lo hi:Int)
 /-- a thing that is known to the object (the script;a dict while a loop walks it): read,never written while it is so -/
 |frz (o:Obj) (u:HO)
 /-- a code object's table -/
 |tbl (ps:Array Value)
 /-- any other thing,by what is true of its one object (a def of one's own: SetO a S n:=HO.ext λh => ..) -/
 |ext (φ:Heap->Prop)
 /-- the table of a code object in which at most one lambda's code stands -/
 |lam (pos:Pos) (q:Str)
abbrev Hp:=Addr->Option HO
def upd(H:Hp)(a:Addr)(o:HO):Hp:=λb=>if b=a then some o else H b
theorem qk{H:Hp}{a:Addr}{o:HO}:upd H a o a=some o:=by unfold upd;rw[if_pos rfl]
theorem qh{H:Hp}{a b:Addr}{o:HO}(h:b≠a):upd H a o b=H b:=by unfold upd;rw[if_neg h]
theorem uW {H:Hp} {a b:Addr} {o u:HO} (h:H a=some o) (h':H b=some u) (d:o≠u):a≠b:=by
 intro e;subst e;rw[h]at h';exact d (yaJ h')
theorem qq {H:Hp} {a b:Addr} {o:HO} (h:H a=some o) (h':H b=none):a≠b:=by
 intro e;subst e;rw[h]at h';cases h'
section
variable(P:yaj)(w:World)
def jj (H:Hp) (h:Heap) (a:Addr):HO->Prop
 |.lst xs=>xs.length<=yas/\∃(its:List Value)(n:Nat),qO xs its/\h.get? a=some {cls:=.type "list",data:=.seq its.toArray n}
 |.tup xs=>xs.length<=yas/\∃its:List Value,qO xs its/\IsTup h a its.toArray
 |.dK kvs=>kvs.length<=yas/\(a==ydS)=false/\∃vs,KV kvs vs/\h.DictOf (wQ P w) a vs
 | .dT kvs=>kvs.length<=yas/\(a==ydS)=false/\∃xs:List (List Key×Addr×Value),
   Paired (λ(p:List Key×V) (q:List Key×Addr×Value)=>p.1=q.1/\H q.2.1=some (.tup (p.1.map kV))/\zJ p.2 q.2.2) kvs xs /\
   ∃o es ep,h.get? a=some o/\o.ExactDict/\o.data=.dict es ep/\es.toList=xs.map (entryOfKey (tupleKind (wQ P w)))/\(xs.map (·.1)).Nodup
 |.set S n=>h.SetOf (ybx P w) a S n
 | .ins C dx fs=>H dx=some (.own a)/\fs.length<=1000/\dx≠a/\h.get? a=some (yeg C dx) /\
   ∃mA,h.Ns1 dx mA/\(∀f,qjj (fs.lookup f) (mA f))/\PySem.Within mA (fs.map (·.1))
 |.own _=>∃o,h.get? a=some o
 |.xd fs=>∃mA,h.Ns1 a mA/\∀f,qjj (fs.lookup f) (mA f)
 |.rng lo hi=>∃t u v,h.get? a=some {cls:=.type "range",data:=.fields #[.int lo t,.int hi u,.int 1 v]}
 |.frz o u=>h.get? a=some o/\jj H h a u
 |.tbl ps=>h.get? a=some {cls:=.none,data:=.fields ps}
 |.met f x=>h.get? a=some (ydL (.ref f) (.ref x))
 | .lam pos q=>h.get? a=some {cls:=.none,data:=.fields #[]}\/∃(c:Addr)(oc:Obj)(vs:Array Value)(t:Tok),H c=some (.frz oc (.own c))/\oc.data=.fields vs/\vs[1]? = some (.str q t) /\
   h.get? a=some {cls:=.none,data:=.fields #[ya2 pos.line,ya2 pos.col,.ref c]}
 |.ext φ=>φ h/\(∃o,h.get? a=some o)/\∀h1 h2:Heap,φ h1->(∀o,h1.get? a=some o->h2.get? a=some o)->φ h2
def HOk(H:Hp)(h:Heap):Prop:=∀a o,H a=some o->jj P w H h a o
end
section
variable{P:yaj}{w:World}{H H':Hp}{h h':Heap}{a:Addr}{o:HO}
theorem jj.lt (x:jj P w H h a o):a<h.objs.size:=by
 cases o with
 |lst xs=>obtain⟨_,_,_,_,e⟩:=x;exact yaf e
 |tup xs=>obtain⟨_,_,_,p⟩:=x;exact p.lt
 |dK kvs=>obtain⟨_,_,_,_,o,_,_,e,_⟩:=x;exact yaf e
 |dT kvs=>obtain⟨_,_,_,_,o,_,_,e,_⟩:=x;exact yaf e
 |set S n=>obtain⟨o,_,_,_,e,_⟩:=x;exact yaf e
 |ins C dx fs=>obtain⟨_,_,_,e,_⟩:=x;exact yaf e
 |own y=>obtain⟨_,e⟩:=x;exact yaf e
 |xd fs=>obtain⟨_,⟨_,_,_,e,_⟩,_⟩:=x;exact yaf e
 |rng lo hi=>obtain⟨_,_,_,e⟩:=x;exact yaf e
 |frz ob u=>obtain⟨e,_⟩:=x;exact yaf e
 |tbl ps=>exact yaf (show h.get? a=some _ from x)
 |met f y=>exact yaf (show h.get? a=some _ from x)
 |ext φ=>obtain⟨_,⟨_,e⟩,_⟩:=x;exact yaf e
 |lam pos q=>
  rcases x with e|⟨_,_,_,_,_,_,_,e⟩
  ·exact yaf e
  ·exact yaf e
theorem Paired.mapP {α β:Type} {F G:α->β->Prop}:∀{lK:List α}{lQ:List β},Paired F lK lQ->(∀a b,F a b->G a b)->Paired G lK lQ
 |_,_,.nil,_ => .nil
 |_,_,.cons r t,f => .cons (f _ _ r) (Paired.mapP t f)
theorem jj.stay (x:jj P w H h a o) (k:∀b u,(b=a\/H b=some (.own a))->h.get? b=some u->h'.get? b=some u)
  (ho:∀b,H b=some (.own a)->H' b=some (.own a)) (ht:∀b xs,H b=some (.tup xs)->H' b=some (.tup xs)) (hz:∀b ob u,H b=some (.frz ob u)->H' b=some (.frz ob u):=by exact λ_ _ _ q=>q):jj P w H' h' a o:=by
 induction o with
 |lst xs=>obtain⟨z,its,n,r,e⟩:=x;exact⟨z,its,n,r,k _ _ (.inl rfl) e⟩
 |tup xs=>obtain⟨z,its,r,ob,e,c⟩:=x;exact⟨z,its,r,ob,k _ _ (.inl rfl) e,c⟩
 |dK kvs=>obtain⟨z,y,vs,r,ob,es,ep,e,c⟩:=x;exact⟨z,y,vs,r,ob,es,ep,k _ _ (.inl rfl) e,c⟩
 |dT kvs=>
  obtain⟨z,y,xs,r,ob,es,ep,e,c⟩:=x
  exact⟨z,y,xs,Paired.mapP r λp q z=>⟨z.1,ht _ _ z.2.1,z.2.2⟩,ob,es,ep,k _ _ (.inl rfl) e,c⟩
 |set S n=>obtain⟨ob,es,ep,t,e,c⟩:=x;exact⟨ob,es,ep,t,k _ _ (.inl rfl) e,c⟩
 |ins C dx fs=>
  obtain⟨d,z,ne,e,mA,⟨od,es,ep,e2,c⟩,r⟩:=x
  exact⟨ho _ d,z,ne,k _ _ (.inl rfl) e,mA,⟨od,es,ep,k _ _ (.inr d) e2,c⟩,r⟩
 |own y=>obtain⟨ob,e⟩:=x;exact⟨ob,k _ _ (.inl rfl) e⟩
 |xd fs=>obtain⟨mA,⟨od,es,ep,e,c⟩,r⟩:=x;exact⟨mA,⟨od,es,ep,k _ _ (.inl rfl) e,c⟩,r⟩
 |rng lo hi=>obtain⟨t,u,v,e⟩:=x;exact⟨t,u,v,k _ _ (.inl rfl) e⟩
 |frz ob u ih=>obtain⟨e,q⟩:=x;exact⟨k _ _ (.inl rfl) e,ih q⟩
 |tbl ps=>
  have e:h.get? a=some {cls:=.none,data:=.fields ps}:=x
  show h'.get? a=some {cls:=.none,data:=.fields ps}
  exact k a _ (.inl rfl) e
 |met f y=>
  have e:h.get? a=some (ydL (.ref f) (.ref y)):=x
  show h'.get? a=some (ydL (.ref f) (.ref y))
  exact k a _ (.inl rfl) e
 |ext φ=>obtain⟨p,⟨o,e⟩,st⟩:=x;exact⟨st _ _ p λo q=>k _ _ (.inl rfl) q,⟨o,k _ _ (.inl rfl) e⟩,st⟩
 |lam pos q=>
  rcases x with e|⟨c,oc,vs,t,h1,h2,h3,e⟩
  ·exact .inl (k _ _ (.inl rfl) e)
  ·exact .inr ⟨c,oc,vs,t,hz _ _ _ h1,h2,h3,k _ _ (.inl rfl) e⟩
theorem HOk.lt(x:HOk P w H h)(e:H a=some o):a<h.objs.size:=(x a o e).lt
theorem HOk.fresh (x:HOk P w H h) (e:h.objs.size<=a):H a=none:=by
 cases q:H a with
 |none=>rfl
 |some u=>exact absurd (yau (x.lt q) e) (ybp _)
theorem HOk.kept (x:HOk P w H h) (k:∀b u,h.get? b=some u->h'.get? b=some u):HOk P w H h':=λa o e=>
 (x a o e).stay (λb u _ q=>k b u q) (λ_ q=>q) λ_ _ q=>q
theorem HOk.laid (x:HOk P w H h) (k:∀b u,h.get? b=some u->h'.get? b=some u) (hp:h.objs.size<=a) (new:jj P w (upd H a o) h' a o):HOk P w (upd H a o) h':=λb u e=>by
 have hn:=x.fresh hp
 by_cases hb:b=a
 ·subst hb;rw[qk]at e;cases e;exact new
 ·rw[qh hb]at e
  exact(x b u e).stay (λc v _ q=>k c v q) (λc q=>by rw[qh (qq q hn)];exact q) (λc xs q=>by rw[qh (qq q hn)];exact q) λc ob z q=>by rw[qh (qq q hn)];exact q
end
def Rd(H:Hp)(a:Addr)(u:HO):Prop:=H a=some u\/∃o,H a=some (.frz o u)
theorem Rd.ok {P:yaj} {w:World} {H:Hp} {h:Heap} {a:Addr} {u:HO} (r:Rd H a u) (x:HOk P w H h):jj P w H h a u:=by
 rcases r with r|⟨o,r⟩
 ·exact x a u r
 ·obtain⟨_,q⟩:=x a _ r
  exact q
def Mut:Option HO->Prop
 |some (.lst _)=>True
 |some (.dK _)=>True
 |some (.dT _)=>True
 |some (.set _ _)=>True
 |some (.ins _ _ _)=>True
 |some (.ext _)=>True
 |_=>False
section
variable{P:yaj}{w:World}{H:Hp}{h h':Heap}{x e:Addr}{o':HO}
theorem HOk.write (ok:HOk P w H h) (mu:Mut (H x)) (he:e=x\/H e=some (.own x)) (k:∀b u,b≠e->h.get? b=some u->h'.get? b=some u) (heo:∃u,h'.get? e=some u)
  (new:jj P w (upd H x o') h' x o'):HOk P w (upd H x o') h':=λb u q=>by
 have nown:∀c y,H c=some (.own y)->c≠x:=λc y r z=>by subst z;rw[r]at mu;exact mu
 have ntup:∀c xs,H c=some (.tup xs)->c≠x:=λc xs r z=>by subst z;rw[r]at mu;exact mu
 have nfrz:∀c ob y,H c=some (.frz ob y)->c≠x:=λc ob y r z=>by subst z;rw[r]at mu;exact mu
 by_cases hb:b=x
 ·subst hb;rw[qk]at q;cases q;exact new
 ·rw [qh hb]at q
  by_cases hbe:b=e
  ·have q':H b=some (.own x):=by
    rcases he with z|z
    ·exact absurd (hbe.trans z) hb
    ·rw[hbe];exact z
   rw[q]at q';cases q'
   obtain⟨v,hv⟩:=heo
   exact⟨v,by rw[hbe];exact hv⟩
  ·refine (ok b u q).stay (λc v hc r=>k c v ?_ r) (λc r=>by rw[qh (nown c b r)];exact r) (λc xs r=>by rw[qh (ntup c xs r)];exact r) λc ob z r=>by rw[qh (nfrz c ob z r)];exact r
   rcases hc with rfl|hc
   ·exact hbe
   ·rintro rfl
    rcases he with z|z
    ·exact nown c b hc z
    ·rw[hc]at z;cases z;exact hb rfl
end
structure Un (fs ex:List Addr) (H H':Hp) (h h':Heap):Prop where
 keep:∀b o,h.get? b=some o->H b=none->b ∉ fs->b ∉ ex->h'.get? b=some o
 slot:∀b o,h.get? b=some o->H b=none->b∈fs->b ∉ ex->∃sl,h'.get? b=some {o with slots:=sl}
 free:∀b o,h.get? b=some o->H b=none->b ∉ ex->H' b=none
 there:∀b o,h.get? b=some o->b ∉ ex->∃o',h'.get? b=some o'
 tups:∀b xs,H b=some (.tup xs)->H' b=some (.tup xs)
 frzs:∀b o u,H b=some (.frz o u)->H' b=some (.frz o u)
 tbls:∀b pos q,H b=some (.lam pos q)->H' b=some (.lam pos q)
section
variable{fs fs' ex ex':List Addr}{H H1 H2:Hp}{h h1 h2 h':Heap}{a x e:Addr}{o:HO}
theorem Un.any (u:Un fs ex H H1 h h1) {b:Addr} {ob:Obj} (q:h.get? b=some ob) (n:H b=none) (hx:b ∉ ex):∃sl,h1.get? b=some {ob with slots:=sl}:=by
 by_cases hb:b∈fs
 ·exact u.slot b ob q n hb hx
 ·exact⟨ob.slots,u.keep b ob q n hb hx⟩
theorem Un.trans (a:Un fs ex H H1 h h1) (b:Un fs ex H1 H2 h1 h2):Un fs ex H H2 h h2 where
 keep:=λc ob q n hc hx=>b.keep c ob (a.keep c ob q n hc hx) (a.free c ob q n hx) hc hx
 slot:=λc ob q n hc hx=>by
  obtain⟨sl,e1⟩:=a.slot c ob q n hc hx
  obtain⟨sl',e2⟩:=b.slot c _ e1 (a.free c ob q n hx) hc hx
  exact⟨sl',e2⟩
 free:=λc ob q n hx=>by
  obtain⟨o',e1⟩:=a.there c ob q hx
  exact b.free c o' e1 (a.free c ob q n hx) hx
 there:=λc ob q hx=>by
  obtain⟨o',e1⟩:=a.there c ob q hx
  exact b.there c o' e1 hx
 tups:=λc xs q=>b.tups c xs (a.tups c xs q)
 frzs:=λc ob xs q=>b.frzs c ob xs (a.frzs c ob xs q)
 tbls:=λc ps x q=>b.tbls c ps x (a.tbls c ps x q)
theorem Un.kept (k:∀b u,h.get? b=some u->h'.get? b=some u):Un fs ex H H h h' :=
 ⟨λb ob q _ _ _=>k b ob q,λb ob q _ _ _=>⟨ob.slots,k b ob q⟩,λ_ _ _ n _=>n,λb ob q _=>⟨ob,k b ob q⟩,λ_ _ q=>q,λ_ _ _ q=>q,λ_ _ _ q=>q⟩
theorem Un.refl:Un fs ex H H h h:=Un.kept λ_ _ q=>q
theorem Un.laid (k:∀b u,h.get? b=some u->h'.get? b=some u) (hp:h.objs.size<=a) (hn:H a=none):Un fs ex H (upd H a o) h h' where
 keep:=λb u q _ _ _=>k b u q
 slot:=λb u q _ _ _=>⟨u.slots,k b u q⟩
 free:=λb u q n _=>by rw[qh (yar (yau (yaf q) hp))];exact n
 there:=λb u q _=>⟨u,k b u q⟩
 tups:=λb xs q=>by rw[qh (qq q hn)];exact q
 frzs:=λb u xs q=>by rw[qh (qq q hn)];exact q
 tbls:=λb ps x q=>by rw[qh (qq q hn)];exact q
theorem Un.write (mu:Mut (H x)) (he:e=x\/H e=some (.own x)) (k:∀b u,b≠e->h.get? b=some u->h'.get? b=some u) (heo:∃u,h'.get? e=some u):Un fs ex H (upd H x o) h h':=by
 have hx:∀b,H b=none->b≠x:=λb n z=>by subst z;rw[n]at mu;exact mu
 have hb:∀b,H b=none->b≠e:=λb n z=>by
  subst z
  rcases he with r|r
  ·exact hx b n r
  ·rw[n]at r;cases r
 have hm:∀b u,H b=some u->¬Mut (some u)->b≠x:=λb u q nm z=>by subst z;rw[q]at mu;exact nm mu
 refine ⟨λb u q n _ _=>k b u (hb b n) q,λb u q n _ _=>⟨u.slots,k b u (hb b n) q⟩,λb u q n _=>by rw[qh (hx b n)];exact n,λb u q _=>?_,
  λb xs q=>by rw[qh (hm b _ q λz=>z)];exact q,λb u xs q=>by rw[qh (hm b _ q λz=>z)];exact q,λb ps x q=>by rw[qh (hm b _ q λz=>z)];exact q⟩
 by_cases hbe:b=e
 ·subst hbe;exact heo
 ·exact⟨u,k b u hbe q⟩
end
def trk(h:Heap)(H:Hp):List Addr:=(yat h.objs.size).filter λa=>(H a).isSome
def qfn(h:Heap)(H:Hp):Heap:=PySem.W.hideAll h (trk h H)
theorem qdG(h:Heap)(H:Hp):(qfn h H).objs.size=h.objs.size:=PySem.W.hideAll_size _ _
theorem qfo {h:Heap} {H:Hp} {b:Addr} {o:Obj} (e:h.get? b=some o) (n:H b=none):(qfn h H).get? b=some o :=
 PySem.W.hideAll_get _ e λhm=>by
  have q:(H b).isSome=true:=(List.mem_filter.mp hm).2
  rw[n]at q;simp at q
theorem qhv {h:Heap} {H:Hp} {b:Addr} {o:Obj} (e:(qfn h H).get? b=some o):h.get? b=some o/\H b=none:=by
 have e':h.get? b=some o:=PySem.W.of_hideAll (trk h H) e
 refine⟨e',?_⟩
 cases q:H b with
 |none=>rfl
 |some x=>
  have hm:b∈trk h H:=List.mem_filter.mpr ⟨mR_.mpr (yaf e'),by simp[q]⟩
  have z:(qfn h H).get? b=none:=PySem.W.hideAll_none (trk h H) hm
  rw[z]at e;cases e
def qhw(g h:Heap)(L:Addr):List (Addr×Obj):=(yat h.objs.size).filterMap λa=>if a=L\/(g.get? a).isSome=true then none else(h.get? a).map λo=>(a,o)
def u0(g h:Heap)(L d:Addr):List (Addr×Obj):=(qhw g h L).filter λp=>decide (p.1≠d)
end L2
namespace L2
open PySem PySem.Spec PyProof.Rows
structure Mod (K:yah) (mg:Str->Option Value) (base:Heap):Prop where
 kin:K.In base
 glob:base.Ns yai mg
 blt:∃mb,base.Ns ycz mb/\∀x:Str,x≠"__name__"->mb x=yaB x
 nolimit:base.NoLimit
 bm:∃bm ob,mg "__builtins__"=some (.ref bm)/\bm≠ycz/\base.get? bm=some ob/\ob.cls=.type "module"/\ob.dict=some ycz/\ob.data=.plain
structure Cx where
 prog:yaj
 w:World
 K:yah
 mg:Str->Option Value
 base:Heap
 A:yam
 N:List Str
 s₀:yab
 H₀:Hp
 env:Env
 outer:List Env
 stack:List Env
 ex:List Addr
 fn:Str->Bool
 calm:Bool
 pn:List (Addr×Obj)
 xe:Value->yab->Prop
def frs(l:List Env):List Addr:=l.filterMap (·.frame)
abbrev Cx.fs(X:Cx):List Addr:=frs X.outer
def Vis(sc:Scope)(x:Str):Prop:=sc.names.lookup x=some .local\/sc.names.lookup x=some .cell\/sc.names.lookup x=some .free
def Loc(sc:Scope)(x:Str):Prop:=sc.names.lookup x=some .local\/sc.names.lookup x=some .cell
def qm6 (env:Env) (h:Heap) (m:Str->Option Value) (x:Str) (u:Value):Prop :=
 (env.kindOf x=some .local/\m x=some u)\/((env.kindOf x=some .cell\/env.kindOf x=some .free)/\∃c,env.cells.lookup x=some c/\h.IsCell c (some u))
structure Cx.Ok (X:Cx):Prop where
 mod:Mod X.K X.mg X.base
 kind:X.env.scope.kind=.function
 glob:X.env.globals=yai
 blt:X.env.builtins=ycz
 above:X.s₀.heap.objs.size<=X.env.locals
 inj:∀x y c,X.env.cells.lookup x=some c->X.env.cells.lookup y=some c->x=y
 has:∀x,(X.env.kindOf x=some .cell\/X.env.kindOf x=some .free)->∃c,X.env.cells.lookup x=some c
 cab:∀x c,X.fn x=true->X.env.cells.lookup x=some c->X.s₀.heap.objs.size<=c
 hd:X.calm=true->X.A.handled=none
 frames:X.A.frames=some X.stack
 stk:X.stack=X.outer\/(X.stack=X.env::X.outer/\X.env.frame=some X.env.locals)
 exf:∀b∈X.ex,b≠X.env.locals/\∀x c,X.env.cells.lookup x=some c->c≠b
 bs:∀b o,X.base.get? b=some o->X.s₀.heap.get? b=some o/\X.H₀ b=none
 bsz:X.base.objs.size<=X.s₀.heap.objs.size
 noex:∀b o,X.base.get? b=some o->b ∉ X.ex
 exfs:∀b∈X.ex,b ∉ X.fs
 funs:X.s₀.heap.FunFrames X.base X.outer
 frf:∀b∈X.fs,X.H₀ b=none
structure Inv (X:Cx) (pins:List (Addr×Obj)) (σ:List (Option V)) (H:Hp) (s:yab):Prop where
 ok:X.Ok
 os:s.os=X.s₀.os
 bare:ycn s.gens
 base:Un X.fs X.ex X.H₀ H X.s₀.heap s.heap
 loc:∃m,s.heap.Ns X.env.locals m/\∀(i:Nat)(x:Str)(v:V),X.N[i]? = some x->σ[i]? = some (some v)->Vis X.env.scope x->∃u,zJ v u/\qm6 X.env s.heap m x u
 cell:∀x c,X.env.cells.lookup x=some c->∃v,s.heap.IsCell c v
 free:H X.env.locals=none
 freeC:∀x c,X.env.cells.lookup x=some c->H c=none
 pin:∀p∈X.pn++pins,s.heap.get? p.1=some p.2/\H p.1=none/\p.1≠X.env.locals/\p.1 ∉ X.fs/\∀v,p.2.data ≠ .cell v
 hok:HOk X.prog X.w H s.heap
 len:σ.length=X.N.length
section
variable{X:Cx}{pins:List (Addr×Obj)}{σ:List (Option V)}{H H':Hp}{s:yab}{h':Heap}
theorem Cx.Ok.nofr (ok:X.Ok) {b:Addr} {o:Obj} (e:X.base.get? b=some o):b ∉ X.fs:=λhb=>by
 have:=(ok.funs.mem hb).1
 rw[e]at this;cases this
theorem Inv.bs (I:Inv X pins σ H s):∀b o,X.base.get? b=some o->s.heap.get? b=some o/\H b=none:=λb o e=>
 ⟨I.base.keep b o (I.ok.bs b o e).1 (I.ok.bs b o e).2 (I.ok.nofr e) (I.ok.noex b o e),I.base.free b o (I.ok.bs b o e).1 (I.ok.bs b o e).2 (I.ok.noex b o e)⟩
theorem Inv.bk(I:Inv X pins σ H s):∀b o,X.base.get? b=some o->s.heap.get? b=some o:=λb o e=>(I.bs b o e).1
theorem Inv.mod(I:Inv X pins σ H s):Mod X.K X.mg X.base:=I.ok.mod
theorem Inv.kIn(I:Inv X pins σ H s):X.K.In s.heap:=I.ok.mod.kin.keeps I.bk
theorem Inv.lt(I:Inv X pins σ H s):X.env.locals<s.heap.objs.size:=let ⟨_,hn,_⟩:=I.loc;hn.lt
theorem Inv.sz(I:Inv X pins σ H s):X.s₀.heap.objs.size<=s.heap.objs.size:=yaF I.ok.above (ybH I.lt)
theorem Inv.nofs (I:Inv X pins σ H s) {a:Addr} (h:s.heap.objs.size<=a):a ∉ X.fs:=λhb=>by
 obtain⟨_,o,ho,_⟩:=I.ok.funs.mem hb
 exact absurd (yau (yaf ho) (yaF I.sz h)) (ybp _)
theorem Inv.cne (I:Inv X pins σ H s):∀x c,X.env.cells.lookup x=some c->c≠X.env.locals:=λx c e z=>by
 obtain⟨v,o,ho,hd⟩:=I.cell x c e
 obtain⟨m,⟨o',es,ep,ho',hd',_⟩,_⟩:=I.loc
 rw[z,ho']at ho;cases ho;rw[hd']at hd;cases hd
theorem Inv.funs (I:Inv X pins σ H s):s.heap.FunFrames X.base X.outer:=by
 have all:∀(l:List Env),(∀b∈frs l,b∈X.fs)->X.s₀.heap.FunFrames X.base l->s.heap.FunFrames X.base l:=by
  intro l
  induction l with
  |nil=>intro _ _;trivial
  |cons env r ih=>
   intro hs hl
   obtain⟨hk,⟨L,o,hf,hn,ho,hd⟩,hr⟩:=hl
   have hL:L∈X.fs:=hs L (by unfold frs;rw[ybD,hf];exact mS_)
   obtain⟨sl,e⟩:=I.base.slot L o ho (I.ok.frf L hL) hL λz=>I.ok.exfs L z hL
   exact⟨hk,⟨L,_,hf,hn,e,hd⟩,ih (λb hb=>hs b (by unfold frs;rw[ybD,hf];exact mM _ hb)) hr⟩
 exact all X.outer (λ_ hb=>hb) I.ok.funs
theorem Inv.stack (I:Inv X pins σ H s):s.heap.FunFrames X.base X.stack:=by
 rcases I.ok.stk with e|⟨e,hf⟩
 ·rw[e];exact I.funs
 ·rw[e]
  obtain⟨m,hn,_⟩:=I.loc
  refine .cons (by rw[I.ok.kind];decide) hf hn ?_ I.funs
  exact Heap.get?_none_of_le (yaF I.ok.bsz I.ok.above)
theorem Inv.stkSub (I:Inv X pins σ H s):∀b∈frs X.stack,b∈X.env.locals::X.fs:=λb hb=>by
 rcases I.ok.stk with e|⟨e,hf⟩
 ·rw[e]at hb;exact mM _ hb
 ·rw[e]at hb
  unfold frs at hb
  rw[ybD,hf]at hb
  exact hb
theorem Inv.stkFree (I:Inv X pins σ H s):∀b∈frs X.stack,H b=none:=λb hb=>by
 rcases List.mem_cons.mp (I.stkSub b hb)with e|hb
 ·rw[e];exact I.free
 ·obtain⟨_,o,ho,_⟩:=I.ok.funs.mem hb
  exact I.base.free b o ho (I.ok.frf b hb) λz=>I.ok.exfs b z hb
theorem Inv.step {g':Array yd1} {t':Nat} {d':Drawn} {ch:List Addr} (I:Inv X pins σ H s)
  (hch:∀b∈ch,(b∈X.ex\/X.s₀.heap.objs.size<=b)/\b≠X.env.locals/\(∀x c,X.env.cells.lookup x=some c->c≠b)/\∀p∈X.pn++pins,p.1≠b)
  (keep:∀b o,b≠X.env.locals->b ∉ X.fs->b ∉ ch->s.heap.get? b=some o->H b=none->h'.get? b=some o)
  (slot:∀b o,b≠X.env.locals->b∈X.fs->b ∉ ch->s.heap.get? b=some o->H b=none->∃sl,h'.get? b=some {o with slots:=sl}) (free:∀b o,b ∉ ch->s.heap.get? b=some o->H b=none->H' b=none)
  (there:∀b o,b ∉ ch->s.heap.get? b=some o->∃o',h'.get? b=some o')
  (tups:∀b xs,H b=some (.tup xs)->H' b=some (.tup xs)) (frzs:∀b o u,H b=some (.frz o u)->H' b=some (.frz o u)) (tbls:∀b pos q,H b=some (.lam pos q)->H' b=some (.lam pos q))
  (ns:∀m,s.heap.Ns X.env.locals m->h'.Ns X.env.locals m) (hok:HOk X.prog X.w H' h') (hg:ycn g') :
  Inv X pins σ H' {s with heap:=h',gens:=g',drawn:=d',toks:=t' }:=by
 have neL:∀b o,X.s₀.heap.get? b=some o->b≠X.env.locals:=λb o e=>yar (yau (yaf e) I.ok.above)
 have neC:∀b o,X.s₀.heap.get? b=some o->b ∉ X.ex->b ∉ ch:=λb o e hx hb=>by
  rcases(hch b hb).1 with z|z
  ·exact hx z
  ·exact absurd (yau (yaf e) z) (ybp _)
 have cellK:∀x c,X.env.cells.lookup x=some c->∀v,s.heap.IsCell c v->h'.IsCell c v:=λx c e v ⟨o,ho,hd⟩=>by
  have nch:c ∉ ch:=λz=>(hch c z).2.2.1 x c e rfl
  by_cases hc:c∈X.fs
  ·obtain⟨sl,q⟩:=slot c o (I.cne x c e) hc nch ho (I.freeC x c e)
   exact⟨_,q,hd⟩
  ·exact⟨o,keep c o (I.cne x c e) hc nch ho (I.freeC x c e),hd⟩
 refine⟨I.ok,I.os,hg,⟨λb o e n hb hx=>?_,λb o e n hb hx=>?_,λb o e n hx=>?_,λb o e hx=>?_,λb xs e=>tups b xs (I.base.tups b xs e),λb o xs e=>frzs b o xs (I.base.frzs b o xs e),λb ps x e=>tbls b ps x (I.base.tbls b ps x e)⟩,?_,λx c e=>?_,?_,λx c e=>?_,λp hp=>?_,hok,I.len⟩
 ·exact keep b o (neL b o e) hb (neC b o e hx) (I.base.keep b o e n hb hx) (I.base.free b o e n hx)
 ·obtain⟨sl,e1⟩:=I.base.slot b o e n hb hx
  obtain⟨sl',e2⟩:=slot b _ (neL b o e) hb (neC b o e hx) e1 (I.base.free b o e n hx)
  exact⟨sl',e2⟩
 ·obtain⟨o',e1⟩:=I.base.there b o e hx
  exact free b o' (neC b o e hx) e1 (I.base.free b o e n hx)
 ·obtain⟨o',e1⟩:=I.base.there b o e hx
  exact there b o' (neC b o e hx) e1
 ·obtain⟨m,hn,hl⟩:=I.loc
  refine⟨m,ns m hn,λi x v e1 e2 e3=>?_⟩
  obtain⟨u,r,l⟩:=hl i x v e1 e2 e3
  refine⟨u,r,?_⟩
  rcases l with l|⟨k,c,e,z⟩
  ·exact .inl l
  ·exact .inr ⟨k,c,e,cellK x c e _ z⟩
 ·obtain⟨v,z⟩:=I.cell x c e
  exact⟨v,cellK x c e v z⟩
 ·obtain⟨m,⟨o,_,_,ho,_⟩,_⟩:=I.loc
  exact free _ o (λz=>(hch _ z).2.1 rfl) ho I.free
 ·obtain⟨v,o,ho,hd⟩:=I.cell x c e
  exact free c o (λz=>(hch c z).2.2.1 x c e rfl) ho (I.freeC x c e)
 ·obtain⟨e,n,ne,nf,d⟩:=I.pin p hp
  have nch:p.1 ∉ ch:=λz=>(hch p.1 z).2.2.2 p hp rfl
  exact⟨keep p.1 p.2 ne nf nch e n,free p.1 p.2 nch e n,ne,nf,d⟩
theorem Inv.un {t':Nat} (I:Inv X pins σ H s) (u:Un X.fs [] H H' s.heap h') (hok:HOk X.prog X.w H' h'):Inv X pins σ H' {s with heap:=h',toks:=t' }:=by
 obtain⟨m,⟨o,es,ep,ho,r⟩,_⟩:=id I.loc
 obtain⟨sl,hL⟩:=u.any ho I.free (by simp)
 exact I.step (g':=s.gens) (d':=s.drawn) (ch:=[]) (λ_ z=>nomatch z) (λb o _ hb _ e n=>u.keep b o e n hb (by simp)) (λb o _ hb _ e n=>u.slot b o e n hb (by simp)) (λb o _ e n=>u.free b o e n (by simp)) (λb o _ e=>u.there b o e (by simp)) u.tups u.frzs u.tbls (λm' hm=>by
  obtain⟨o',es',ep',ho',r'⟩:=hm
  rw[ho]at ho';cases ho'
  exact⟨_,es',ep',hL,r'⟩) hok I.bare
theorem Inv.call {g':Array yd1} {t':Nat} {d':Drawn} {ch:List Addr} (I:Inv X pins σ H s) (u:Un (frs X.stack) ch H H' s.heap h') (hok:HOk X.prog X.w H' h') (hg:ycn g')
  (hch:∀b∈ch,(b∈X.ex\/X.s₀.heap.objs.size<=b)/\b≠X.env.locals/\(∀x c,X.env.cells.lookup x=some c->c≠b)/\∀p∈X.pn++pins,p.1≠b) :
  Inv X pins σ H' {s with heap:=h',gens:=g',drawn:=d',toks:=t' }:=by
 obtain⟨m,⟨o,es,ep,ho,r⟩,_⟩:=id I.loc
 obtain⟨sl,hL⟩:=u.any ho I.free λz=>(hch _ z).2.1 rfl
 exact I.step (ch:=ch) hch (λb o hL hb hc e n=>u.keep b o e n (λz=>(List.mem_cons.mp (I.stkSub b z)).elim hL hb) hc) (λb o _ _ hc e n=>u.any e n hc) (λb o hc e n=>u.free b o e n hc) (λb o hc e=>u.there b o e hc) u.tups u.frzs u.tbls (λm' hm=>by
  obtain⟨o',es',ep',ho',r'⟩:=hm
  rw[ho]at ho';cases ho'
  exact⟨_,es',ep',hL,r'⟩) hok hg
theorem Inv.turned {t':Nat} {it:Addr} (I:Inv X pins σ H s) (k:∀b o,b≠it->s.heap.get? b=some o->h'.get? b=some o) (hn:H it=none) (hL:it≠X.env.locals)
  (h1:it∈X.ex\/X.s₀.heap.objs.size<=it) (h2:∀x c,X.env.cells.lookup x=some c->c≠it) (h3:∀p∈X.pn++pins,p.1≠it):Inv X pins σ H {s with heap:=h',toks:=t' }:=by
 have nit:∀b u,H b=some u->b≠it:=λb u e z=>by rw[z,hn]at e;cases e
 refine I.step (g':=s.gens) (d':=s.drawn) (ch:=[it]) (λb hb=>?_) (λb o _ _ hc e _=>k b o (λz=>hc (by simp[z])) e) (λb o _ _ hc e _=>⟨o.slots,k b o (λz=>hc (by simp[z])) e⟩) (λ_ _ _ _ n=>n)
  (λb o hc e=>⟨o,k b o (λz=>hc (by simp[z])) e⟩) (λ_ _ e=>e) (λ_ _ _ e=>e) (λ_ _ _ e=>e) (λm hm=>?_) (λb u e=>?_) I.bare
 ·have e:b=it:=by simpa using hb
  subst e
  exact⟨h1,hL,h2,h3⟩
 ·obtain⟨o,es,ep,ho,r⟩:=hm
  exact⟨o,es,ep,k _ o (yaZ hL) ho,r⟩
 ·refine(I.hok b u e).stay (λc v hc q=>k c v ?_ q) (λ_ q=>q) λ_ _ q=>q
  rcases hc with z|z
  ·rw[z];exact nit b u e
  ·exact nit c _ z
theorem Inv.tok(I:Inv X pins σ H s)(t:Nat):Inv X pins σ H {s with toks:=t}:=I.un (h':=s.heap) (t':=t) Un.refl I.hok
theorem Inv.kept{t':Nat}(I:Inv X pins σ H s)(k:∀b u,s.heap.get? b=some u->h'.get? b=some u):Inv X pins σ H {s with heap:=h',toks:=t' }:=I.un (Un.kept k) (I.hok.kept k)
theorem Inv.laid {a:Addr} {o:HO} {t':Nat} (I:Inv X pins σ H s) (k:∀b u,s.heap.get? b=some u->h'.get? b=some u) (hp:s.heap.objs.size<=a) (new:jj X.prog X.w (upd H a o) h' a o) :
  Inv X pins σ (upd H a o) {s with heap:=h',toks:=t' }:=I.un (Un.laid k hp (I.hok.fresh hp)) (I.hok.laid k hp new)
theorem Inv.write {x e:Addr} {o:HO} {t':Nat} (I:Inv X pins σ H s) (mu:Mut (H x)) (he:e=x\/H e=some (.own x)) (k:∀b u,b≠e->s.heap.get? b=some u->h'.get? b=some u) (heo:∃u,h'.get? e=some u)
  (new:jj X.prog X.w (upd H x o) h' x o):Inv X pins σ (upd H x o) {s with heap:=h',toks:=t' }:=I.un (Un.write mu he k heo) (I.hok.write mu he k heo new)
theorem Inv.pins_of {pins':List (Addr×Obj)} (I:Inv X pins σ H s) (h:∀p∈pins',s.heap.get? p.1=some p.2/\H p.1=none/\p.1≠X.env.locals/\p.1 ∉ X.fs/\∀v,p.2.data ≠ .cell v):Inv X pins' σ H s :=
 ⟨I.ok,I.os,I.bare,I.base,I.loc,I.cell,I.free,I.freeC,λp hp=>(mA_.mp hp).elim (λz=>I.pin p (yc3 _ z)) (h p),I.hok,I.len⟩
theorem qci {N:List Str} (hN:N.Nodup) {i j:Nat} {x:Str} (a:N[i]? = some x) (b:N[j]? = some x):i=j:=by
 obtain⟨h1,e1⟩:=gI_.mp a
 obtain⟨h2,e2⟩:=gI_.mp b
 exact(List.getElem_inj hN).mp (e1.trans e2.symm)
theorem qdH {M:Model} {A:yam} {E:Value->yab->Prop} {i:Nat} {x:Str} {v:V} {u:Value} {Q:Unit->yab->Prop} (I:Inv X pins σ H s) (hN:X.N.Nodup) (hi:X.N[i]? = some x) (hx:Loc X.env.scope x) (r:zJ v u)
  (h:∀s',Inv X pins (σ.set i (some v)) H s'->(∃a,ya6 a s.heap s'.heap/\(a=X.env.locals\/X.env.cells.lookup x=some a))->Q () s') (hf:X.fn x=true\/X.env.scope.names.lookup x=some .local:=by first|exact .inl rfl|exact .inr rfl|assumption):wpAny M A (storeName X.env x u) Q E s:=by
 obtain⟨m,hn,hl⟩:=id I.loc
 have hcls:(X.env.scope.kind == .class||(X.env.scope.kind == .module&&X.env.locals != X.env.globals))=false:=by rw[I.ok.kind];rfl
 have hiσ:i<σ.length:=by rw[I.len];exact(gI_.mp hi).1
 have cne:=I.cne
 have tracked:∀{a:Addr}{h':Heap},(∃o,s.heap.get? a=some o/\H a=none)->ya6 a s.heap h'->HOk X.prog X.w H h':=λ{a h'} ha hs b ob e=>by
  obtain⟨_,_,hfree⟩:=ha
  refine(I.hok b ob e).stay (λc w' hc q=>(hs.2 c ?_).trans q) (λ_ q=>q) λ_ _ q=>q
  rintro rfl
  rcases hc with rfl|hc
  ·rw[hfree]at e;cases e
  ·rw[hfree]at hc;cases hc
 rcases hx with hk|hk
 ·refine wpAny_storeName_local hk hn (λh' hn' hs=>?_) hcls
  obtain⟨oL,_,_,hoL,_⟩:=id hn
  refine h _ ⟨I.ok,I.os,I.bare,⟨λb o e n hb hx=>?_,λb o e n hb hx=>?_,I.base.free,λb o e hx=>?_,I.base.tups,I.base.frzs,I.base.tbls⟩,⟨_,hn',λj y v' e1 e2 e3=>?_⟩,λy c e=>?_,I.free,I.freeC,λp hp=>?_,tracked ⟨oL,hoL,I.free⟩ hs,by simpa using I.len⟩ ⟨_,hs,.inl rfl⟩
  ·exact(hs.2 b (yar (yau (yaf e) I.ok.above))).trans (I.base.keep b o e n hb hx)
  ·obtain⟨sl,e1⟩:=I.base.slot b o e n hb hx
   exact⟨sl,(hs.2 b (yar (yau (yaf e) I.ok.above))).trans e1⟩
  ·obtain⟨o',e1⟩:=I.base.there b o e hx
   exact⟨o',(hs.2 b (yar (yau (yaf e) I.ok.above))).trans e1⟩
  ·by_cases hj:j=i
   ·subst hj
    rw[hi]at e1;cases e1
    rw[List.getElem?_set_self hiσ]at e2
    cases e2
    exact⟨u,r,.inl ⟨hk,by simp⟩⟩
   ·rw [List.getElem?_set_ne (yaZ hj)]at e2
    obtain⟨u',r',q⟩:=hl j y v' e1 e2 e3
    refine⟨u',r',?_⟩
    rcases q with⟨k,e⟩|⟨k,c,e,z⟩
    ·refine .inl ⟨k,?_⟩
     have:y≠x:=λe=>hj (qci hN e1 (e▸hi))
     simp[this,e]
    ·exact .inr ⟨k,c,e,z.sameBut hs (cne y c e)⟩
  ·obtain⟨w',z⟩:=I.cell y c e
   exact⟨w',z.sameBut hs (cne y c e)⟩
  ·obtain⟨e,n,ne,nf,d⟩:=I.pin p hp
   exact⟨(hs.2 p.1 ne).trans e,n,ne,nf,d⟩
 ·have hfn:X.fn x=true:=by
   rcases hf with z|z
   ·exact z
   ·rw[z]at hk;cases hk
  obtain⟨c,hc⟩:=I.ok.has x (.inl hk)
  obtain⟨w',z⟩:=I.cell x c hc
  refine wpAny_storeName_cell I.ok.kind hk hc z (λh' hc' hs=>?_)
  obtain⟨oc,hoc,hocd⟩:=id z
  refine h {s with heap:=h' } ⟨I.ok,I.os,I.bare,⟨λb o e n hb hx=>?_,λb o e n hb hx=>?_,I.base.free,λb o e hx=>?_,I.base.tups,I.base.frzs,I.base.tbls⟩,⟨m,hn.sameBut hs (yaZ (cne x c hc)),λj y v' e1 e2 e3=>?_⟩,λy c' e=>?_,I.free,I.freeC,λp hp=>?_,tracked ⟨oc,hoc,I.freeC x c hc⟩ hs,by simpa using I.len⟩ ⟨c,hs,.inr hc⟩
  ·exact(hs.2 b (yar (yau (yaf e) (I.ok.cab x c hfn hc)))).trans (I.base.keep b o e n hb hx)
  ·obtain⟨sl,e1⟩:=I.base.slot b o e n hb hx
   exact⟨sl,(hs.2 b (yar (yau (yaf e) (I.ok.cab x c hfn hc)))).trans e1⟩
  ·obtain⟨o',e1⟩:=I.base.there b o e hx
   exact⟨o',(hs.2 b (yar (yau (yaf e) (I.ok.cab x c hfn hc)))).trans e1⟩
  ·by_cases hj:j=i
   ·subst hj
    rw[hi]at e1;cases e1
    rw[List.getElem?_set_self hiσ]at e2
    cases e2
    exact⟨u,r,.inr ⟨.inl hk,c,hc,hc'⟩⟩
   ·rw [List.getElem?_set_ne (yaZ hj)]at e2
    obtain⟨u',r',q⟩:=hl j y v' e1 e2 e3
    refine⟨u',r',?_⟩
    rcases q with q|⟨k,c',e,z'⟩
    ·exact .inl q
    ·refine .inr ⟨k,c',e,z'.sameBut hs ?_⟩
     rintro rfl
     exact hj (qci hN e1 (I.ok.inj _ _ _ e hc▸hi))
  ·by_cases hcc:c'=c
   ·subst hcc;exact⟨_,hc'⟩
   ·obtain⟨w2,z2⟩:=I.cell y c' e
    exact⟨w2,z2.sameBut hs hcc⟩
  ·obtain⟨e,n,ne,nf,d⟩:=I.pin p hp
   refine⟨(hs.2 p.1 ?_).trans e,n,ne,nf,d⟩
   intro q
   rw[q,hoc]at e
   have q':oc=p.2:=yaJ e
   exact d w' (by rw[<-q'];exact hocd)
theorem yb {M:Model} {A:yam} {E:Value->yab->Prop} {i:Nat} {x:Str} {v:V} {u:Value} {Q:Unit->yab->Prop} (I:Inv X pins σ H s) (hN:X.N.Nodup) (hi:X.N[i]? = some x) (hx:Loc X.env.scope x) (r:zJ v u)
  (h:∀s',Inv X pins (σ.set i (some v)) H s'->Q () s') (hf:X.fn x=true\/X.env.scope.names.lookup x=some .local:=by first|exact .inl rfl|exact .inr rfl|assumption):wpAny M A (storeName X.env x u) Q E s :=
 qdH I hN hi hx r (λs' I' _=>h s' I') hf
theorem Inv.call' {s':yab} {ch:List Addr} (I:Inv X pins σ H s) (ho:s'.os=s.os) (u:Un (frs X.stack) ch H H' s.heap s'.heap) (hok:HOk X.prog X.w H' s'.heap) (hg:ycn s'.gens)
  (hch:∀b∈ch,(b∈X.ex\/X.s₀.heap.objs.size<=b)/\b≠X.env.locals/\(∀x c,X.env.cells.lookup x=some c->c≠b)/\∀p∈X.pn++pins,p.1≠b):Inv X pins σ H' s':=by
 obtain⟨h',g',d',t',o'⟩:=s'
 have e:o'=s.os:=ho
 subst e
 exact I.call (g':=g') (t':=t') (d':=d') u hok hg hch
end
abbrev XK:=Value->Option Addr->Hp->Prop
abbrev St:=List (Option V)
abbrev VK:=V->Hp->Prop
abbrev TE:=St->Hp->VK->Prop
abbrev TT:=St->Hp->(Bool->Hp->Prop)->Prop
abbrev TA:=St->Hp->(List V->Hp->Prop)->Prop
structure qc7 where
 nx:St->Hp->Prop
 rt:VK
 bk:St->Hp->Prop:=λ_ _=>False
 ct:St->Hp->Prop:=λ_ _=>False
abbrev TS:=qc7->St->Hp->Prop
def EP(X:Cx)(pins:List (Addr×Obj))(σ:St)(Q:VK)(u:Value)(s':yab):Prop:=∃v H',Inv X pins σ H' s'/\zJ v u/\Q v H'
def TP(X:Cx)(pins:List (Addr×Obj))(σ:St)(Q:Bool->Hp->Prop)(b:Bool)(s':yab):Prop:=∃H',Inv X pins σ H' s'/\Q b H'
def AP(X:Cx)(pins:List (Addr×Obj))(σ:St)(Q:List V->Hp->Prop)(us:List Value)(s':yab):Prop:=∃vs H',Inv X pins σ H' s'/\qO vs us/\Q vs H'
def SP (X:Cx) (pins:List (Addr×Obj)) (D:qc7) (f:Flow) (s':yab):Prop :=
 match f with
 |.next=>∃σ' H',Inv X pins σ' H' s'/\D.nx σ' H'
 |.brk=>∃σ' H',Inv X pins σ' H' s'/\D.bk σ' H'
 |.cont=>∃σ' H',Inv X pins σ' H' s'/\D.ct σ' H'
 |.ret u=>∃v σ' H',Inv X pins σ' H' s'/\zJ v u/\D.rt v H'
def PE (X:Cx) (e:Expr) (t:TE):Prop :=
 ∀(pins:List (Addr×Obj))(s:yab)(σ:St)(H:Hp)(Q:VK),Inv X pins σ H s->t σ H Q->wpAny (model X.prog X.w) X.A (eval e X.env) (EP X pins σ Q) X.xe s
def PT (X:Cx) (e:Expr) (t:TT):Prop :=
 ∀(pins:List (Addr×Obj))(s:yab)(σ:St)(H:Hp)(Q:Bool->Hp->Prop),Inv X pins σ H s->t σ H Q->wpAny (model X.prog X.w) X.A (isTrue e X.env (eval e X.env)) (TP X pins σ Q) X.xe s
def PW (X:Cx) (e:Expr) (t:TT):Prop :=
 ∀(whole:Sem Value)(pins:List (Addr×Obj))(s:yab)(σ:St)(H:Hp)(Q:Bool->Hp->Prop),Inv X pins σ H s->t σ H Q->wpAny (model X.prog X.w) X.A (isTrue e X.env whole) (TP X pins σ Q) X.xe s
theorem PW.pt{X:Cx}{e:Expr}{t:TT}(h:PW X e t):PT X e t:=h _
def PA (X:Cx) (es:List Expr) (t:TA):Prop :=
 ∀(pos:Pos)(pins:List (Addr×Obj))(s:yab)(σ:St)(H:Hp)(Q:List V->Hp->Prop),Inv X pins σ H s->t σ H Q->wpAny (model X.prog X.w) X.A (spliced (yaI pos (yad es X.env))) (AP X pins σ Q) X.xe s
def PS (X:Cx) (st:Stmt) (t:TS):Prop :=
 ∀(pins:List (Addr×Obj))(s:yab)(σ:St)(H:Hp)(D:qc7),Inv X pins σ H s->t D σ H->wpAny (model X.prog X.w) X.A (exec st X.env) (SP X pins D) X.xe s
def PSs (X:Cx) (st:List Stmt) (t:TS):Prop :=
 ∀(pins:List (Addr×Obj))(s:yab)(σ:St)(H:Hp)(D:qc7),Inv X pins σ H s->t D σ H->wpAny (model X.prog X.w) X.A (execs st X.env) (SP X pins D) X.xe s
theorem thn{α:Type}{t:Sem α}{Q Q':α->yab->Prop}{M:Model}{A:yam}{E:Value->yab->Prop}{s:yab}(h:wpAny M A t Q E s)(hQ:∀a s,Q a s->Q' a s):wpAny M A t Q' E s:=ya3 h hQ λ_ _ x=>x
end L2
namespace L2
open PySem PySem.Spec PyProof.Rows
section
variable{X:Cx}
theorem bin {a b:Expr} {ta tb:TE} (ha:PE X a ta) (hb:PE X b tb) {pins:List (Addr×Obj)} {s:yab} {σ:St} {H:Hp} {R:V->V->Hp->Prop} (I:Inv X pins σ H s) (h:ta σ H λx H1=>tb σ H1 λy H2=>R x y H2)
  {α:Type} {Q:α->yab->Prop} {f:Value->Value->Sem α}
  (hf:∀v u s2 x y H2,Inv X pins σ H2 s2->zJ x v->zJ y u->R x y H2->wpAny (model X.prog X.w) X.A (f v u) Q X.xe s2) :
  wpAny (model X.prog X.w) X.A (eval a X.env) (λv sQ=>wpAny (model X.prog X.w) X.A (eval b X.env) (λu sV=>wpAny (model X.prog X.w) X.A (f v u) Q X.xe sV) X.xe sQ) X.xe s:=by
 refine thn (ha pins s σ H _ I h) λv s1 ⟨x,H1,I1,r1,q1⟩=>?_
 refine thn (hb pins s1 σ H1 _ I1 q1) λu s2 ⟨y,H2,I2,r2,q2⟩=>?_
 exact hf v u s2 x y H2 I2 r1 r2 q2
def qmp(i:Nat):TE:=λσ H Q=>∃v,σ[i]? = some (some v)/\Q v H
def tC(v:V):TE:=λ_ H Q=>Q v H
theorem y7 {i:Nat} {x:Str} {pos:Pos} (hN:X.N[i]? = some x) (hv:Vis X.env.scope x) (hd:(x==("__debug__":Str))=false:=by decide) (hcd:(x==("__classdict__":Str))=false:=by decide):PE X (.Name x pos) (qmp i):=by
 intro pins s σ H Q I h
 obtain⟨v,e,h⟩:=h
 obtain⟨m,hn,hl⟩:=I.loc
 obtain⟨u,r,l⟩:=hl i x v hN e hv
 have fin:EP X pins σ Q u s:=⟨v,H,I,r,h⟩
 rcases l with⟨hk,hm⟩|⟨hk,c,hc,hcell⟩
 ·exact yf5 (wpAny_loadName_local I.ok.kind hk hn hm fin) hd
 ·rcases hk with hk|hk
  ·exact yf5 (wpAny_loadName_cell I.ok.kind hk hc hcell fin) hd
  ·exact yf5 (wpAny_loadName_free I.ok.kind hk hc hcell fin hcd) hd
theorem qjk{i j pos}:PE X (.Constant (.int i) j pos) (tC (.int i)):=λ_ _ _ H _ I h=>wpAny_Constant_int ⟨.int i,H,I.tok _,⟨_,rfl⟩,h⟩
theorem qlm{b j pos}:PE X (.Constant (.bool b) j pos) (tC (.bl b)):=λ_ _ _ H _ I h=>Constant_bool ⟨.bl b,H,I,rfl,h⟩
theorem qjl{j pos}:PE X (.Constant .none j pos) (tC .non):=λ_ _ _ H _ I h=>Constant_none ⟨.non,H,I,rfl,h⟩
theorem qjm{x j pos}:PE X (.Constant (.str x) j pos) (tC (.str x)):=λ_ _ _ H _ I h=>Calls.Constant_str ⟨.str x,H,I.tok _,⟨_,rfl⟩,h⟩
def Gl(X:Cx)(x:Str):Prop:=X.env.kindOf x=some .globalImplicit
theorem vc {E:Value->yab->Prop} {pins:List (Addr×Obj)} {s:yab} {σ:St} {H:Hp} {x:Str} {u:Value} {pos:Pos} {Q:Value->yab->Prop} (I:Inv X pins σ H s) (hg:Gl X x) (hm:X.mg x=some u) (h:Q u s)
  (hd:(x==("__debug__":Str))=false:=by decide):wpAny (model X.prog X.w) X.A (eval (.Name x pos) X.env) Q E s :=
 ydy I.ok.kind hg (Calls.loadGlobal_global (by rw[I.ok.glob];exact I.mod.glob.keeps I.bk) hm h) hd
theorem uM {E:Value->yab->Prop} {pins:List (Addr×Obj)} {s:yab} {σ:St} {H:Hp} {x:Str} {u:Value} {pos:Pos} {Q:Value->yab->Prop} (I:Inv X pins σ H s) (hg:Gl X x) (hm:X.mg x=none) (hv:yaB x=some u) (h:Q u s)
  (hn:x≠"__name__":=by decide) (hd:(x==("__debug__":Str))=false:=by decide):wpAny (model X.prog X.w) X.A (eval (.Name x pos) X.env) Q E s:=by
 obtain⟨mb,h1,h2⟩:=I.mod.blt
 exact ydy I.ok.kind hg (Calls.loadGlobal_builtin (by rw[I.ok.glob];exact I.mod.glob.keeps I.bk) hm (by rw[I.ok.blt];exact h1.keeps I.bk) ((h2 x hn).trans hv) h) hd
theorem qbH {x:Str} {v:V} {u:Value} {pos:Pos} (hg:Gl X x) (hm:X.mg x=some u) (r:zJ v u) (hd:(x==("__debug__":Str))=false:=by decide):PE X (.Name x pos) (tC v) :=
 λ_ _ _ H _ I h=>vc I hg hm ⟨v,H,I,r,h⟩ hd
theorem qdI {x:Str} {v:V} {u:Value} {pos:Pos} (hg:Gl X x) (hm:X.mg x=none) (hv:yaB x=some u) (r:zJ v u) (hn:x≠"__name__":=by decide) (hd:(x==("__debug__":Str))=false:=by decide):PE X (.Name x pos) (tC v) :=
 λ_ _ _ H _ I h=>uM I hg hm hv ⟨v,H,I,r,h⟩ hn hd
variable{a b:Expr}{ta tb:TE}{pos:Pos}
def PC (X:Cx) (op:CmpOp) (a b:Expr) (t:TE):Prop :=
 ∀ (pins:List (Addr×Obj)) (s:yab) (σ:St) (H:Hp) (Q:VK),Inv X pins σ H s->t σ H Q ->
  wpAny (model X.prog X.w) X.A (eval a X.env) (λv sQ=>wpAny (model X.prog X.w) X.A (eval b X.env) (λu sV=>wpAny (model X.prog X.w) X.A (yaS op v u) (EP X pins σ Q) X.xe sV) X.xe sQ) X.xe s
theorem qfp (b:Expr) {op:CmpOp} (h:op ≠ .In) (h2:op ≠ .NotIn):ybB op b=false:=by
 have e1:(op==CmpOp.In)=false:=by cases op<;>first|rfl|exact absurd rfl h
 have e2:(op==CmpOp.NotIn)=false:=by cases op<;>first|rfl|exact absurd rfl h2
 cases b<;>simp[ybB,e1,e2]
def tB(t:TE):TT:=λσ H Q=>t σ H λx H1=>∃c,x=.bl c/\Q c H1
theorem qmq {op:CmpOp} {t:TE} (h:PC X op a b t) (h1:ybB op b=false:=by first|exact qfp _ (by decide) (by decide)|rfl):PT X (.Compare a [op] [b] pos) (tB t):=by
 intro pins s σ H Q I hw
 refine yey (thn (h pins s σ H _ I hw) λv s1 h1=>thn h1 λu s2 h2=>thn h2 λc s3 ⟨x,H1,I1,r1,q1⟩=>?_) h1
 obtain⟨d,rfl,q⟩:=q1
 cases r1
 exact yby ⟨H1,I1,q⟩
theorem qjn {e:Expr} {t:TE} (h:PE X e t) (he:∀whole,isTrue e X.env whole=(do let v <-whole;standAt e.pos;ycX [v] (truthy v)):=by intro _;rfl):PT X e (tB t):=by
 intro pins s σ H Q I hw
 refine isTrue_plain (thn (h pins s σ H _ I hw) λv s1 ⟨x,H1,I1,r1,q1⟩=>?_) (he _)
 obtain⟨d,rfl,q⟩:=q1
 cases r1
 exact yby ⟨H1,I1,q⟩
variable{tA tB':TT}{u0:List Expr}
def qm7(t u:TT):TT:=λσ H Q=>t σ H λc H1=>if c=true then u σ H1 Q else Q false H1
def tOr(t u:TT):TT:=λσ H Q=>t σ H λc H1=>if c=true then Q true H1 else u σ H1 Q
def qm8(t:TT):TT:=λσ H Q=>t σ H λc H1=>Q (!c) H1
theorem qhx (ha:PT X a tA):PW X (.BoolOp .And [a] pos) tA:=by
 intro wh pins s σ H Q I h
 refine isTrue_and (thn (ha pins s σ H Q I h) λc s1 e=>?_)
 cases c with
 |true=>exact isTrue_and_nil e
 |false=>exact e
theorem qjo (ha:PT X a tA):PW X (.BoolOp .Or [a] pos) tA:=by
 intro wh pins s σ H Q I h
 refine isTrue_or (thn (ha pins s σ H Q I h) λc s1 e=>?_)
 cases c with
 |false=>exact isTrue_or_nil e
 |true=>exact e
theorem qjp (ha:PT X a tA) (hb:PW X (.BoolOp .And (b::u0) pos) tB'):PW X (.BoolOp .And (a::b::u0) pos) (qm7 tA tB'):=by
 intro wh pins s σ H Q I h
 refine isTrue_and (thn (ha pins s σ H _ I h) λc s1 ⟨H1,I1,q1⟩=>?_)
 cases c with
 |true=>exact hb wh pins s1 σ H1 Q I1 q1
 |false=>exact⟨H1,I1,q1⟩
theorem qln (ha:PT X a tA) (hb:PW X (.BoolOp .Or (b::u0) pos) tB'):PW X (.BoolOp .Or (a::b::u0) pos) (tOr tA tB'):=by
 intro wh pins s σ H Q I h
 refine isTrue_or (thn (ha pins s σ H _ I h) λc s1 ⟨H1,I1,q1⟩=>?_)
 cases c with
 |true=>exact⟨H1,I1,q1⟩
 |false=>exact hb wh pins s1 σ H1 Q I1 q1
theorem qjq (ha:PT X a tA):PT X (.UnaryOp .Not a pos) (qm8 tA):=by
 intro pins s σ H Q I h
 exact isTrue_not (ha pins s σ H (λc H1=>Q (!c) H1) I h)
def qlo(ta tb:TE):TE:=λσ H Q=>ta σ H λx H1=>∃c,x=.bl c/\if c=true then tb σ H1 Q else Q (.bl false) H1
def qm9(ta tb:TE):TE:=λσ H Q=>ta σ H λx H1=>∃c,x=.bl c/\if c=true then Q (.bl true) H1 else tb σ H1 Q
def qlp(ta:TE):TE:=λσ H Q=>ta σ H λx H1=>∃c,x=.bl c/\Q (.bl (!c)) H1
theorem qjr{op}{t:TE}(h:PE X a t):PE X (.BoolOp op [a] pos) t:=λpins s σ H Q I hw=>BoolOp_one (h pins s σ H Q I hw)
theorem qjs (ha:PE X a ta) (hb:PE X (.BoolOp .And (b::u0) pos) tb):PE X (.BoolOp .And (a::b::u0) pos) (qlo ta tb):=by
 intro pins s σ H Q I h
 refine BoolOp_and (thn (ha pins s σ H _ I h) λv s1 ⟨x,H1,I1,r1,q1⟩=>?_)
 obtain⟨c,rfl,q1⟩:=q1
 cases r1
 refine yby ?_
 cases c with
 |true=>exact hb pins s1 σ H1 Q I1 q1
 |false=>exact⟨.bl false,H1,I1,rfl,q1⟩
theorem qlq (ha:PE X a ta) (hb:PE X (.BoolOp .Or (b::u0) pos) tb):PE X (.BoolOp .Or (a::b::u0) pos) (qm9 ta tb):=by
 intro pins s σ H Q I h
 refine BoolOp_or (thn (ha pins s σ H _ I h) λv s1 ⟨x,H1,I1,r1,q1⟩=>?_)
 obtain⟨c,rfl,q1⟩:=q1
 cases r1
 refine yby ?_
 cases c with
 |false=>exact hb pins s1 σ H1 Q I1 q1
 |true=>exact⟨.bl true,H1,I1,rfl,q1⟩
theorem qjt (ha:PE X a ta):PE X (.UnaryOp .Not a pos) (qlp ta):=by
 intro pins s σ H Q I h
 refine UnaryOp_ (thn (ha pins s σ H _ I h) λv s1 ⟨x,H1,I1,r1,q1⟩=>?_)
 obtain⟨c,rfl,q1⟩:=q1
 cases r1
 exact not_of (yby ⟨.bl (!c),H1,I1,rfl,q1⟩)
def tIf(t:TT)(ta tb:TE):TE:=λσ H Q=>t σ H λc H1=>if c=true then ta σ H1 Q else tb σ H1 Q
theorem qfq {c:Expr} (hc:PT X c tA) (ha:PE X a ta) (hb:PE X b tb):PE X (.IfExp c a b pos) (tIf tA ta tb):=by
 intro pins s σ H Q I h
 refine wpAny_IfExp (thn (hc pins s σ H _ I h) λd s1 ⟨H1,I1,q1⟩=>?_)
 cases d with
 |true=>exact ha pins s1 σ H1 Q I1 q1
 |false=>exact hb pins s1 σ H1 Q I1 q1
end
end L2
namespace L2
open PySem PySem.Spec PyProof.Rows
def SqL (K:yah) (H:Hp) (a:Addr) (xs:List V):Prop :=
 Rd H a (.lst xs) \/
  ∃(o:Obj)(its:Array Value)(n:Nat),K.lookup a=some o/\o.cls=.type "list"/\o.dict=none/\o.data=.seq its n/\its.size<=yas/\qO xs its.toList
def SqT (K:yah) (H:Hp) (a:Addr) (xs:List V):Prop :=
 Rd H a (.tup xs) \/
  ∃(o:Obj)(its:Array Value)(n:Nat),K.lookup a=some o/\o.cls=.type "tuple"/\o.data=.seq its n/\its.size<=yas/\qO xs its.toList
def qna:Value->Option V
 |.none=>some .non
 |.bool b=>some (.bl b)
 |.int i _=>some (.int i)
 |.str x _=>some (.str x)
 |.bytes b _=>some (.byt b)
 |.float b _=>some (.flt b)
 |.ref a=>some (.ref a)
 |.type n=>some (.ty n)
 |_=>none
theorem zJ.abs {x:V} {u:Value} (r:zJ x u):qna u=some x:=by
 cases x with
 |non=>cases r;rfl
 |bl _=>cases r;rfl
 |int _=>obtain⟨t,rfl⟩:=r;rfl
 |str _=>obtain⟨t,rfl⟩:=r;rfl
 |byt _=>obtain⟨t,rfl⟩:=r;rfl
 |flt _=>obtain⟨t,rfl⟩:=r;rfl
 |ref _=>cases r;rfl
 |ty _=>cases r;rfl
theorem zJ.inj{x y:V}{u:Value}(r:zJ x u)(q:zJ y u):x=y:=yaJ (r.abs.symm.trans q.abs)
theorem qO.inj:∀{xs ys:List V}{us:List Value},qO xs us->qO ys us->xs=ys
 |_,_,_,.nil,.nil=>rfl
 |_,_,_,.cons r t,.cons r' t'=>by rw[r.inj r',qO.inj t t']
section
variable{X:Cx}{pins:List (Addr×Obj)}{σ:St}{H:Hp}{s:yab}{a:Addr}{xs ys:List V}
theorem SqL.of{K:yah}(h:H a=some (.lst xs)):SqL K H a xs:=.inl (.inl h)
theorem Inv.list (I:Inv X pins σ H s) (h:SqL X.K H a xs):∃its:List Value,qO xs its/\PlainL s.heap a its.toArray/\xs.length<=yas:=by
 rcases h with h|⟨o,its,n,hk,hc,hd,hs,hz,r⟩
 ·obtain⟨z,its,n,r,e⟩:=h.ok I.hok
  exact⟨its,r,⟨_,n,e,rfl,rfl,rfl⟩,z⟩
 ·refine⟨its.toList,r,⟨o,n,I.kIn a o hk,hc,hd,by simpa using hs⟩,?_⟩
  have e:=r.length
  simp only[yaV]at e
  omega
theorem Inv.tuple (I:Inv X pins σ H s) (h:SqT X.K H a xs):∃its:List Value,qO xs its/\IsTup s.heap a its.toArray/\xs.length<=yas:=by
 rcases h with h|⟨o,its,n,hk,hc,hs,hz,r⟩
 ·obtain⟨z,its,r,p⟩:=h.ok I.hok
  exact⟨its,r,p,z⟩
 ·refine⟨its.toList,r,⟨o,I.kIn a o hk,hc,n,by simpa using hs⟩,?_⟩
  have e:=r.length
  simp only[yaV]at e
  omega
theorem Inv.list_inj (I:Inv X pins σ H s) (h:SqL X.K H a xs) (h':SqL X.K H a ys):xs=ys:=by
 obtain⟨its,r,⟨o,n,e,_,_,d⟩,_⟩:=I.list h
 obtain⟨its',r',⟨o',n',e',_,_,d'⟩,_⟩:=I.list h'
 rw[e]at e';cases e'
 rw[d]at d'
 injection d' with d1 _
 have:its=its':=by simpa using congrArg Array.toList d1
 subst this
 exact r.inj r'
theorem Inv.tuple_inj (I:Inv X pins σ H s) (h:SqT X.K H a xs) (h':SqT X.K H a ys):xs=ys:=by
 obtain⟨its,r,⟨o,e,_,n,d⟩,_⟩:=I.tuple h
 obtain⟨its',r',⟨o',e',_,n',d'⟩,_⟩:=I.tuple h'
 rw[e]at e';cases e'
 rw[d]at d'
 injection d' with d1 _
 have:its=its':=by simpa using congrArg Array.toList d1
 subst this
 exact r.inj r'
end
abbrev Cx.wish(X:Cx)(E:Value->yab->Prop):Cx:={X with xe:=E}
abbrev Cx.nox(X:Cx):Cx:=X.wish λ_ _=>False
theorem Cx.Ok.wish {X:Cx} (ok:X.Ok) (E:Value->yab->Prop):(X.wish E).Ok :=
 ⟨ok.mod,ok.kind,ok.glob,ok.blt,ok.above,ok.inj,ok.has,ok.cab,ok.hd,ok.frames,ok.stk,ok.exf,ok.bs,ok.bsz,ok.noex,ok.exfs,ok.funs,ok.frf⟩
theorem Cx.Ok.unwish {X:Cx} {E:Value->yab->Prop} (ok:(X.wish E).Ok):X.Ok :=
 ⟨ok.mod,ok.kind,ok.glob,ok.blt,ok.above,ok.inj,ok.has,ok.cab,ok.hd,ok.frames,ok.stk,ok.exf,ok.bs,ok.bsz,ok.noex,ok.exfs,ok.funs,ok.frf⟩
section
variable{X:Cx}{pins:List (Addr×Obj)}{σ:St}{H:Hp}{s:yab}{E:Value->yab->Prop}
theorem Inv.wish(I:Inv X pins σ H s)(E:Value->yab->Prop):Inv (X.wish E) pins σ H s:=⟨I.ok.wish E,I.os,I.bare,I.base,I.loc,I.cell,I.free,I.freeC,I.pin,I.hok,I.len⟩
theorem Inv.unwish(I:Inv (X.wish E) pins σ H s):Inv X pins σ H s:=⟨I.ok.unwish,I.os,I.bare,I.base,I.loc,I.cell,I.free,I.freeC,I.pin,I.hok,I.len⟩
theorem SP.unwish {D:qc7} {f:Flow} {s':yab} (h:SP (X.wish E) pins D f s'):SP X pins D f s':=by
 cases f with
 |next=>obtain⟨σ',H',I,q⟩:=h;exact⟨σ',H',I.unwish,q⟩
 |brk=>obtain⟨σ',H',I,q⟩:=h;exact⟨σ',H',I.unwish,q⟩
 |cont=>obtain⟨σ',H',I,q⟩:=h;exact⟨σ',H',I.unwish,q⟩
 |ret u=>obtain⟨v,σ',H',I,r,q⟩:=h;exact⟨v,σ',H',I.unwish,r,q⟩
theorem PE.nox {e:Expr} {t:TE} (h:PE X.nox e t):PE X e t:=λpins s σ H Q I hw=>
 ya3 (h pins s σ H Q (I.wish _) hw) (λ_ _ ⟨v,H',I',r,q⟩=>⟨v,H',I'.unwish,r,q⟩) λ_ _ z=>yaW z
theorem PT.nox {e:Expr} {t:TT} (h:PT X.nox e t):PT X e t:=λpins s σ H Q I hw=>
 ya3 (h pins s σ H Q (I.wish _) hw) (λ_ _ ⟨H',I',q⟩=>⟨H',I'.unwish,q⟩) λ_ _ z=>yaW z
theorem PSs.nox {st:List Stmt} {t:TS} (h:PSs X.nox st t):PSs X st t:=λpins s σ H D I hw=>
 ya3 (h pins s σ H D (I.wish _) hw) (λ_ _ q=>q.unwish) λ_ _ z=>yaW z
end
section
variable{X:Cx}{st:Stmt}{u0:List Stmt}{t u:TS}{e:Expr}{te:TE}{pos:Pos}
def qlr:TS:=λD σ H=>D.nx σ H
def qnb(t u:TS):TS:=λD σ H=>t {D with nx:=u D} σ H
theorem qhy:PSs X [] qlr:=λ_ _ σ H _ I h=>ybZ ⟨σ,H,I,h⟩
theorem qfr (h1:PS X st t) (h2:PSs X u0 u):PSs X (st::u0) (qnb t u):=by
 intro pins s σ H D I h
 refine wpAny_execs_cons (thn (h1 pins s σ H {D with nx:=u D} I h) λf s1 q=>?_)
 cases f with
 |next=>
  obtain⟨σ',H',I',q⟩:=q
  exact h2 pins s1 σ' H' D I' q
 |ret v=>exact q
 |brk=>exact q
 |cont=>exact q
theorem qbI (h1:PS X st t):PSs X [st] t:=by
 intro pins s σ H D I h
 refine wpAny_execs_cons (thn (h1 pins s σ H D I h) λf s1 q=>?_)
 cases f with
 |next=>exact ybZ q
 |ret v=>exact q
 |brk=>exact q
 |cont=>exact q
theorem Inv.quiet{pins:List (Addr×Obj)}{σ:St}{H:Hp}{s:yab}(I:Inv X pins σ H s):interactive X.env=false:=by simp[interactive,I.ok.kind]
def qls(te:TE):TS:=λD σ H=>te σ H λ_ H1=>D.nx σ H1
theorem qhz (he:PE X e te) (hs:ydp e none pos.line X.env=pure false:=by rfl):PS X (.Expr e pos) (qls te):=by
 intro pins s σ H D I h
 exact wpAny_Expr_any (thn (he pins s σ H _ I h) λv s1 ⟨x,H1,I1,r1,q1⟩=>⟨σ,H1,I1,q1⟩) I.quiet hs
def qnc(te:TE):TS:=λD σ H=>te σ H D.rt
theorem qdJ (he:PE X e te):PS X (.Return (some e) pos) (qnc te):=by
 intro pins s σ H D I h
 exact wpAny_Return_some (thn (he pins s σ H _ I h) λv s1 ⟨x,H1,I1,r1,q1⟩=>⟨x,σ,H1,I1,r1,q1⟩)
def qnd(c:TT)(t u:TS):TS:=λD σ H=>c σ H λb H1=>if b=true then t D σ H1 else u D σ H1
theorem qlt {c:Expr} {a b:List Stmt} {tc:TT} (hc:PT X c tc) (ha:PSs X a t) (hb:PSs X b u):PS X (.If c a b pos) (qnd tc t u):=by
 intro pins s σ H D I h
 refine wpAny_If (thn (hc pins s σ H _ I h) λd s1 ⟨H1,I1,q1⟩=>?_)
 cases d with
 |true=>exact ha pins s1 σ H1 D I1 q1
 |false=>exact hb pins s1 σ H1 D I1 q1
end
abbrev TG:=V->St->Hp->(St->Hp->Prop)->Prop
abbrev TGs:=List V->St->Hp->(St->Hp->Prop)->Prop
def PG (X:Cx) (target:Expr) (t:TG):Prop :=
 ∀ (pins:List (Addr×Obj)) (s:yab) (σ:St) (H:Hp) (v:V) (u:Value) (Q:St->Hp->Prop),Inv X pins σ H s->zJ v u->t v σ H Q ->
  wpAny (model X.prog X.w) X.A (ydq target X.env u) (λ_ s'=>∃σ' H',Inv X pins σ' H' s'/\Q σ' H') X.xe s
def PGs (X:Cx) (ts:List Expr) (t:TGs):Prop :=
 ∀ (pins:List (Addr×Obj)) (s:yab) (σ:St) (H:Hp) (vs:List V) (us:List Value) (Q:St->Hp->Prop),Inv X pins σ H s->qO vs us->t vs σ H Q ->
  wpAny (model X.prog X.w) X.A (yeW ((ybs ts X.env).map (·.2)) us) (λ_ s'=>∃σ' H',Inv X pins σ' H' s'/\Q σ' H') X.xe s
abbrev qlu:=V->V->V->Hp->(Hp->Prop)->Prop
def qmr (X:Cx) (t:qlu):Prop :=
 ∀ (pins:List (Addr×Obj)) (s:yab) (σ:St) (H:Hp) (o i v:V) (ov iv u:Value) (Q:Hp->Prop),Inv X pins σ H s->zJ o ov->zJ i iv->zJ v u->t o i v H Q ->
  wpAny (model X.prog X.w) X.A (setItem ov iv u) (λ_ s'=>∃H',Inv X pins σ H' s'/\Q H') X.xe s
section
variable{X:Cx}{pos:Pos}
def qju(i:Nat):TG:=λv σ H Q=>Q (σ.set i (some v)) H
theorem qhA {i:Nat} {x:Str} (hN:X.N.Nodup) (hi:X.N[i]? = some x) (hx:Loc X.env.scope x) (hf:X.fn x=true\/X.env.scope.names.lookup x=some .local:=by first|exact .inl rfl|exact .inr rfl|assumption):PG X (.Name x pos) (qju i):=by
 intro pins s σ H v u Q I r h
 exact wpAny_assign_Name (yb I hN hi hx r (λs' I'=>⟨_,H,I',h⟩) hf)
def qne:TGs:=λvs σ H Q=>vs=[]/\Q σ H
def qlv(t:TG)(u:TGs):TGs:=λvs σ H Q=>∃v r,vs=v::r/\t v σ H λσ' H'=>u r σ' H' Q
theorem qhB:PGs X [] qne:=by
 intro pins s σ H vs us Q I r h
 obtain⟨e,h⟩:=h
 subst e
 cases r
 exact yfD ⟨σ,H,I,h⟩
theorem qfs {e:Expr} {es:List Expr} {t:TG} {u:TGs} (h1:PG X e t) (h2:PGs X es u)
  (hs:(ybs (e::es) X.env).map (·.2)=ydq e X.env::(ybs es X.env).map (·.2):=by rfl):PGs X (e::es) (qlv t u):=by
 intro pins s σ H vs us Q I r h
 obtain⟨v,vr,e1,h⟩:=h
 subst e1
 cases r with
 |cons r rr=>
  rw[hs]
  refine ydr (thn (h1 pins s σ H _ _ _ I r h) λ_ s1 ⟨σ1,H1,I1,q1⟩=>?_)
  exact h2 pins s1 σ1 H1 _ _ Q I1 rr q1
def qnf(K:yah)(n:Nat)(t:TGs):TG:=λv σ H Q=>∃a xs,v=.ref a/\SqT K H a xs/\xs.length=n/\t xs σ H Q
theorem qjv {es:List Expr} {k:Nat} {t:TGs} {n:Nat} (hc:X.calm=true) (h:PGs X es t)
  (hn:(ybs es X.env).length=n:=by rfl) (hst:(ybs es X.env).findIdx? (·.1)=none:=by rfl):PG X (.Tuple es k pos) (qnf X.K n t):=by
 intro pins s σ H v u Q I r hw
 obtain⟨a,xs,e1,hq,hl,hw⟩:=hw
 subst e1
 cases r
 obtain⟨its,rv,ht,hz⟩:=I.tuple hq
 refine assign_Tuple_tuple (I.ok.hd hc) ht (by simp[hn,<-hl,rv.length]) hst λh' hx=>?_
 have I1:Inv X pins σ H {s with heap:=h' }:=I.kept (t':=s.toks) λb o e=>hx b o (yar (yaf e)) e
 exact h pins _ σ H xs _ Q I1 (by simpa using rv) hw
def qng(to ti:TE)(t:qlu):TG:=λv σ H Q=>to σ H λo H1=>ti σ H1 λi H2=>t o i v H2 λH3=>Q σ H3
theorem qjw {o i:Expr} {to ti:TE} {t:qlu} (ho:PE X o to) (hi:PE X i ti) (hs:qmr X t)
  (ha:∀v,ydq (.Subscript o i pos) X.env v=(do
   let ov <-ycX [v] (eval o X.env)
   let iv <-ycX [v,ov] (eval i X.env)
   standAt pos
   ycX [v,ov,iv] (setItem ov iv v)
   release [v,ov,iv] []):=by intro _;rfl):PG X (.Subscript o i pos) (qng to ti t):=by
 intro pins s σ H v u Q I r h
 rw[ha]
 refine yaa (yaT (thn (ho pins s σ H _ I h) λov s1 ⟨x,H1,I1,r1,q1⟩=>?_))
 refine yaa (yaT (thn (hi pins s1 σ H1 _ I1 q1) λiv s2 ⟨y,H2,I2,r2,q2⟩=>?_))
 refine yaa (yeX (yaa (yaT (thn (hs pins s2 σ H2 x y v ov iv u _ I2 r1 r2 r q2) λ_ s3 ⟨H3,I3,q3⟩=>?_))))
 exact wpAny_release ⟨σ,H3,I3,q3⟩
def qms(te:TE)(g:TG):TS:=λD σ H=>te σ H λx H1=>g x σ H1 D.nx
theorem qgE {tg e:Expr} {te:TE} {g:TG} (he:PE X e te) (hg:PG X tg g) (hs:ycM [tg] e pos.line X.env=pure false:=by rfl) (hw:ycN [tg] e X.env=pure none:=by rfl)
  (h1:(ybs [tg] X.env).map (·.2)=[ydq tg X.env]:=by rfl):PS X (.Assign [tg] e pos) (qms te g):=by
 intro pins s σ H D I h
 refine wpAny_Assign_stores (thn (he pins s σ H _ I h) λv s1 ⟨x,H1,I1,r1,q1⟩=>?_) hs hw
 rw[h1]
 exact thn (hg pins s1 σ H1 x v _ I1 r1 q1) λ_ s2 q=>q
theorem qdK {i:Nat} {x:Str} {e:Expr} {te:TE} {pos':Pos} (hN:X.N.Nodup) (hi:X.N[i]? = some x) (hx:Loc X.env.scope x) (he:PE X e te) (hs:ydp e (some (.Name x pos')) pos.line X.env=pure false:=by rfl) (hf:X.fn x=true\/X.env.scope.names.lookup x=some .local:=by first|exact .inl rfl|exact .inr rfl|assumption) :
  PS X (.Assign [.Name x pos'] e pos) (qms te (qju i)):=by
 intro pins s σ H D I h
 refine wpAny_Assign_Name (thn (he pins s σ H _ I h) λv s1 ⟨y,H1,I1,r1,q1⟩=>?_) hs
 exact yb I1 hN hi hx r1 (λs2 I2=>⟨_,H1,I2,q1⟩) hf
def qnh(i j:Nat)(ta:TA):TS:=λD σ H=>ta σ H λvs H1=>∃v w,vs=[v,w]/\D.nx ((σ.set i (some v)).set j (some w)) H1
theorem qjx {i j:Nat} {x y:Str} {a b:Expr} {ta:TA} {px py pt:Pos} {kt k2 pt2} (hc:X.calm=true) (hN:X.N.Nodup) (hi:X.N[i]? = some x) (hj:X.N[j]? = some y) (hij:i≠j)
  (hx:X.env.scope.names.lookup x=some .local) (hy:X.env.scope.names.lookup y=some .local) (ha:PA X [a,b] ta)
  (hw:ycN [.Tuple [.Name x px,.Name y py] kt pt] (.Tuple [a,b] k2 pt2) X.env=pure (some [x,y]))
  (hs:ycM [.Tuple [.Name x px,.Name y py] kt pt] (.Tuple [a,b] k2 pt2) pos.line X.env=pure false:=by rfl) :
  PS X (.Assign [.Tuple [.Name x px,.Name y py] kt pt] (.Tuple [a,b] k2 pt2) pos) (qnh i j ta):=by
 intro pins s σ H D I h
 rw[exec_Assign_arm]
 refine yaa (yeX ?_)
 rw[hs]
 refine yaa (yac ?_)
 rw[if_neg (by decide)]
 refine yaa (Tuple_ (thn (ha _ pins s σ H _ I h) λus s1 ⟨vs,H1,I1,r1,q1⟩=>?_))
 obtain⟨v,w,e1,q1⟩:=q1
 subst e1
 obtain ⟨u1,u2,rfl,rv,rw'⟩:∃u1 u2,us=[u1,u2]/\zJ v u1/\zJ w u2:=by
  cases r1 with
  | cons p q=>
   cases q with
   |cons p' q'=>
    cases q'
    exact⟨_,_,rfl,p,p'⟩
 refine yaM ?_ (by show 2<=yas;decide)
 have I2:Inv X pins σ H1 {s1 with heap:=s1.heap.push {cls:=.type "tuple",data:=.seq [u1,u2].toArray} }:=I1.kept (t':=s1.toks) λb o e=>Heap.get?_push_of_some _ e
 rw[hw]
 refine yaa (yac ?_)
 show wpAny (model X.prog X.w) X.A (do rule "assign.swapped-stores";let items <-unpackItems (.ref s1.heap.objs.size) 2 none;yeW [λv=>yeN X.env y v,λv=>yeN X.env x v] items.reverse;pure Flow.next) _ _ _
 refine yaa (yb0 (yaa (unpackItems_tuple (items := #[u1,u2]) (I.ok.hd hc) (ye7 s1.heap _) λh' hx'=>?_)))
 have I3:=I2.kept (h':=h') (t':=s1.toks) λb o e=>hx' b o (yar (yaf e)) e
 show wpAny _ _ (yeW [λv=>yeN X.env y v,λv=>yeN X.env x v] [u2,u1] >>= λ_=>pure Flow.next) _ _ _
 refine yaa (ydr (yez (yb I3 hN hj (.inl hy) rw' (λs2 I4=>?_) (.inr hy))))
 refine ydr (yez (yb I4 hN hi (.inl hx) rv (λs3 I5=>yfD (yac ?_)) (.inr hx)))
 rw[List.set_comm _ _ (yaZ hij)]at I5
 exact⟨_,H1,I5,q1⟩
end
section
variable{X:Cx}{pos:Pos}
def qjy (c:TT) (tb:TS):TS:=λD σ H=>∃W:Nat->St->Hp->Prop,(∃m,W m σ H)/\∀m σ H,W m σ H ->
 c σ H λb H1=>if b=true then ∃N:St->Hp->Prop,(∀σ' H',N σ' H'->∃m',m'<m/\W m' σ' H')/\tb {D with nx:=N,ct:=N,bk:=D.nx} σ H1 else D.nx σ H1
theorem qft {c:Expr} {body:List Stmt} {tc:TT} {tb:TS} (hp:ye8 (model X.prog X.w) X.A X.env X.xe) (hc:PT X c tc) (hb:PSs X body tb):PS X (.While c body [] pos) (qjy tc tb):=by
 intro pins s σ H D I h
 obtain⟨W,⟨m0,w0⟩,turn⟩:=h
 refine wpAny_While (codeAny_whileLoop (λn s'=>∃σ' H',Inv X pins σ' H' s'/\W n σ' H') ?_ m0 ⟨σ,H,I,w0⟩)
 rintro n s1 ⟨σ1,H1,I1,w1⟩
 refine ybL hp (thn (hc pins s1 σ1 H1 _ I1 (turn n σ1 H1 w1)) λb s2 ⟨H2,I2,q2⟩=>?_)
 cases b with
 | true=>
  obtain⟨N,hN,q2⟩:=q2
  rw[if_pos rfl]
  refine ybL hp (thn (hb pins s2 σ1 H2 _ I2 q2) λf s3 q3=>?_)
  cases f with
  |next=>
   obtain⟨σ3,H3,I3,n3⟩:=q3
   obtain⟨m',hm,w3⟩:=hN σ3 H3 n3
   exact⟨m',hm,σ3,H3,I3,w3⟩
  |cont=>
   obtain⟨σ3,H3,I3,n3⟩:=q3
   obtain⟨m',hm,w3⟩:=hN σ3 H3 n3
   exact⟨m',hm,σ3,H3,I3,w3⟩
  |brk=>exact q3
  |ret v=>exact q3
 |false=>
  rw[if_neg yal]
  exact ybZ ⟨σ1,H2,I2,q2⟩
end
structure It where
 go:Nat->Hp->Prop
 yld:Nat->Hp->V->Hp->Prop
 stop:Nat->Hp->Prop
def qaN (X:Cx) (pins:List (Addr×Obj)) (H:Hp) (b:Addr):Prop :=
 H b=none/\b≠X.env.locals/\b ∉ X.fs/\(b∈X.ex\/X.s₀.heap.objs.size<=b)/\(∀x c,X.env.cells.lookup x=some c->c≠b)/\∀p∈X.pn++pins,p.1≠b
theorem Inv.fpOk {X:Cx} {pins:List (Addr×Obj)} {σ:St} {H H':Hp} {s:yab} {b:Addr} (I:Inv X pins σ H s) (hb:s.heap.objs.size<=b) (hn:H' b=none):qaN X pins H' b:=by
 refine⟨hn,ybI (yau I.lt hb),I.nofs hb,.inr (yaF I.sz hb),λx c e z=>?_,λp hp z=>?_⟩
 ·obtain⟨v,q⟩:=I.cell x c e
  exact absurd (yau q.lt (by rw[z];exact hb)) (ybp _)
 ·exact absurd (yau (yaf (I.pin p hp).1) (by rw[z];exact hb)) (ybp _)
structure qjz (P:yaj) (w:World) (K:yah) (tg:Expr) (J:It) (fp:List Addr) (it:Addr) (tn:Nat->Heap->Prop):Prop where
 mem:it∈fp
 obj:∀i h,tn i h->∀b∈fp,∃o,h.get? b=some o/\∀v,o.data ≠ .cell v
 keep:∀i h h',tn i h->(∀b∈fp,∀o,h.get? b=some o->h'.get? b=some o)->tn i h'
 item:∀(X:Cx),X.prog=P->X.w=w->X.K=K->X.calm=true->∀(i:Nat)(pins:List (Addr×Obj))(s:yab)(σ:St)(H:Hp)(E:Value->yab->Prop),Inv X pins σ H s->(∀b∈fp,qaN X pins H b)->tn i s.heap->J.go i H ->
  wpAny (model P w) X.A (ybk (.ref it)) (λr s1=>∃u,r=some u /\
   wpAny (model P w) X.A (ycq tg (.ref it) u) (λ_ s2=>∃x H',Inv X pins σ H' s2/\zJ x u/\J.yld i H x H'/\tn (i+1) s2.heap/\∀b∈fp,H' b=none) E s1) E s
 done:∀(X:Cx),X.prog=P->X.w=w->X.K=K->X.calm=true->∀(i:Nat)(pins:List (Addr×Obj))(s:yab)(σ:St)(H:Hp)(E:Value->yab->Prop),Inv X pins σ H s->(∀b∈fp,qaN X pins H b)->tn i s.heap->J.stop i H ->
  wpAny (model P w) X.A (ybk (.ref it)) (λr s1=>r=none/\Inv X pins σ H s1) E s
 self:∀(A:yam)(i:Nat)(s:yab)(Q:Value->yab->Prop)(E:Value->yab->Prop),tn i s.heap->Q (.ref it) s->wpAny (model P w) A (yd2 (.ref it)) Q E s
abbrev TI:=St->Hp->(It->Hp->Prop)->Prop
def PIE (X:Cx) (pins:List (Addr×Obj)) (σ:St) (tg:Expr) (R:It->Hp->Prop) (itv:Value) (s2:yab):Prop :=
 ∃(it:Addr)(fp:List Addr)(tn:Nat->Heap->Prop)(J:It)(H':Hp),itv=.ref it/\Inv X pins σ H' s2/\qjz X.prog X.w X.K tg J fp it tn/\tn 0 s2.heap/\(∀b∈fp,qaN X pins H' b)/\R J H'
def PI (X:Cx) (tg iter:Expr) (wi:TI):Prop :=
 ∀ (pins:List (Addr×Obj)) (s:yab) (σ:St) (H:Hp) (R:It->Hp->Prop),Inv X pins σ H s->wi σ H R ->
  wpAny (model X.prog X.w) X.A (eval iter X.env) (λv s1=>wpAny (model X.prog X.w) X.A (yd2 v) (PIE X pins σ tg R) X.xe s1) X.xe s
theorem qfu {M:Model} {A:yam} {E:Value->yab->Prop} {s:yab} {tg:Expr} {it:Addr} {u:Value} {o:Obj} {n:String} {vs:Array Value} {Q:Unit->yab->Prop} (ho:s.heap.get? it=some o) (hc:o.cls=.type n) (hd:o.data=.fields vs)
  (hn:["enumerate","zip","dict_itemiterator","dict_reverseitemiterator","odict_iterator","itertools.zip_longest","itertools.pairwise"].contains n=false) (hQ:Q () s):wpAny M A (ycq tg (.ref it) u) Q E s:=by
 unfold ycq
 cases tg<;>first
  |exact yac hQ
  | (cases u<;>first
    |exact yac hQ
    | (refine yaa (wpAny_load ho ?_)
       rw[hc,hd]
       show wpAny M A (if(["enumerate","zip","dict_itemiterator","dict_reverseitemiterator","odict_iterator","itertools.zip_longest","itertools.pairwise"].contains n&&vs[0]? == some (ya2 _))=true then _ else _) Q E s
       rw[if_neg (by intro h;rw[hn,ycA]at h;cases h)]
       exact yac hQ))
def Itl (K:yah) (a:Addr):It :=
 ⟨λi H=>∃xs x,SqL K H a xs/\xs[i]? = some x,λi H x H'=>H'=H/\∀xs,SqL K H a xs->xs[i]? = some x,λi H=>∃xs,SqL K H a xs/\xs.length<=i⟩
def Itt (K:yah) (a:Addr):It :=
 ⟨λi H=>∃xs x,SqT K H a xs/\xs[i]? = some x,λi H x H'=>H'=H/\∀xs,SqT K H a xs->xs[i]? = some x,λi H=>∃xs,SqT K H a xs/\xs.length<=i⟩
def Itr(lo:Int)(n:Nat):It:=⟨λi _=>i<n,λi H x H'=>H'=H/\x=.int (lo+i),λi _=>n<=i⟩
theorem qdL {P:yaj} {w:World} {K:yah} {tg:Expr} (a it:Addr):qjz P w K tg (Itl K a) [it] it (λi h=>h.IsListIter it a i) where
 mem:=by simp
 obj:=λi h st b hb=>by
  have e:b=it:=by simpa using hb
  subst e
  obtain⟨o,e,c,d⟩:=st
  exact⟨o,e,λv z=>by rw[d]at z;cases z⟩
 keep:=λi h h' st k=>st.at λo e=>k it (by simp) o e
 item:=by
  intro X hP hw hK hc i pins s σ H E I hf st hg
  subst hP hw hK
  obtain⟨xs,x,hq,hx⟩:=hg
  obtain⟨its,rv,p,hz⟩:=I.list hq
  obtain⟨u,hu,ru⟩:=rv.get hx
  obtain⟨f0,f1,f2,f3,f4,f5⟩:=hf it (by simp)
  refine wpAny_pyNext_list_item st p.isList (x:=u) (by simpa using hu) λh' st' sb=>?_
  have I1:Inv X pins σ H {s with heap:=h' }:=I.turned (t':=s.toks) (λb o hb e=>(sb.2 b hb).trans e) f0 f1 f3 f4 f5
  obtain⟨o,e,c,d⟩:=id st'
  exact⟨u,rfl,qfu (s:={s with heap:=h' }) e c d (by decide) ⟨x,H,I1,ru,⟨rfl,λys hy=>by rw[I.list_inj hy hq];exact hx⟩,st',λb hb=>(hf b hb).1⟩⟩
 done:=by
  intro X hP hw hK hc i pins s σ H E I hf st hg
  subst hP hw hK
  obtain⟨xs,hq,hx⟩:=hg
  obtain⟨its,rv,p,hz⟩:=I.list hq
  obtain⟨f0,f1,f2,f3,f4,f5⟩:=hf it (by simp)
  have hl:=rv.length
  exact wpAny_pyNext_list_end (I.ok.hd hc) st p.isList (by simp;omega) λh' eb=>⟨rfl,I.turned (t':=s.toks) (λb o hb e=>eb b o hb e) f0 f1 f3 f4 f5⟩
 self:=λ_ _ _ _ _ st h=>wpAny_pyIter_listiter st h
theorem qc8 {P:yaj} {w:World} {K:yah} {tg:Expr} (a it:Addr):qjz P w K tg (Itt K a) [it] it (λi h=>h.IsTupleIter it a i) where
 mem:=by simp
 obj:=λi h st b hb=>by
  have e:b=it:=by simpa using hb
  subst e
  obtain⟨o,e,c,d⟩:=st
  exact⟨o,e,λv z=>by rw[d]at z;cases z⟩
 keep:=λi h h' st k=>st.at λo e=>k it (by simp) o e
 item:=by
  intro X hP hw hK hc i pins s σ H E I hf st hg
  subst hP hw hK
  obtain⟨xs,x,hq,hx⟩:=hg
  obtain⟨its,rv,p,hz⟩:=I.tuple hq
  obtain⟨u,hu,ru⟩:=rv.get hx
  obtain⟨f0,f1,f2,f3,f4,f5⟩:=hf it (by simp)
  refine wpAny_pyNext_tuple_item st (show s.heap.IsTuple a its.toArray from p) (x:=u) (by simpa using hu) λh' st' sb=>?_
  have I1:Inv X pins σ H {s with heap:=h' }:=I.turned (t':=s.toks) (λb o hb e=>(sb.2 b hb).trans e) f0 f1 f3 f4 f5
  obtain⟨o,e,c,d⟩:=id st'
  exact⟨u,rfl,qfu (s:={s with heap:=h' }) e c d (by decide) ⟨x,H,I1,ru,⟨rfl,λys hy=>by rw[I.tuple_inj hy hq];exact hx⟩,st',λb hb=>(hf b hb).1⟩⟩
 done:=by
  intro X hP hw hK hc i pins s σ H E I hf st hg
  subst hP hw hK
  obtain⟨xs,hq,hx⟩:=hg
  obtain⟨its,rv,p,hz⟩:=I.tuple hq
  obtain⟨f0,f1,f2,f3,f4,f5⟩:=hf it (by simp)
  have hl:=rv.length
  exact wpAny_pyNext_tuple_end (I.ok.hd hc) st (show s.heap.IsTuple a its.toArray from p) (by simp;omega) λh' eb=>⟨rfl,I.turned (t':=s.toks) (λb o hb e=>eb b o hb e) f0 f1 f3 f4 f5⟩
 self:=λ_ _ _ _ _ st h=>wpAny_pyIter_tupleiter st h
theorem qc9 {P:yaj} {w:World} {K:yah} {tg:Expr} (it:Addr) (lo:Int) (n:Nat):qjz P w K tg (Itr lo n) [it] it (λi h=>ycG h it (lo+(i:Nat)*1) ((n:Int)-(i:Nat)) 1) where
 mem:=by simp
 obj:=λi h st b hb=>by
  have e:b=it:=by simpa using hb
  subst e
  exact ⟨_,st,λv z=>by
   have z':ycH _=Data.cell v:=z
   cases z'⟩
 keep:=λi h h' st k=>k it (by simp) _ st
 item:=by
  intro X hP hw hK hc i pins s σ H E I hf st hg
  subst hP hw hK
  obtain⟨f0,f1,f2,f3,f4,f5⟩:=hf it (by simp)
  have W:=Walks.range (prog:=X.prog) (w:=X.w) (I.ok.hd hc) it lo 1 n
  refine W.item i s _ _ hg st λv h' tk hv st' kk=>?_
  obtain⟨t,rfl⟩:=hv
  have I1:Inv X pins σ H {s with heap:=h',toks:=tk}:=I.turned (λb o hb e=>kk b o (by simpa using hb) e) f0 f1 f3 f4 f5
  refine⟨_,rfl,qfu (s:={s with heap:=h',toks:=tk}) (n:="range_iterator") st' rfl rfl (by decide) ⟨.int (lo+i),H,I1,⟨t,?_⟩,⟨rfl,rfl⟩,st',λb hb=>(hf b hb).1⟩⟩
  rw[Int.mul_one]
 done:=by
  intro X hP hw hK hc i pins s σ H E I hf st hg
  subst hP hw hK
  obtain⟨f0,f1,f2,f3,f4,f5⟩:=hf it (by simp)
  exact wpAny_pyNext_range_end (I.ok.hd hc) st (by have:n<=i:=hg;omega) λh' eb=>⟨rfl,I.turned (t':=s.toks) (λb o hb e=>eb b o hb e) f0 f1 f3 f4 f5⟩
 self:=λ_ _ _ _ _ st h=>yeq st h
end L2
namespace L2
open PySem PySem.Spec PyProof.Rows
section
variable{X:Cx}{tg:Expr}
theorem qfv {pins:List (Addr×Obj)} {σ:St} {H:Hp} {s:yab} {R:It->Hp->Prop} {E:Value->yab->Prop} {lo hi:Int} {t u v:Tok} {tk:Nat} (I:Inv X pins σ H s) (h1 : -(2 ^ 62)<=lo) (h2:lo<2 ^ 62) (h3 : -(2 ^ 62)<=hi) (h4:hi<2 ^ 62)
  (q:R (Itr lo (hi-lo).toNat) H):wpAny (model X.prog X.w) X.A (yd2 (.ref s.heap.objs.size)) (PIE X pins σ tg R) E {s with heap:=s.heap.push {cls:=.type "range",data:=.fields #[.int lo t,.int hi u,.int 1 v]},toks:=tk}:=by
 refine ye9 (IsRange.new ..) (small_one h1 h2 h3 h4) ?_
 have I1:Inv X pins σ H {s with heap:=s.heap.push {cls:=.type "range",data:=.fields #[.int lo t,.int hi u,.int 1 v]},toks:=tk}:=I.kept λb o e=>Heap.get?_push_of_some _ e
 refine ⟨(s.heap.push {cls:=.type "range",data:=.fields #[.int lo t,.int hi u,.int 1 v]}).objs.size,[(s.heap.push {cls:=.type "range",data:=.fields #[.int lo t,.int hi u,.int 1 v]}).objs.size],_,_,H,rfl,
  I1.kept (t':=tk) λb o e=>Heap.get?_push_of_some _ e,qc9 _ lo (hi-lo).toNat,?_,λb hb=>?_,q⟩
 ·have e1:lo+((0:Nat):Int)*1=lo:=by simp
  have e2:(((hi-lo).toNat:Nat):Int)-((0:Nat):Int)=yed lo hi 1:=by rw[rangeSize_one];split<;>omega
  show ycG _ _ (lo+((0:Nat):Int)*1) ((((hi-lo).toNat:Nat):Int)-((0:Nat):Int)) 1
  rw[e1,e2]
  exact Heap.get?_push_size _ rfl
 ·have e:b=(s.heap.push {cls:=.type "range",data:=.fields #[.int lo t,.int hi u,.int 1 v]}).objs.size:=by simpa using hb
  subst e
  exact I1.fpOk (yag _) (I1.hok.fresh (yag _))
def qjA(ta:TA):TI:=λσ H R=>ta σ H λvs H1=>∃j:Int,vs=[.int j] /\ -(2 ^ 62)<=j/\j<2 ^ 62/\R (Itr 0 j.toNat) H1
theorem qdM {a:Expr} {ta:TA} {p pos:Pos} (hg:Gl X "range") (hm:X.mg "range"=none) (ha:PA X [a] ta) (hs:yad [a] X.env=[(false,eval a X.env)]:=by rfl):PI X tg (.Call (.Name "range" p) [a] [] pos) (qjA ta):=by
 intro pins s σ H R I h
 refine Call_ (uM I hg hm boot_range (ybm (thn (ha pos pins s σ H _ I h) λus s1 ⟨vs,H1,I1,r1,q1⟩=>?_) hs rfl))
 obtain⟨j,e,q1,q2,q⟩:=q1
 subst e
 cases r1 with
 |cons r rr=>
  cases rr
  obtain⟨t,rfl⟩:=r
  exact call_range_1 (qfv I1 (by omega) (by omega) q1 q2 (by simpa using q))
def qni (wi:TI) (g:TG) (tb:TS):TS:=λD σ H=>wi σ H λJ H1=>∃W:Nat->Nat->St->Hp->Prop,(∃m,W 0 m σ H1)/\∀i m σ H,W i m σ H ->
 (J.stop i H/\D.nx σ H)\/(J.go i H/\∃N:St->Hp->Prop,(∀σ' H',N σ' H'->∃m',m'<m/\W (i+1) m' σ' H')/\∀x H',J.yld i H x H'->g x σ H' λσ2 H2=>tb {D with nx:=N,ct:=N,bk:=D.nx} σ2 H2)
def wm(fp:List Addr)(h:Heap):List (Addr×Obj):=fp.filterMap λb=>(h.get? b).map λo=>(b,o)
theorem jq{fp:List Addr}{h:Heap}{b:Addr}{o:Obj}(hb:b∈fp)(e:h.get? b=some o):(b,o)∈wm fp h:=List.mem_filterMap.mpr ⟨b,hb,by rw[e];rfl⟩
theorem qdN {fp:List Addr} {h:Heap} {p:Addr×Obj} (hp:p∈wm fp h):p.1∈fp/\h.get? p.1=some p.2:=by
 obtain⟨b,hb,e⟩:=List.mem_filterMap.mp hp
 cases q:h.get? b with
 |none=>rw[q]at e;cases e
 |some o=>
  rw[q]at e
  have e':(b,o)=p:=yaJ e
  subst e'
  exact⟨hb,q⟩
theorem Inv.pinned {pins:List (Addr×Obj)} {σ:St} {H:Hp} {s:yab} {fp:List Addr} (I:Inv X pins σ H s) (hf:∀b∈fp,qaN X pins H b) (ho:∀b∈fp,∃o,s.heap.get? b=some o/\∀v,o.data ≠ .cell v):Inv X (pins++wm fp s.heap) σ H s :=
 I.pins_of λp hp=>(mA_.mp hp).elim (λz=>I.pin p (mr_ _ z)) λz=>by
  obtain⟨hb,e⟩:=qdN z
  obtain⟨f0,f1,f2,_⟩:=hf p.1 hb
  obtain⟨o,e',d⟩:=ho p.1 hb
  rw[e]at e';cases e'
  exact⟨e,f0,f1,f2,d⟩
theorem Inv.unpinned{pins pl:List (Addr×Obj)}{σ:St}{H:Hp}{s:yab}(I:Inv X (pins++pl) σ H s):Inv X pins σ H s:=I.pins_of λp hp=>I.pin p (mr_ _ (yc3 _ hp))
theorem qjB {iter:Expr} {body:List Stmt} {wi:TI} {g:TG} {tb:TS} {pos:Pos} (hp:ye8 (model X.prog X.w) X.A X.env X.xe) (hc:X.calm=true) (hi:PI X tg iter wi) (hg:PG X tg g) (hb:PSs X body tb)
  (hs:∀x,ybP iter X.env x=pure x:=by intro _;rfl):PS X (.For tg iter body [] pos) (qni wi g tb):=by
 intro pins s σ H D I h
 refine wpAny_For (thn (hi pins s σ H _ I h) λv s1 h1=>thn h1 λitv s2 h2=>?_) hs
 obtain⟨it,fp,tn,J,H2,e,I2,T,st2,f2,W,⟨m0,w0⟩,turn⟩:=h2
 subst e
 have stat:∀{H':Hp},(∀b∈fp,H' b=none)->∀b∈fp,qaN X pins H' b:=λhn b hb=>⟨hn b hb,(f2 b hb).2⟩
 refine codeAny_forLoop_any (λn s'=>∃i σ' H',Inv X pins σ' H' s'/\tn i s'.heap/\(∀b∈fp,H' b=none)/\W i n σ' H') ?_ m0 ⟨0,σ,H2,I2,st2,λb hb=>(f2 b hb).1,w0⟩
 rintro n s3 ⟨i,σ3,H3,I3,st3,fr3,w3⟩
 rcases turn i n σ3 H3 w3 with⟨stop,qn⟩|⟨go,N,hN,step⟩
 ·refine ybL hp (thn (T.done X rfl rfl rfl hc i pins s3 σ3 H3 X.xe I3 (stat fr3) st3 stop) λr s4 ⟨hr,I4⟩=>?_)
  subst hr
  exact ybZ ⟨σ3,H3,I4,qn⟩
 ·refine ybL hp (thn (T.item X rfl rfl rfl hc i pins s3 σ3 H3 X.xe I3 (stat fr3) st3 go) λr s4 ⟨u,hr,h4⟩=>?_)
  subst hr
  refine ybL hp (thn h4 λ_ s5 ⟨x,H5,I5,r5,y5,st5,fr5⟩=>?_)
  have I5':=I5.pinned (stat fr5) (T.obj _ _ st5)
  refine ybL hp (thn (hg _ s5 σ3 H5 x u _ I5' r5 (step x H5 y5)) λ_ s6 ⟨σ6,H6,I6,q6⟩=>?_)
  refine ybL hp (thn (hb _ s6 σ6 H6 _ I6 q6) λf s7 q7=>?_)
  have again:∀{σ7:St}{H7:Hp},Inv X (pins++wm fp s5.heap) σ7 H7 s7->N σ7 H7->∃m,m<n/\∃i σ' H',Inv X pins σ' H' s7/\tn i s7.heap/\(∀b∈fp,H' b=none)/\W i m σ' H':=λ{σ7 H7} I7 n7=>by
   obtain⟨m',hm,w7⟩:=hN σ7 H7 n7
   refine⟨m',hm,i+1,σ7,H7,I7.unpinned,T.keep _ _ _ st5 λb hb o e=>(I7.pin (b,o) (mr_ _ (mr_ _ (jq hb e)))).1,λb hb=>?_,w7⟩
   obtain⟨o,e,d⟩:=T.obj _ _ st5 b hb
   exact(I7.pin (b,o) (mr_ _ (mr_ _ (jq hb e)))).2.1
  cases f with
  |next=>obtain⟨σ7,H7,I7,n7⟩:=q7;exact again I7 n7
  |cont=>obtain⟨σ7,H7,I7,n7⟩:=q7;exact again I7 n7
  |brk=>obtain⟨σ7,H7,I7,q7⟩:=q7;exact⟨σ7,H7,I7.unpinned,q7⟩
  |ret v=>obtain⟨x7,σ7,H7,I7,r7,q7⟩:=q7;exact⟨x7,σ7,H7,I7.unpinned,r7,q7⟩
end
end L2
namespace L2
open PySem PySem.Spec PyProof.Rows
abbrev R2:=V->V->Hp->VK->Prop
def OpR (X:Cx) (f:Value->Value->Sem Value) (r:R2):Prop :=
 ∀ (pins:List (Addr×Obj)) (s:yab) (σ:St) (H:Hp) (x y:V) (v u:Value) (Q:VK),Inv X pins σ H s->zJ x v->zJ y u->r x y H Q ->
  wpAny (model X.prog X.w) X.A (f v u) (EP X pins σ Q) X.xe s
def j8 (X:Cx) (f:Value) (r:List V->Hp->VK->Prop):Prop :=
 ∀ (pins:List (Addr×Obj)) (s:yab) (σ:St) (H:Hp) (xs:List V) (us:List Value) (Q:VK),Inv X pins σ H s->qO xs us->r xs H Q ->
  wpAny (model X.prog X.w) X.A (call f us) (EP X pins σ Q) X.xe s
def tOp(r:R2)(ta tb:TE):TE:=λσ H Q=>ta σ H λx H1=>tb σ H1 λy H2=>r x y H2 Q
def rI(C:Int->Int->Prop)(g:Int->Int->V):R2:=λx y H Q=>∃i j,x=.int i/\y=.int j/\C i j/\Q (g i j) H
def rI0(g:Int->Int->V):R2:=λx y H Q=>∃i j,x=.int i/\y=.int j/\Q (g i j) H
section
variable{X:Cx}{a b c:Expr}{ta tb tc:TE}{pos:Pos}
theorem qlw (ha:PE X a ta) (hb:PE X b tb) {pins:List (Addr×Obj)} {s:yab} {σ:St} {H:Hp} {R:V->V->Hp->Prop} (I:Inv X pins σ H s)
  (h:ta σ H λx H1=>tb σ H1 λy H2=>R x y H2) {Q:Value->yab->Prop} {f:Value->Value->Sem Value}
  (hf:∀v u s2 x y H2,Inv X pins σ H2 s2->zJ x v->zJ y u->R x y H2->wpAny (model X.prog X.w) X.A (f v u) Q X.xe s2) :
  wpAny (model X.prog X.w) X.A (eval a X.env) (λv sQ=>wpAny (model X.prog X.w) X.A (eval b X.env) (λu sV=>wpAny (model X.prog X.w) X.A (f v u) Q X.xe sV) X.xe sQ) X.xe s:=by
 refine thn (ha pins s σ H _ I h) λv s1 ⟨x,H1,I1,r1,q1⟩=>?_
 refine thn (hb pins s1 σ H1 _ I1 q1) λu s2 ⟨y,H2,I2,r2,q2⟩=>?_
 exact hf v u s2 x y H2 I2 r1 r2 q2
theorem qlx {op:Operator} {r:R2} (ho:OpR X (ybq op) r) (ha:PE X a ta) (hb:PE X b tb):PE X (.BinOp a op b pos) (tOp r ta tb):=by
 intro pins s σ H Q I h
 exact wpAny_BinOp (qlw ha hb I h λv u s2 x y H2 I2 rx ry q=>ho pins s2 σ H2 x y v u Q I2 rx ry q)
theorem opI {f:Value->Value->Sem Value} {C:Int->Int->Prop} {g:Int->Int->Int}
  (rule:∀(i j:Int)(t u:Tok)(s:yab)(Q:Value->yab->Prop)(E:Value->yab->Prop),C i j->Q (.int (g i j) s.toks) {s with toks:=s.toks+1}->wpAny (model X.prog X.w) X.A (f (.int i t) (.int j u)) Q E s) :
  OpR X f (rI C λi j => .int (g i j)):=by
 intro pins s σ H x y v u Q I rx ry h
 obtain⟨i,j,rfl,rfl,hc,q⟩:=h
 obtain⟨t,rfl⟩:=rx
 obtain⟨t',rfl⟩:=ry
 exact rule i j t t' s _ _ hc ⟨.int (g i j),H,I.tok _,⟨_,rfl⟩,q⟩
theorem qmt {f:Value->Value->Sem Value} {g:Int->Int->Int}
  (rule:∀(i j:Int)(t u:Tok)(s:yab)(Q:Value->yab->Prop)(E:Value->yab->Prop),Q (.int (g i j) s.toks) {s with toks:=s.toks+1}->wpAny (model X.prog X.w) X.A (f (.int i t) (.int j u)) Q E s) :
  OpR X f (rI0 λi j => .int (g i j)):=by
 intro pins s σ H x y v u Q I rx ry h
 obtain⟨i,j,rfl,rfl,q⟩:=h
 obtain⟨t,rfl⟩:=rx
 obtain⟨t',rfl⟩:=ry
 exact rule i j t t' s _ _ ⟨.int (g i j),H,I.tok _,⟨_,rfl⟩,q⟩
theorem qlb {f:Value->Value->Sem Value} {g:Int->Int->Bool}
  (rule:∀(i j:Int)(t u:Tok)(s:yab)(Q:Value->yab->Prop)(E:Value->yab->Prop),Q (.bool (g i j)) s->wpAny (model X.prog X.w) X.A (f (.int i t) (.int j u)) Q E s) :
  OpR X f (rI0 λi j => .bl (g i j)):=by
 intro pins s σ H x y v u Q I rx ry h
 obtain⟨i,j,rfl,rfl,q⟩:=h
 obtain⟨t,rfl⟩:=rx
 obtain⟨t',rfl⟩:=ry
 exact rule i j t t' s _ _ ⟨.bl (g i j),H,I,rfl,q⟩
def qjC(i j:Int):Prop:=0<j/\j<1606938044258990275541962092341162602522202993782792835301376
theorem qmu {i j:Int} (h1:0<j) (h2:j<1606938044258990275541962092341162602522202993782792835301376):Builtin.divisionGoesByPylong i j=false:=by
 refine PyProof.noPylong_of_log2 ?_
 have h0:j.natAbs≠0:=by omega
 have h3:j.natAbs<2 ^ 200:=by
   have:(2:Nat) ^ 200=1606938044258990275541962092341162602522202993782792835301376:=by decide +kernel
   omega
 have:=(Nat.log2_lt h0).mpr h3
 omega
def qjD(i j:Int):Prop:=(-(2 ^ 64)<i/\i<2 ^ 64)\/(-(2 ^ 64)<j/\j<2 ^ 64)
theorem qjD.ok {i j:Int} (h:qjD i j):IntMulOk i j:=by
 rcases h with⟨h1,h2⟩|⟨h1,h2⟩
 ·exact .of_left (intBits_le_64 h1 h2)
 ·exact .of_right (intBits_le_64 h1 h2)
theorem qjE:OpR X (ybq .Add) (rI0 λi j => .int (i+j)):=qmt λ_ _ _ _ _ _ _ q=>add_int q
theorem qjF:OpR X (ybq .Sub) (rI0 λi j => .int (i-j)):=qmt λ_ _ _ _ _ _ _ q=>sub_int q
theorem qjG:OpR X (ybq .Mult) (rI qjD λi j => .int (i*j)):=opI λ_ _ _ _ _ _ _ hc q=>mul_int q hc.ok
theorem qdO:OpR X (ybq .FloorDiv) (rI qjC λi j => .int (i/j)):=opI λi j _ _ _ _ _ hc q=>by
 have h1:(0:Int)<j:=hc.1
 have h2:j<1606938044258990275541962092341162602522202993782792835301376:=hc.2
 exact floordiv_int (by omega) (by rw[ydz i (by omega)];exact q) (.inl (qmu h1 h2))
theorem qaO:OpR X (ybq .Mod) (rI (λ_ j=>0<j) λi j => .int (i%j)):=opI λi j _ _ _ _ _ hc q=>by
 have h1:(0:Int)<j:=hc
 exact mod_int' (by omega) (by rw[ydA i (by omega)];exact q)
end
def qly:V->V->Bool
 |.non,.non=>true|.non,.int _=>true|.int _,.non=>true|.non,.bl _=>true|.bl _,.non=>true|.non,.str _=>true|.str _,.non=>true
 |.int _,.int _=>true|.bl _,.bl _=>true|.str _,.str _=>true|.byt _,.byt _=>true
 |.int _,.str _=>true|.str _,.int _=>true|.bl _,.str _=>true|.str _,.bl _=>true
 |_,_=>false
def rEq:R2:=λx y H Q=>qly x y=true/\Q (.bl (decide (x=y))) H
def rNe:R2:=λx y H Q=>qly x y=true/\Q (.bl (!decide (x=y))) H
theorem qdP {i j:Int}:decide (V.int i=V.int j)=(i==j):=by
 rw[ybt]
 simp
theorem qgF {i j:Bool}:decide (V.bl i=V.bl j)=(i==j):=by
 rw[ybt]
 simp
theorem qdQ {i j:Str}:decide (V.str i=V.str j)=(i==j):=by
 rw[ybt]
 simp
theorem qdR {i j:Array UInt8}:decide (V.byt i=V.byt j)=(i.toList==j.toList):=by
 rw[ybt]
 cases i
 cases j
 simp
section
variable{X:Cx}{a b c:Expr}{ta tb tc:TE}{pos:Pos}
theorem qK {pins:List (Addr×Obj)} {σ:St} {H:Hp} {s:yab} {Q:VK} {k k':Bool} (I:Inv X pins σ H s) (q:Q (.bl k) H) (e:k=k'):EP X pins σ Q (.bool k') s:=by
 subst e
 exact⟨.bl k,H,I,rfl,q⟩
theorem qjH:OpR X (yaS .Eq) rEq:=by
 intro pins s σ H x y v u Q I rx ry h
 obtain⟨hs,q⟩:=h
 cases x with
 |non=>
  cases rx
  cases y with
  |non=>cases ry;exact PySem.EqNone.eq_none_none (qK I q (by simp))
  |bl j=>cases ry;exact PySem.EqNone.eq_none_bool (qK I q (by simp))
  |int j=>obtain⟨t',rfl⟩:=ry;exact PySem.EqNone.eq_none_int (qK I q (by simp))
  |str j=>obtain⟨t',rfl⟩:=ry;exact PySem.EqNone.eq_none_str (qK I q (by simp))
  |_=>exact absurd (show false=true from hs) yal
 |bl i=>
  cases rx
  cases y with
  |non=>cases ry;exact PySem.EqNone.eq_bool_none (qK I q (by simp))
  |bl j=>cases ry;exact eq_bool (qK I q qgF)
  |str j=>obtain⟨t',rfl⟩:=ry;exact PySem.EqMixed.eq_bool_str (qK I q (by simp))
  |_=>exact absurd (show false=true from hs) yal
 |int i=>
  obtain⟨t,rfl⟩:=rx
  cases y with
  |non=>cases ry;exact PySem.EqNone.eq_int_none (qK I q (by simp))
  |int j=>obtain⟨t',rfl⟩:=ry;exact eq_int (qK I q qdP)
  |str j=>obtain⟨t',rfl⟩:=ry;exact PySem.EqMixed.eq_int_str (qK I q (by simp))
  |_=>exact absurd (show false=true from hs) yal
 |str i=>
  obtain⟨t,rfl⟩:=rx
  cases y with
  |non=>cases ry;exact PySem.EqNone.eq_str_none (qK I q (by simp))
  |bl j=>cases ry;exact PySem.EqMixed.eq_str_bool (qK I q (by simp))
  |int j=>obtain⟨t',rfl⟩:=ry;exact PySem.EqMixed.eq_str_int (qK I q (by simp))
  |str j=>obtain⟨t',rfl⟩:=ry;exact eq_str (qK I q qdQ)
  |_=>exact absurd (show false=true from hs) yal
 |byt i=>
  obtain⟨t,rfl⟩:=rx
  cases y with
  |byt j=>obtain⟨t',rfl⟩:=ry;exact PySem.W.eq_bytes (qK I q qdR)
  |_=>exact absurd (show false=true from hs) yal
 |_=>cases y<;>exact absurd (show false=true from hs) yal
theorem qlz:OpR X (yaS .NotEq) rNe:=by
 intro pins s σ H x y v u Q I rx ry h
 obtain⟨hs,q⟩:=h
 cases x with
 |non=>
  cases rx
  cases y with
  |non=>cases ry;exact PySem.EqNone.ne_none_none (qK I q (by simp))
  |bl j=>cases ry;exact PySem.EqNone.ne_none_bool (qK I q (by simp))
  |int j=>obtain⟨t',rfl⟩:=ry;exact PySem.EqNone.ne_none_int (qK I q (by simp))
  |str j=>obtain⟨t',rfl⟩:=ry;exact PySem.EqNone.ne_none_str (qK I q (by simp))
  |_=>exact absurd (show false=true from hs) yal
 |bl i=>
  cases rx
  cases y with
  |non=>cases ry;exact PySem.EqNone.ne_bool_none (qK I q (by simp))
  |bl j=>cases ry;exact ne_bool (qK I q (congrArg not qgF))
  |str j=>obtain⟨t',rfl⟩:=ry;exact PySem.EqMixed.ne_bool_str (qK I q (by simp))
  |_=>exact absurd (show false=true from hs) yal
 |int i=>
  obtain⟨t,rfl⟩:=rx
  cases y with
  |non=>cases ry;exact PySem.EqNone.ne_int_none (qK I q (by simp))
  |int j=>obtain⟨t',rfl⟩:=ry;exact ne_int (qK I q (congrArg not qdP))
  |str j=>obtain⟨t',rfl⟩:=ry;exact PySem.EqMixed.ne_int_str (qK I q (by simp))
  |_=>exact absurd (show false=true from hs) yal
 |str i=>
  obtain⟨t,rfl⟩:=rx
  cases y with
  |non=>cases ry;exact PySem.EqNone.ne_str_none (qK I q (by simp))
  |bl j=>cases ry;exact PySem.EqMixed.ne_str_bool (qK I q (by simp))
  |int j=>obtain⟨t',rfl⟩:=ry;exact PySem.EqMixed.ne_str_int (qK I q (by simp))
  |str j=>obtain⟨t',rfl⟩:=ry;exact ne_str (qK I q (congrArg not qdQ))
  |_=>exact absurd (show false=true from hs) yal
 |byt i=>
  obtain⟨t,rfl⟩:=rx
  cases y with
  |byt j=>obtain⟨t',rfl⟩:=ry;exact PySem.W.ne_bytes (qK I q (congrArg not qdR))
  |_=>exact absurd (show false=true from hs) yal
 |_=>cases y<;>exact absurd (show false=true from hs) yal
theorem qlA:OpR X (yaS .Lt) (rI0 λi j => .bl (decide (i<j))):=qlb λ_ _ _ _ _ _ _ q=>lt_int q
theorem qjI:OpR X (yaS .LtE) (rI0 λi j => .bl (decide (i<=j))):=qlb λ_ _ _ _ _ _ _ q=>le_int q
theorem qfw:OpR X (yaS .Gt) (rI0 λi j => .bl (decide (j<i))):=qlb λ_ _ _ _ _ _ _ q=>gt_int q
theorem qlB:OpR X (yaS .GtE) (rI0 λi j => .bl (decide (j<=i))):=qlb λ_ _ _ _ _ _ _ q=>ge_int q
theorem qdS:OpR X (yaS .Is) (λx y H Q=>y=.non/\Q (.bl (decide (x=.non))) H):=by
 intro pins s σ H x y v u Q I rx ry h
 obtain⟨rfl,q⟩:=h
 cases ry
 refine is_none_gen (qK I q ?_)
 cases x<;>first
  |(cases rx;rfl)
  |(obtain⟨t,rfl⟩:=rx;rfl)
theorem OpR.or {f:Value->Value->Sem Value} {r r':R2} (h:OpR X f r) (h':OpR X f r'):OpR X f (λx y H Q=>r x y H Q\/r' x y H Q):=by
 intro pins s σ H x y v u Q I rx ry q
 rcases q with q|q
 ·exact h pins s σ H x y v u Q I rx ry q
 ·exact h' pins s σ H x y v u Q I rx ry q
theorem zg (b:Expr) {op:CmpOp} (h:op ≠ .In:=by decide) (h2:op ≠ .NotIn:=by decide):ybB op b=false:=by
 have e1:(op==CmpOp.In)=false:=by cases op<;>first|rfl|exact absurd rfl h
 have e2:(op==CmpOp.NotIn)=false:=by cases op<;>first|rfl|exact absurd rfl h2
 cases b<;>simp[ybB,e1,e2]
theorem qhC {op:CmpOp} {r:R2} (ho:OpR X (yaS op) r) (ha:PE X a ta) (hb:PE X b tb) (hm:ybB op b=false):PE X (.Compare a [op] [b] pos) (tOp r ta tb):=by
 intro pins s σ H Q I h
 exact wpAny_Compare1 (qlw ha hb I h λv u s2 x y H2 I2 rx ry q=>ho pins s2 σ H2 x y v u Q I2 rx ry q) hm
def qlC(t:TE):TT:=λσ H Q=>t σ H λx H'=>∃k,x=.bl k/\Q k H'
theorem qhD {op:CmpOp} {r:R2} (ho:OpR X (yaS op) r) (ha:PE X a ta) (hb:PE X b tb) (hm:ybB op b=false):PT X (.Compare a [op] [b] pos) (qlC (tOp r ta tb)):=by
 intro pins s σ H Q I h
 refine yey (thn (ha pins s σ H _ I h) λv s1 ⟨x,H1,I1,r1,q1⟩=>thn (hb pins s1 σ H1 _ I1 q1) λu s2 ⟨y,H2,I2,r2,q2⟩=>
  thn (ho pins s2 σ H2 x y v u _ I2 r1 r2 q2) λc s3 ⟨z,H3,I3,r3,k,e,q3⟩=>?_) hm
 subst e
 cases r3
 exact yby ⟨H3,I3,q3⟩
theorem qaP:(yas:Nat)<2 ^ 63:=by rw[yaX];decide
theorem qda:OpR X (ybq .Add) (λx y H Q=>∃i j,x=.str i/\y=.str j/\i.length+j.length<=yas/\Q (.str (i++j)) H):=by
 intro pins s σ H x y v u Q I rx ry h
 obtain⟨i,j,rfl,rfl,hz,q⟩:=h
 obtain⟨t,rfl⟩:=rx
 obtain⟨t',rfl⟩:=ry
 exact add_str (λt' tk=>⟨.str (i++j),H,I.tok _,⟨_,rfl⟩,q⟩) hz
theorem qhE {x:V} {us:List Value} (r:qO [x] us):∃u,us=[u]/\zJ x u:=by
 cases r with
 |cons r1 r2=>cases r2;exact⟨_,rfl,r1⟩
theorem qhF {x y:V} {us:List Value} (r:qO [x,y] us):∃u w',us=[u,w']/\zJ x u/\zJ y w':=by
 cases r with
 |cons r1 r2=>
  cases r2 with
  |cons r3 r4=>cases r4;exact⟨_,_,rfl,r1,r3⟩
theorem qdT (hc:X.calm=true):j8 X (.builtin "max") (λxs H Q=>∃i j,xs=[.int i,.int j]/\Q (.int (if j>i then j else i)) H):=by
 intro pins s σ H xs us Q I r h
 obtain⟨i,j,rfl,q⟩:=h
 obtain⟨u,w',rfl,⟨t,rfl⟩,⟨t',rfl⟩⟩:=qhF r
 refine max_two_ints (I.ok.hd hc) λh' tk k=>⟨_,H,I.kept k,?_,q⟩
 by_cases hj:j>i
 ·rw[if_pos hj,if_pos hj];exact⟨_,rfl⟩
 ·rw[if_neg hj,if_neg hj];exact⟨_,rfl⟩
theorem qaQ (hc:X.calm=true):j8 X (.builtin "min") (λxs H Q=>∃i j,xs=[.int i,.int j]/\Q (.int (if j<i then j else i)) H):=by
 intro pins s σ H xs us Q I r h
 obtain⟨i,j,rfl,q⟩:=h
 obtain⟨u,w',rfl,⟨t,rfl⟩,⟨t',rfl⟩⟩:=qhF r
 refine min_two_ints (I.ok.hd hc) λh' tk k=>⟨_,H,I.kept k,?_,q⟩
 by_cases hj:j<i
 ·rw[if_pos hj,if_pos hj];exact⟨_,rfl⟩
 ·rw[if_neg hj,if_neg hj];exact⟨_,rfl⟩
theorem qbJ:j8 X (.builtin "divmod") (λxs H Q=>∃i j,xs=[.int i,.int j]/\qjC i j/\∀p,H p=none->Q (.ref p) (upd H p (.tup [.int (i/j),.int (i%j)]))):=by
 intro pins s σ H xs us Q I r h
 obtain⟨i,j,rfl,⟨h1,h2⟩,q⟩:=h
 obtain⟨u,w',rfl,⟨t,rfl⟩,⟨t',rfl⟩⟩:=qhF r
 refine divmod_int (by omega) ?_ (.inl (qmu h1 h2))
 rw[ydz i (by omega),ydA i (by omega)]
 have hn:H s.heap.objs.size=none:=I.hok.fresh (yag _)
 refine⟨.ref s.heap.objs.size,_,?_,rfl,q _ hn⟩
 refine I.laid (λb o e=>Heap.get?_push_of_some _ e) (yag _) ⟨by simp only[lC_,lN_];rw[yaX];decide,[.int (i/j) s.toks,.int (i%j) (s.toks+1)],.cons ⟨_,rfl⟩ (.cons ⟨_,rfl⟩ .nil),?_⟩
 exact⟨_,Heap.get?_push_size s.heap rfl,rfl,0,rfl⟩
end
end L2
namespace L2
open PySem PySem.Spec PyProof.Rows
structure qlD (h:Heap) (x dx C:Addr) (mA:Str->Option Value):Prop where
 obj:h.get? x=some (yeg C dx)
 ns:h.Ns1 dx mA
 ne:dx≠x
theorem qdU {h:Heap} {dx:Addr} {mA:Str->Option Value} (n:h.Ns1 dx mA):∃od,h.get? dx=some od/\∀name,yeA name od=some (mA name):=by
 obtain⟨o,es,ep,ho,hd,hk,_,hm⟩:=n
 refine⟨o,ho,λname=>?_⟩
 have e:=hm name
 unfold nsFind findBy at e
 rw[<-Array.find?_toList]at e
 unfold yeA
 rw[hd]
 dsimp only
 split
 ·rename_i y q
  rw[q]at e
  exact congrArg some e
 ·rename_i q
  rw[q]at e
  have a:es.toList.any (·.refKey)=false:=by
   rw[List.any_eq_false]
   intro y hy
   obtain⟨z,t,hkey⟩:=hk y (Array.mem_toList_iff.mp hy)
   simp[DictEntry.refKey,hkey]
  have a':¬es.toList.any (·.refKey)=true:=by rw[a];exact yal
  rw[if_neg a']
  exact congrArg some e
theorem qlD.look {h:Heap} {x dx C:Addr} {mA:Str->Option Value} (I:qlD h x dx C mA):∃od,PySem.W.InstAt h x (yeg C dx) C (some od)/\∀name,yeA name od=some (mA name) :=
 let ⟨od,ho,hl⟩:=qdU I.ns
 ⟨od,⟨I.obj,rfl,rfl,ho⟩,hl⟩
section
variable{prog:yaj}{w:World}{A:yam}{E:Value->yab->Prop}{s:yab}{K:yah}{x dx C f:Addr}{mA:Str->Option Value}{name:Str}{v:Value}
end
def qnj (f:Str) (v:V):List (Str×V)->List (Str×V)
 | []=>[(f,v)]
 |(g,x)::r=>if g=f then(g,v)::r else(g,x)::qnj f v r
section
variable{P:yaj}{w:World}{H H':Hp}{h h':Heap}{a C dx:Addr}{fs fs':List (Str×V)}
theorem ins_get (hok:HOk P w H h) (e:H a=some (.ins C dx fs)):∃mA,qlD h a dx C mA/\(∀f,qjj (fs.lookup f) (mA f))/\PySem.Within mA (fs.map (·.1))/\fs.length<=1000/\H dx=some (.own a):=by
 obtain⟨d,z,ne,ob,mA,n,r,q⟩:=(show jj P w H h a (.ins C dx fs)from hok a _ e)
 exact⟨mA,⟨ob,n,ne⟩,r,q,z,d⟩
end
structure Cls (K:yah) (C:Addr):Prop where
 pg:PySem.W.plainGet K C Str.empty=true
 hd:PySem.W.hasDictIn K C=true
 po:PySem.W.plainOver K C=true
 sa:ybE K (.ref C) "__setattr__"=some (some (.builtin "object.__setattr__"))
theorem Cls.get{K:yah}{C:Addr}(c:Cls K C)(f:Str):PySem.W.plainGet K C f=true:=c.pg
structure Con (K:yah) (C:Addr) (f:Str) (v:V) (u:Value):Prop where
 at_:ybE K (.ref C) f=some (some u)
 rel:zJ v u
 get:yfE K u "__get__"=some none
 cp:PySem.W.copiedNames.contains f=false
structure qnO (K:yah) (C:Addr) (m:Str) (f:Addr):Prop where
 at_:ybE K (.ref C) m=some (some (.ref f))
 fn:PySem.W.isFn K (.ref f)=true
 kp:yaq K (.ref f)=true
section
variable{X:Cx}{pins:List (Addr×Obj)}{σ:St}{H:Hp}{s:yab}{a C dx:Addr}{fs:List (Str×V)}{f:Str}{v:V}{A:yam}{E:Value->yab->Prop}
end
section
variable{X:Cx}{o e value:Expr}{f:Str}{pos pos' tpos:Pos}{ta tv:TE}
end
section
variable{X:Cx}{pins:List (Addr×Obj)}{σ:St}{H:Hp}{s:yab}{A:yam}{E:Value->yab->Prop}{Q:Value->yab->Prop}{c:Value}{b:Bool}
inductive qdF (K:yah) (H:Hp):V->Value->Prop where
 |non:qdF K H .non (.type "NoneType")
 |bl (x:Bool):qdF K H (.bl x) (.type "bool")
 |int (i:Int):qdF K H (.int i) (.type "int")
 |str (x:Str):qdF K H (.str x) (.type "str")
 |flt (x:UInt64):qdF K H (.flt x) (.type "float")
 |lst {a:Addr} {xs:List V} (e:H a=some (.lst xs)):qdF K H (.ref a) (.type "list")
 |frz {a:Addr} {o:Obj} {xs:List V} (e:H a=some (.frz o (.lst xs))):qdF K H (.ref a) (.type "list")
 |tup {a:Addr} {xs:List V} (e:H a=some (.tup xs)):qdF K H (.ref a) (.type "tuple")
 |dK {a:Addr} {kvs:List (Key×V)} (e:H a=some (.dK kvs)):qdF K H (.ref a) (.type "dict")
 |dT {a:Addr} {kvs:List (List Key×V)} (e:H a=some (.dT kvs)):qdF K H (.ref a) (.type "dict")
 | ins {a C dx:Addr} {fs:List (Str×V)} (e:H a=some (.ins C dx fs)) (cl:Cls K C) (ha:ybE K (.ref C) "__class__"=some (some (.builtin "object.__class__")))
   (hn:yfE K (.builtin "object.__class__") "__get__"=some (some (.builtin "getset_descriptor.__get__"))) (htk:PySem.W.takesIn K (.builtin "object.__class__")=some true)
   (hm:PySem.W.mroIn K C (.type "object")=some true):qdF K H (.ref a) (.ref C)
theorem j9 {x:V} {u t:Value} (I:Inv X pins σ H s) (rx:zJ x u) (ty:qdF X.K H x t) (e:yeB X.K t c=some b) (h:∀tk,Q (.bool b) {s with toks:=tk}) :
  wpAny (model X.prog X.w) A (call (.builtin "isinstance") [u,c]) Q E s:=by
 cases ty with
 |non=>cases (show u=yap from rx);exact yaU PySem.W.kitx_none I.kIn yb1 e (λz=>nomatch z) h
 |bl y=>cases (show u=ybb y from rx);exact yaU PySem.W.kitx_bool I.kIn yb1 e (λz=>nomatch z) h
 |int i=>obtain⟨t,q⟩:=(show ∃t,u=ycW i t from rx);cases q;exact yaU PySem.W.kitx_int I.kIn yb1 e (λz=>nomatch z) h
 |str y=>obtain⟨t,q⟩:=(show ∃t,u=Value.str y t from rx);cases q;exact yaU PySem.W.kitx_str I.kIn yb1 e (λz=>nomatch z) h
 |flt y=>obtain⟨t,q⟩:=(show ∃t,u=Value.float y t from rx);cases q;exact yaU PySem.W.kitx_float I.kIn yb1 e (λz=>nomatch z) h
 | @lst a xs ea=>
  cases (show u=yae a from rx)
  obtain⟨_,_,n,_,h1⟩:=(show jj X.prog X.w H s.heap a (.lst xs)from I.hok a _ ea)
  exact yaU ydM I.kIn ⟨_,h1,rfl⟩ e (λz=>nomatch z) h
 | @frz a ob xs ea=>
  cases (show u=yae a from rx)
  obtain⟨_,_,_,n,_,h1⟩:=(show jj X.prog X.w H s.heap a (.frz ob (.lst xs))from I.hok a _ ea)
  exact yaU ydM I.kIn ⟨_,h1,rfl⟩ e (λz=>nomatch z) h
 | @tup a xs ea=>
  cases (show u=yae a from rx)
  obtain⟨_,_,_,p⟩:=(show jj X.prog X.w H s.heap a (.tup xs)from I.hok a _ ea)
  obtain⟨o,h1,h2,_⟩:=p
  exact yaU yfa I.kIn ⟨o,h1,h2⟩ e (λz=>nomatch z) h
 | @dK a kvs ea=>
  cases (show u=yae a from rx)
  obtain⟨_,_,vs,_,p⟩:=(show jj X.prog X.w H s.heap a (.dK kvs)from I.hok a _ ea)
  obtain⟨o,es,ep,h1,h2,_⟩:=p
  exact yaU yfF I.kIn ⟨o,h1,h2.1⟩ e (λz=>nomatch z) h
 | @dT a kvs ea=>
  cases (show u=yae a from rx)
  obtain⟨_,_,xs,_,o,es,ep,h1,h2,_⟩:=(show jj X.prog X.w H s.heap a (.dT kvs)from I.hok a _ ea)
  exact yaU yfF I.kIn ⟨o,h1,h2.1⟩ e (λz=>nomatch z) h
 | @ins a C dx fs ea cl ha hn htk hm=>
  cases (show u=yae a from rx)
  obtain⟨mA,O,_⟩:=ins_get I.hok ea
  obtain⟨od,J,_⟩:=O.look
  exact yaU (PySem.W.kitx_own (cl.get _) cl.hd ha hn htk hm) I.kIn J e (λz=>nomatch z) h
end
end L2
namespace L2
open PySem PySem.Spec PyProof.Rows
structure yc (k:Nat) (A:yam):Prop where
 hd:A.handled=none
 dp:A.depth+3*k+5<ydh
 un:A.units+16*k+200<cLine
 gd:A.guards=some []
theorem yc.mono{j k:Nat}{A:yam}(r:yc k A)(h:j<=k):yc j A:=⟨r.hd,by have:=r.dp;omega,by have:=r.un;omega,r.gd⟩
theorem yc.deeper {k:Nat} {A:yam} (r:yc (k+1) A) (env:Env):yc k (A.deeper env) :=
 ⟨r.hd,by have:=r.dp;show A.depth+1+3*k+5<_;omega,by have:=r.un;show A.units+3+16*k+200<_;omega,r.gd⟩
theorem yc.depth{k:Nat}{A:yam}(r:yc k A):A.depth<ydh:=by have:=r.dp;omega
theorem yc.units{k:Nat}{A:yam}(r:yc k A):A.units+64<cLine:=by have:=r.un;omega
def qmv:TA:=λ_ H Q=>Q [] H
def qhG(ta:TE)(tr:TA):TA:=λσ H Q=>ta σ H λx H1=>tr σ H1 λxs H2=>Q (x::xs) H2
section
variable{X:Cx}{e:Expr}{es:List Expr}{te:TE}{t:TA}{pos:Pos}
theorem uN:PA X [] qmv:=λ_ _ _ _ H Q I h=>yfG ⟨[],H,I,.nil,h⟩
theorem jc (ha:PE X e te) (hr:PA X es t) (hs:yad (e::es) X.env=(false,eval e X.env)::yad es X.env:=by rfl):PA X (e::es) (qhG te t):=by
 intro pos pins s σ H Q I h
 rw[hs]
 show wpAny _ _ (spliced ((false,eval e X.env)::yaI pos (yad es X.env))) _ _ s
 refine yfb (thn (ha pins s σ H _ I h) λu s1 ⟨x,H1,I1,r1,q1⟩=>?_)
 exact thn (hr pos pins s1 σ H1 _ I1 q1) λus s2 ⟨xs,H2,I2,r2,q2⟩=>⟨x::xs,H2,I2,.cons r1 r2,q2⟩
def qnk(t:TA):TE:=λσ H Q=>t σ H λxs H1=>xs.length<=yas/\∀p,H1 p=none->Q (.ref p) (upd H1 p (.tup xs))
def qnl(t:TA):TE:=λσ H Q=>t σ H λxs H1=>xs.length<=yas/\∀p,H1 p=none->Q (.ref p) (upd H1 p (.lst xs))
theorem qjJ {x1} (h:PA X es t):PE X (.Tuple es x1 pos) (qnk t):=by
 intro pins s σ H Q I hq
 refine wpAny_Tuple_spliced (thn (h pos pins s σ H _ I hq) λus s1 ⟨xs,H1,I1,r,z,q⟩=>⟨by rw[<-r.length];exact z,?_⟩)
 have hf:H1 s1.heap.objs.size=none:=I1.hok.fresh (yag _)
 refine⟨.ref s1.heap.objs.size,upd H1 s1.heap.objs.size (.tup xs),I1.laid (t':=s1.toks) (λb u e=>Heap.get?_push_of_some _ e) (yag _) ?_,rfl,q _ hf⟩
 exact⟨z,us,r,⟨_,Heap.get?_push_size _ rfl,rfl,_,rfl⟩⟩
theorem qgG (h:PA X es t):PE X (.List es pos) (qnl t):=by
 intro pins s σ H Q I hq
 refine wpAny_List_spliced (thn (h pos pins s σ H _ I hq) λus s1 ⟨xs,H1,I1,r,z,q⟩=>⟨by rw[<-r.length];exact z,?_⟩)
 have hf:H1 s1.heap.objs.size=none:=I1.hok.fresh (yag _)
 refine⟨.ref s1.heap.objs.size,upd H1 s1.heap.objs.size (.lst xs),I1.laid (t':=s1.toks) (λb u e=>Heap.get?_push_of_some _ e) (yag _) ?_,rfl,q _ hf⟩
 exact⟨z,us,0,r,Heap.get?_push_size _ rfl⟩
end
abbrev Sp:=List V->Hp->VK->XK->Prop
abbrev CXT:=List Env->Hp->yab->XK->Value->yab->Prop
structure qi4 (P:yaj) (w:World) (K:yah) (mg:Str->Option Value) (base:Heap) (A:yam) (outer:List Env) (s:yab) (H:Hp):Prop where
 frames:A.frames=some outer
 mod:Mod K mg base
 bs:∀b o,base.get? b=some o->s.heap.get? b=some o/\H b=none
 bsz:base.objs.size<=s.heap.objs.size
 funs:s.heap.FunFrames base outer
 frf:∀b∈frs outer,H b=none
 hok:HOk P w H s.heap
 bare:ycn s.gens
def CE (outer:List Env) (P:yaj) (w:World) (H:Hp) (s:yab) (Q:VK) (u:Value) (s':yab):Prop :=
 ∃v H',s'.os=s.os/\ycn s'.gens/\Un (frs outer) [] H H' s.heap s'.heap/\HOk P w H' s'.heap/\zJ v u/\Q v H'
def CR (CX:CXT) (outer:List Env) (P:yaj) (w:World) (H:Hp) (s:yab) (Q:VK) (E:XK) (r:yds) (s':yab):Prop :=
 match r with
 |.ok (.ret u)=>CE outer P w H s Q u s'
 |.ok _=>False
 |.error e=>CX outer H s E e s'
structure uq (P:yaj) (w:World) (K:yah) (mg:Str->Option Value) (base:Heap) (CX:CXT) (k:Nat) (f:Addr) (fd:yaL) (ps:List Str) (sp:Sp):Prop where
 len:∀vs H Q E,sp vs H Q E->vs.length=ps.length
 run:∀(A:yam)(outer:List Env)(s:yab)(H:Hp)(args:Args)(us:List Value)(vs:List V)(Q:VK)(E:XK),yc k A->qi4 P w K mg base A outer s H->ydY s fd args (ps.zip us)->qO vs us->sp vs H Q E ->
  ybz (model P w) A (.call (.ref f) args) (CR CX outer P w H s Q E) s
section
variable{X:Cx}{pins:List (Addr×Obj)}{σ:St}{H:Hp}{s s':yab}
theorem Inv.env0 (I:Inv X pins σ H s):qi4 X.prog X.w X.K X.mg X.base X.A X.stack s H :=
 ⟨I.ok.frames,I.ok.mod,I.bs,yaF I.ok.bsz I.sz,I.stack,I.stkFree,I.hok,I.bare⟩
theorem Inv.after {Q:VK} {u:Value} (I:Inv X pins σ H s) (h:CE X.stack X.prog X.w H s Q u s'):EP X pins σ Q u s':=by
 obtain⟨v,H',os,bare,un,hok,r,q⟩:=h
 obtain⟨hh,g,d,t,os'⟩:=s'
 obtain rfl:os'=s.os:=os
 exact⟨v,H',I.call (h':=hh) (g':=g) (d':=d) (t':=t) (ch:=[]) un hok bare (λb z=>absurd z (by simp)),r,q⟩
end
def qlE(sp:Sp)(dvs:List V)(E:XK)(t:TA):TE:=λσ H Q=>t σ H λvs H1=>sp (vs++dvs) H1 Q E
def yt (K:yah) (fd:yaL) (ps:List Str) (ds:List Value):Prop :=
 ∀(s:yab)(us:List Value),K.In s.heap->(us++ds).length=ps.length->ydY s fd ⟨us,[]⟩ (ps.zip (us++ds))
theorem yt.all {K:yah} {fd:yaL} {ps:List Str} (h:∀us:List Value,us.length=ps.length->bindArgs fd ⟨us,[]⟩=pure (ps.zip us)):yt K fd ps []:=λs us _ hl=>by
 rw[yaK]at hl |-
 exact .of_eq (h us hl)
def vd(CX:CXT)(X:Cx)(E:XK):Prop:=∀(pins:List (Addr×Obj))(σ:St)(H:Hp)(s:yab)(e:Value)(s':yab),Inv X pins σ H s->CX X.stack H s E e s'->X.xe e s'
section
variable{X:Cx}{CX:CXT}{k:Nat}{f C:Addr}{fd:yaL}{ps:List Str}{sp:Sp}{dvs:List V}{ds:List Value}{E:XK}{x m:Str}{p pos apos:Pos}{e o:Expr}{es:List Expr}{ta:TE}{t:TA}
theorem qjK {pins:List (Addr×Obj)} {σ:St} {H:Hp} {s:yab} {Q:VK} {us:List Value} {vs:List V} (F:uq X.prog X.w X.K X.mg X.base CX k f fd ps sp) (hr:yc k X.A) (hb:yt X.K fd ps ds) (hd:qO dvs ds) (hx:vd CX X E)
  (I:Inv X pins σ H s) (r:qO vs us) (h:sp (vs++dvs) H Q E):wpAny (model X.prog X.w) X.A (call (.ref f) us) (EP X pins σ Q) X.xe s:=by
 have r2:qO (vs++dvs) (us++ds):=r.append hd
 have hl:(us++ds).length=ps.length:=by rw[<-r2.length];exact F.len _ _ _ _ h
 refine yf6 (yct (F.run X.A X.stack s H ⟨us,[]⟩ (us++ds) (vs++dvs) Q E hr I.env0 (hb s us I.kIn hl) r2 h) λr s' hq=>?_)
 cases r with
 |error e=>exact hx pins σ H s e s' I hq
 |ok fl=>
  cases fl with
  |ret u=>exact I.after hq
  |next=>exact yaW hq
  |brk=>exact yaW hq
  |cont=>exact yaW hq
theorem ve (F:uq X.prog X.w X.K X.mg X.base CX k f fd ps sp) (hr:yc k X.A) (hg:Gl X x) (hm:X.mg x=some (.ref f)) (hk:yaq X.K (.ref f)=true) (hb:yt X.K fd ps ds) (hd:qO dvs ds) (hx:vd CX X E)
  (ha:PA X (e::es) t) (hdb:(x==("__debug__":Str))=false:=by decide) (he:yad (e::es) X.env=(false,eval e X.env)::yad es X.env:=by rfl) (hpl:(yaI pos (yad es X.env)).any (·.1)=false:=by rfl) :
  PE X (.Call (.Name x p) (e::es) [] pos) (qlE sp dvs E t):=by
 intro pins s σ H Q I h
 refine yb2 (vc I hg hm ?_ hdb)
 refine yfc (h₀:=X.base) I.ok.mod.kin hk (thn (ha pos pins s σ H _ I h) λus s1 ⟨vs,H1,I1,r,q⟩=>⟨I1.kIn,?_⟩) he hpl
 exact qjK F hr hb hd hx I1 r q
structure Mk (K:yah) (C f:Addr):Prop where
 makes:PySem.W.makesIn K C=true
 init:ybE K (.ref C) "__init__"=some (some (.ref f))
 fn:PySem.W.isFn K (.ref f)=true
 kp:yaq K (.ref C)=true
end
section
variable{X:Cx}{CX:CXT}{k:Nat}{f C:Addr}{fd:yaL}{ps ks:List Str}{sp:Sp}{E:XK}{x m:Str}{p pos apos kpos:Pos}{e o:Expr}{es:List Expr}{kws:List ycY}{te ta:TE}{t tk:TA}{nm:Option Str}
variable{g:List Value->List Value->List Value}{gV:List V->List V->List V}
end
structure qu (N P:List Str) (sc:Scope):Prop where
 kind:sc.kind=.function
 co:sc.isCoroutine=false
 gen:sc.isGenerator=false
 nd:N.Nodup
 pre:N.take P.length=P
 par:∀x∈P,sc.names.lookup x=some .local\/sc.names.lookup x=some .cell
 nofree:∀y∈sc.names,y.2 ≠ .free
theorem qaR {yb7:Str->Option ycR} {x:Str}:∀{binds:List (Str×Value)}{m:Str->Option Value},(∀v,(x,v) ∉ binds)->bindL yb7 binds m x=m x
 | [],_,_=>rfl
 | (n,v)::r,m,h=>by
  unfold bindL
  rw[qaR λw hw=>h w (mM _ hw)]
  split
  ·have:x≠n:=by rintro rfl;exact h v mS_
   simp[this]
  ·rfl
theorem qaS {yb7:Str->Option ycR} {x:Str}:∀{binds:List (Str×Value)}{m:Str->Option Value},(∀v,(x,v) ∉ binds)->bindC yb7 binds m x=m x
 | [],_,_=>rfl
 | (n,v)::r,m,h=>by
  unfold bindC
  rw[qaS λw hw=>h w (mM _ hw)]
  split
  ·rfl
  ·have:x≠n:=by rintro rfl;exact h v mS_
   simp[this]
theorem vf {yb7:Str->Option ycR} {x:Str} {v:Value}:∀{P:List Str}{vs:List Value}{i:Nat}{m:Str->Option Value},P.Nodup->P[i]? = some x->vs[i]? = some v->yb7 x=some .local ->
  bindL yb7 (P.zip vs) m x=some v
 | [],_,_,_,_,h,_,_=>by simp at h
 |_::_,[],_,_,_,_,h,_=>by simp at h
 |p::P,w::vs,0,m,nd,h1,h2,hk=>by
  simp at h1 h2;subst h1;subst h2
  show bindL yb7 ((p,w)::P.zip vs) m p=_
  unfold bindL
  rw[qaR λv hv=>(List.nodup_cons.mp nd).1 (yc4 hv).1,if_pos hk]
  simp
 |p::P,w::vs,i+1,m,nd,h1,h2,hk=>by
  show bindL yb7 ((p,w)::P.zip vs) m x=_
  unfold bindL
  exact vf (i:=i) (List.nodup_cons.mp nd).2 (by simpa using h1) (by simpa using h2) hk
theorem vg {yb7:Str->Option ycR} {x:Str} {v:Value}:∀{P:List Str}{vs:List Value}{i:Nat}{m:Str->Option Value},P.Nodup->P[i]? = some x->vs[i]? = some v->yb7 x≠some .local ->
  bindC yb7 (P.zip vs) m x=some v
 | [],_,_,_,_,h,_,_=>by simp at h
 |_::_,[],_,_,_,_,h,_=>by simp at h
 |p::P,w::vs,0,m,nd,h1,h2,hk=>by
  simp at h1 h2;subst h1;subst h2
  show bindC yb7 ((p,w)::P.zip vs) m p=_
  unfold bindC
  rw[qaS λv hv=>(List.nodup_cons.mp nd).1 (yc4 hv).1,if_neg hk]
  simp
 |p::P,w::vs,i+1,m,nd,h1,h2,hk=>by
  show bindC yb7 ((p,w)::P.zip vs) m x=_
  unfold bindC
  exact vg (i:=i) (List.nodup_cons.mp nd).2 (by simpa using h1) (by simpa using h2) hk
def zf(N:List Str)(vs:List V):St:=vs.map some++yak (N.length-vs.length) none
def qfg (CX:CXT) (P:yaj) (w:World) (K:yah) (mg:Str->Option Value) (base:Heap) (N:List Str) (qual:Str) (scope:Scope) (f:Addr) (cd:Value) (A:yam) (outer:List Env) (s:yab) (H:Hp) (E:XK):Cx where
 prog:=P
 w:=w
 K:=K
 mg:=mg
 base:=base
 A:=A.deeper (ybd qual scope s.heap.objs.size f cd)
 N:=N
 s₀:=s
 H₀:=H
 env:=ybd qual scope s.heap.objs.size f cd
 outer:=outer
 stack:=ybd qual scope s.heap.objs.size f cd::outer
 ex:=[]
 calm:=true
 fn:=λ_=>true
 pn:=[]
 xe:=λe s'=>wpAny (model P w) (A.deeper (ybd qual scope s.heap.objs.size f cd)) (ydi (ybd qual scope s.heap.objs.size f cd) e) (λ_ s''=>CX outer H s E e s'') (λe' s''=>CX outer H s E e' s'') s'
theorem u3 {sc:Scope} {n:Nat} {x:Str} (h:sc.names.lookup x=some .cell):∃c,(ydt n sc.names []).lookup x=some c:=by
 have q:=ycI sc.names n [] (.inl h)
 exact Option.isSome_iff_exists.mp q
theorem qdV {CX:CXT} {P:yaj} {w:World} {K:yah} {mg:Str->Option Value} {base:Heap} {N ps:List Str} {qual:Str} {scope:Scope} {f:Addr} {cd:Value} {A:yam} {outer:List Env} {s s1:yab} {H:Hp} {E:XK} {us:List Value} {vs:List V}
  (S:qu N ps scope) (hd:A.handled=none) (e0:qi4 P w K mg base A outer s H) (hl:vs.length=ps.length) (r:qO vs us)
  (x:InCallC s s.heap.objs.size (bindL (ybd qual scope s.heap.objs.size f cd).kindOf (ps.zip us) λ_=>none) (ydt (s.heap.objs.size+1) scope.names []) (bindC (ybd qual scope s.heap.objs.size f cd).kindOf (ps.zip us) λ_=>none) s1) :
  Inv (qfg CX P w K mg base N qual scope f cd A outer s H E) [] (zf N vs) H s1:=by
 have hpl:ps.length<=N.length:=by have:=congrArg List.length S.pre;rw[ycS]at this;omega
 obtain⟨h1,tk,rfl,hk⟩:=x.done
 have noA:∀b:Addr,b ∉ (qfg CX P w K mg base N qual scope f cd A outer s H E).ex:=λb z=>absurd (show b∈([]:List Addr)from z) (by simp)
 refine ⟨⟨e0.mod,S.kind,rfl,rfl,yag _,λy z c h1 h2=>?_,λy hy=>?_,λy c _ h=>?_,λ_=>hd,yeO e0.frames,.inr ⟨rfl,rfl⟩,λb z=>absurd z (noA b),e0.bs,e0.bsz,λb _ _=>noA b,λb z=>absurd z (noA b),e0.funs,e0.frf⟩,
  rfl,e0.bare,Un.kept hk,⟨_,x.toInCall.ns,λi y v h1 h2 h3=>?_⟩,λy c h=>⟨_,x.cell y c h⟩,e0.hok.fresh (yag _),λy c h=>?_,λp hp=>absurd (show p∈([]:List (Addr×Obj))from hp) (by simp),e0.hok.kept hk,?_⟩
 ·exact name_of_addr x.apart (yaQ h1) (yaQ h2)
 ·have hy:scope.names.lookup y=some .cell\/scope.names.lookup y=some .free:=hy
  rcases hy with hy|hy
  ·exact u3 hy
  ·exact absurd rfl (S.nofree _ (yaQ hy))
 ·exact ybH (x.above y c (yaQ h))
 ·have hi:i<vs.length:=by
   unfold zf at h2
   by_cases hi:i<vs.length
   ·exact hi
   ·rw[List.getElem?_append_right (by simpa using hi)]at h2
    rw[List.getElem?_replicate]at h2
    split at h2<;>cases h2
  have ha:vs[i]? = some v:=by
   unfold zf at h2
   rw[List.getElem?_append_left (by simpa using hi),gM_]at h2
   cases e:vs[i]? with
   |none=>rw[e]at h2;cases h2
   |some a=>rw[e]at h2;cases h2;rfl
  obtain⟨u,hu,rv⟩:=r.get ha
  have hp:ps[i]? = some y:=by
   rw[<-S.pre,List.getElem?_take_of_lt (by omega)];exact h1
  have ndP:ps.Nodup:=by rw[<-S.pre];exact S.nd.sublist (yfH _ _)
  refine⟨u,rv,?_⟩
  rcases S.par y (ycg hp)with k|k
  ·exact .inl ⟨k,vf ndP hp hu k⟩
  ·obtain⟨c,e⟩:=u3 (n:=s.heap.objs.size+1) k
   refine .inr ⟨.inl k,c,e,?_⟩
   have q:=x.cell y c e
   rw[vg ndP hp hu (by show scope.names.lookup y≠_;rw[k];decide)]at q
   exact q
 ·exact e0.hok.fresh (ybH (x.above y c (yaQ h)))
 ·unfold zf
  show _=N.length
  rw[lA_,lM_,ya7]
  omega
theorem qjL {CX:CXT} {P:yaj} {w:World} {K:yah} {mg:Str->Option Value} {base:Heap} {k:Nat} {f:Addr} {name qual:Str} {params:yeh} {body:List Stmt} {scope:Scope} {dV kV doc pm cdv ct oc:Value} {an od:Option Addr}
  {osl:Array (Option Value)} {N ps:List Str} {sp:Sp} (lk:K.lookup f=some ⟨oc,od,.func (yaw name qual params body scope dV kV doc pm an cdv ct),osl⟩) (hcd:yax K cdv qual=true) (S:qu N ps scope)
  (len:∀vs H Q E,sp vs H Q E->vs.length=ps.length)
  (hbody:∀(A:yam)(outer:List Env)(s:yab)(H:Hp)(vs:List V)(Q:VK)(E:XK),yc k (A.deeper (ybd qual scope s.heap.objs.size f cdv))->sp vs H Q E ->
   ∃t,PSs (qfg CX P w K mg base N qual scope f cdv A outer s H E) body t/\t {nx:=λ_ H'=>Q .non H',rt:=Q} (zf N vs) H) :
  uq P w K mg base CX (k+1) f (yaw name qual params body scope dV kV doc pm an cdv ct) ps sp:=by
 refine⟨len,λA outer s H args us vs Q E hr e0 hb r hsp=>?_⟩
 have hl:=len _ _ _ _ hsp
 have KX:K.In s.heap:=e0.mod.kin.keeps λb o e=>(e0.bs b o e).1
 have lim:s.heap.NoLimit:=e0.mod.nolimit.keeps λb o e=>(e0.bs b o e).1
 have hkind:∀y∈ps.zip us,scope.names.lookup y.1=some .local\/(scope.names.lookup y.1=some .cell/\((ydt (s.heap.objs.size+1) scope.names []).lookup y.1).isSome=true):=λ⟨n,v⟩ hy=>by
  rcases S.par n (yc4 hy).1 with q|q
  ·exact .inl q
  ·exact .inr ⟨q,ycI _ _ _ (.inl q)⟩
 refine yeC hr.depth (KX _ _ lk) rfl S.co S.gen rfl (yfd KX hcd) (hb _ _ _ _ ?_)
 refine ydB S.kind hkind λenv he s1 x=>?_
 subst he
 refine⟨lim.keeps x.toInCall.keep,codeAny_func ?_⟩
 obtain⟨t,ht,hq⟩:=hbody A outer s H vs Q E (hr.deeper _) hsp
 have I:Inv (qfg CX P w K mg base N qual scope f cdv A outer s H E) [] (zf N vs) H s1:=qdV S hr.hd e0 hl r x
 refine ya3 (ht [] s1 (zf N vs) H _ I hq) (λfl s' hs=>?_) λe s' hs=>hs
 have fin:∀{σ':St}{H':Hp}{v:V}{u:Value},Inv (qfg CX P w K mg base N qual scope f cdv A outer s H E) [] σ' H' s'->zJ v u->Q v H'->CE outer P w H s Q u s' :=
  λ{σ' H' v u} J rv q=>⟨v,H',J.os,J.bare,J.base,J.hok,rv,q⟩
 cases fl with
 |ret u=>
  obtain⟨v,σ',H',J,rv,q⟩:=hs
  exact fin J rv q
 |next=>
  obtain⟨σ',H',J,q⟩:=hs
  exact fin (v:=V.non) (u:=yap) J rfl q
 |brk=>
  obtain⟨_,_,_,q⟩:=hs
  exact yaW q
 |cont=>
  obtain⟨_,_,_,q⟩:=hs
  exact yaW q
end L2
namespace L2
open PySem PySem.Spec PyProof.Rows
section
variable{X:Cx}{x:Str}{p pos:Pos}{e:Expr}{es:List Expr}{t:TA}{id T:String}{r:List V->Hp->VK->Prop}
def tCB(r:List V->Hp->VK->Prop)(t:TA):TE:=λσ H Q=>t σ H λvs H1=>r vs H1 Q
theorem u4 (hc:j8 X (.builtin id) r) (hg:Gl X x) (hm:X.mg x=none) (hv:yaB x=some (.builtin id)) (ha:PA X (e::es) t) (hn:x≠"__name__":=by decide) (hdb:(x==("__debug__":Str))=false:=by decide)
  (he:yad (e::es) X.env=(false,eval e X.env)::yad es X.env:=by rfl) (hpl:(yaI pos (yad es X.env)).any (·.1)=false:=by rfl):PE X (.Call (.Name x p) (e::es) [] pos) (tCB r t):=by
 intro pins s σ H Q I h
 refine yb2 (uM I hg hm hv ?_ hn hdb)
 exact yc5 (thn (ha pos pins s σ H _ I h) λus s1 ⟨vs,H1,I1,r1,q1⟩=>hc pins s1 σ H1 vs us Q I1 r1 q1) he hpl
theorem qdW (hc:j8 X (.type T) r) (hg:Gl X x) (hm:X.mg x=none) (hv:yaB x=some (.type T)) (ha:PA X (e::es) t) (hn:x≠"__name__":=by decide) (hdb:(x==("__debug__":Str))=false:=by decide)
  (he:yad (e::es) X.env=(false,eval e X.env)::yad es X.env:=by rfl) (hpl:(yaI pos (yad es X.env)).any (·.1)=false:=by rfl):PE X (.Call (.Name x p) (e::es) [] pos) (tCB r t):=by
 intro pins s σ H Q I h
 refine yb2 (uM I hg hm hv ?_ hn hdb)
 exact ybm (thn (ha pos pins s σ H _ I h) λus s1 ⟨vs,H1,I1,r1,q1⟩=>hc pins s1 σ H1 vs us Q I1 r1 q1) he hpl
end
end L2
namespace HT
open PySem PyProof.Rows
def lexLt:List Int->List Int->Bool
 | [],[]=>false
 | [],_::_=>true
 |_::_,[]=>false
 |x::xs,y::ys=>if x=y then lexLt xs ys else decide (x<y)
theorem lexLt_cons(x y:Int)(xs ys:List Int):lexLt (x::xs) (y::ys)=if x=y then lexLt xs ys else decide (x<y):=rfl
theorem wR:lexLt [] []=false:=rfl
theorem v4(y:Int)(ys:List Int):lexLt [] (y::ys)=true:=rfl
theorem v5(x:Int)(xs:List Int):lexLt (x::xs) []=false:=rfl
theorem qfx (A:yam) (s:yab) (a:Int) (t:Tok) (c:Int) (u:Tok):∃e,yf7 A s (.int a t) (.int c u) e/\(e=true ↔ a=c) :=
 ⟨(a==c),yfe a t c u,by simp⟩
theorem qfy (A:yam) (s:yab) (a:Int) (t:Tok) (c:Int) (u:Tok) (prog:yaj) (w:World) (E:Value->yab->Prop) (Q:Value->yab->Prop) (h:Q (.bool (decide (a<c))) s) :
  wpAny (model prog w) A (richCompare .Lt (.int a t) (.int c u)) Q E s :=
 (PyProof.Rows.lt_int h:wpAny (model prog w) A (yaS .Lt (.int a t) (.int c u)) Q E s)
section
open PySem.SeqAt
open PySem.AutoSeq1 (wpAny_loadPart')
open PySem.MeetsSeq PySem.MeetsSeq2 PySem.MeetsSeq3
theorem wS (l b:Addr) (items items2:Array Value) (n n2:Nat) (dd dd2:Option Addr) (sl sl2:Array (Option Value)) (ns ms:List Int) (hi:ybF items.toList ns) (hj:ybF items2.toList ms) :
  Meets (yba.«tuple.__lt__» ⟨[.ref l,.ref b],[]⟩)
   (λ_ R s=>s.heap.get? l=some {cls:=.type "tuple",dict:=dd,data:=.seq items n,slots:=sl}/\s.heap.get? b=some {cls:=.type "tuple",dict:=dd2,data:=.seq items2 n2,slots:=sl2} /\
    R (.ok (.ret (.bool (lexLt ns ms)))) s) :=
 .of_wp λprog w A R s h=>by
  obtain⟨hp,g,d,tk,os⟩:=s;obtain⟨hl,hb,h⟩:=h
  have f2:=yd3
  have z1:items.size=ns.length:=by rw[<-hi.length];simp
  have z2:items2.size=ms.length:=by rw[<-hj.length];simp
  wp_walk using yb3 hl,yb3 hb,wpAny_forIn_list _ (λu0 b s'=>b.1=none/\s'=⟨hp,g,d,tk,os⟩/\∃(vs ws:List Value)(ns' ms':List Int),u0=vs.zip ws /\
   ybF vs ns'/\ybF ws ms'/\ns'.length+items2.size=ms'.length+items.size/\R (.ok (.ret (.bool (lexLt ns' ms')))) ⟨hp,g,d,tk,os⟩) _
  case turn=>
   rintro⟨y,x⟩ u0 b s' ⟨hb',rfl,vs,ws,ns',ms',hz,hvi,hwi,hlen,hR⟩
   cases hvi with
   |nil=>rw[List.zip_nil_left]at hz;cases hz
   | cons a t hvi'=>
    cases hwi with
    |nil=>rw[List.zip_nil_right]at hz;cases hz
    | cons c u hwi'=>
     rw[yff]at hz
     injection hz with hyx hrest
     injection hyx with hy hx
     subst hy hx
     rw[lexLt_cons]at hR
     simp only[lC_]at hlen
     obtain⟨e,he,hiff⟩:=qfx A.in1 ⟨hp,g,d,tk,os⟩ a t c u
     refine yaa (he prog w _ _ ?_)
     cases e with
     |true=>
      rw[if_pos (hiff.mp rfl)]at hR
      wp_walk
      exact⟨rfl,rfl,_,_,_,_,hrest,hvi',hwi',by omega,hR⟩
     |false=>
      rw[if_neg (λq=>absurd (hiff.mpr q) yal)]at hR
      have hri:=qfy A.in1 ⟨hp,g,d,tk,os⟩ a t c u prog w
      wp_walk using hri
      exact⟨_,rfl,by simpa using hR⟩
  case fin=>
   rintro⟨b1,b2⟩ s' ⟨hb',rfl,vs,ws,ns',ms',hz,hvi,hwi,hlen,hR⟩
   simp only at hb'
   subst hb'
   have hv:lexLt ns' ms'=decide (items.size<items2.size):=by
    cases hvi with
    | nil=>
     cases hwi with
     |nil=>
      simp only[lN_]at hlen
      rw[wR]
      exact(decide_eq_false (by omega)).symm
     |cons c u hw=>
      simp only[lN_,lC_]at hlen
      rw[v4]
      exact(decide_eq_true (by omega)).symm
    | cons a t hv=>
     cases hwi with
     |nil=>
      simp only[lN_,lC_]at hlen
      rw[v5]
      exact(decide_eq_false (by omega)).symm
     |cons c u hw=>
      rw[yff]at hz
      cases hz
   rw[hv]at hR
   wp_walk
   exact⟨_,rfl,by simpa [Builtin.Tuple.tupleCompareSizes] using hR⟩
  case h=>
   exact⟨rfl,rfl,items.toList,items2.toList,ns,ms,rfl,hi,hj,by omega,h⟩
end
section
variable{prog:yaj}{w:World}{A:yam}{E:Value->yab->Prop}{s:yab}
theorem lt_tupInts {l b:Addr} {items items2:Array Value} {ns ms:List Int} {Q:Value->yab->Prop} (hl:IsTup s.heap l items) (hb:IsTup s.heap b items2) (hi:ybF items.toList ns) (hj:ybF items2.toList ms)
  (hu:A.units<cLine) (h:Q (.bool (lexLt ns ms)) s):wpAny (model prog w) A (yaS .Lt (.ref l) (.ref b)) Q E s:=by
 obtain⟨⟨cls,dd,data,sl⟩,ho,hc,n,hd⟩:=id hl
 obtain⟨⟨cls2,dd2,data2,sl2⟩,ho2,hc2,n2,hd2⟩:=id hb
 simp only at hc hd hc2 hd2
 subst hc hd hc2 hd2
 exact richCompare_meets_room (op := .Lt) ⟨_,ho,rfl⟩ ⟨_,ho2,rfl⟩ PySem.F.slot_tuple_lt PySem.F.entry_tuple_lt (PySem.F.args_tuple_lt_2 _ _) (wS l b items items2 n n2 dd dd2 sl sl2 ns ms hi hj)
  ⟨ho,ho2,show ybb (lexLt ns ms)≠Value.notImplemented/\Q (.bool (lexLt ns ms)) s from⟨(λx=>nomatch x),h⟩⟩ hu
theorem cat_tup {t b:Addr} {vs ws:List Value} {Q:Value->yab->Prop} (ht:IsTup s.heap t vs.toArray) (hb:IsTup s.heap b ws.toArray) (hv:vs≠[])
  (h1:ws=[]->Q (.ref t) s) (h2:ws≠[]->Q (.ref s.heap.objs.size) {s with heap:=s.heap.push {cls:=.type "tuple",data:=.seq (vs++ws).toArray} })
  (hsz:vs.length+ws.length<=yas):wpAny (model prog w) A (ybq .Add (.ref t) (.ref b)) Q E s:=by
 obtain⟨⟨cls,dd,data,sl⟩,ho,hc,n,hd⟩:=id ht
 obtain⟨⟨cls2,dd2,data2,sl2⟩,ho2,hc2,n2,hd2⟩:=id hb
 simp only at hc hd hc2 hd2
 subst hc hd hc2 hd2
 have e:vs.toArray++ws.toArray=(vs++ws).toArray:=by simp
 by_cases hw:ws=[]
 ·exact yfg ⟨_,ho,rfl⟩ ⟨_,ho2,rfl⟩ yd4 yeY ycJ ycD (ycu _ _)
   (tuple_addW1 t b vs.toArray ws.toArray n n2 dd dd2 sl sl2 (by simpa using hv) (by simp[hw])) ⟨ho,ho2,h1 hw⟩
 ·refine yfg ⟨_,ho,rfl⟩ ⟨_,ho2,rfl⟩ yd4 yeY ycJ ycD (ycu _ _)
   (tuple_addW2 t b vs.toArray ws.toArray n n2 dd dd2 sl sl2 (by simpa using hv) (by simpa using hw) (by rw[sT_,sT_];exact hsz)) ⟨ho,ho2,?_⟩
  rw[e]
  exact h2 hw
def sIx (n d:Nat):Option Int->Nat
 |none=>d
 |some v=>if v<0 then(v+(n:Int)).toNat else min v.toNat n
end
end HT
namespace L2
open PySem PySem.Spec PyProof.Rows
abbrev TO:=St->Hp->(Option Int->Hp->Prop)->Prop
theorem wo {ns:List Int}:∀{us:List Value},qO (ns.map V.int) us->ybF us ns:=by
 induction ns with
 |nil=>intro us r;rw[ycv]at r;cases r;exact .nil
 | cons n ns ih=>
  intro us r
  rw[mC_]at r
  cases r with
  |cons r1 r2=>
   obtain⟨t,e⟩:=r1
   subst e
   exact .cons n t (ih r2)
section
variable{X:Cx}{e:Expr}{te:TE}{lo hi:Option Expr}{tl th:TO}{pos p2:Pos}
def SlR (X:Cx) (r:V->Option Int->Option Int->Hp->VK->Prop):Prop :=
 ∀ (pins:List (Addr×Obj)) (s:yab) (σ:St) (H:Hp) (x:V) (v vl vu:Value) (lo hi:Option Int) (sl:Addr) (Q:VK),Inv X pins σ H s->zJ x v->s.heap.IsSliceOf sl vl vu .none->IsPart vl lo->IsPart vu hi->r x lo hi H Q ->
  ∃T id,yf8 (.type T) "__getitem__"=pure (some (.builtin id))/\s.TypeIs v T/\wpAny (model X.prog X.w) X.A (getItem v (.ref sl)) (EP X pins σ Q) X.xe s
theorem SlR.or {r r':V->Option Int->Option Int->Hp->VK->Prop} (h:SlR X r) (h':SlR X r'):SlR X (λx lo hi H Q=>r x lo hi H Q\/r' x lo hi H Q):=by
 intro pins s σ H x v vl vu lo hi sl Q I rx hs pl pu q
 rcases q with q|q
 ·exact h pins s σ H x v vl vu lo hi sl Q I rx hs pl pu q
 ·exact h' pins s σ H x v vl vu lo hi sl Q I rx hs pl pu q
def qlc(xs:List V)(lo hi:Option Int):List V:=(xs.drop (HT.sIx xs.length 0 lo)).take (HT.sIx xs.length xs.length hi-HT.sIx xs.length 0 lo)
theorem qbK (xs:List V) (lo hi:Option Int):(qlc xs lo hi).length<=xs.length:=by
 unfold qlc
 rw[ycS,List.length_drop]
 omega
def qjM (K:yah):R2:=λx y H Q=>∃a b xs ys,x=.ref a/\y=.ref b/\SqT K H a xs/\SqT K H b ys/\xs≠[]/\xs.length+ys.length<=yas /\
 (ys=[]->Q (.ref a) H)/\(ys≠[]->∀p,H p=none->Q (.ref p) (upd H p (.tup (xs++ys))))
theorem qO.nil_iff {xs:List V} {us:List Value} (r:qO xs us):us=[] ↔ xs=[]:=by
 cases r with
 |nil=>simp
 |cons _ _=>simp
theorem qhH:OpR X (ybq .Add) (qjM X.K):=by
 intro pins s σ H x y v u Q I rx ry h
 obtain⟨a,b,xs,ys,rfl,rfl,ha,hb,hx,hz,q1,q2⟩:=h
 cases rx
 cases ry
 obtain⟨its,r1,p1,_⟩:=I.tuple ha
 obtain⟨its2,r2,p2,_⟩:=I.tuple hb
 refine HT.cat_tup p1 p2 (λz=>hx (r1.nil_iff.mp z)) (λz=>⟨.ref a,H,I,rfl,q1 (r2.nil_iff.mp z)⟩) (λz=>?_) (by rw[<-r1.length,<-r2.length];exact hz)
 refine⟨.ref s.heap.objs.size,_,I.laid (t':=s.toks) (o:=.tup (xs++ys)) (λb ob q=>Heap.get?_push_of_some _ q) (yag _) ?_,rfl,q2 (λw=>z (r2.nil_iff.mpr w)) _ (I.hok.fresh (yag _))⟩
 exact⟨by rw[lA_];exact hz,_,r1.append r2,ye7 _ _⟩
end
end L2
namespace L2
open PySem PySem.Spec PyProof.Rows
def ixN(n:Nat)(i:Int):Option Nat:=if 0<=i then(if i<n then some i.toNat else none)else if -(n:Int)<=i then some (i+n).toNat else none
def atI{α:Type}(xs:List α)(i:Int):Option α:=(ixN xs.length i).bind λj=>xs[j]?
theorem qdX {n:Nat} {i:Int} {j:Nat} (h:ixN n i=some j):seqIndex? i n=some j/\j<n /\ -(n:Int)<=i/\i<n:=by
 unfold ixN at h
 by_cases h0:0<=i
 ·rw [if_pos h0]at h
  by_cases h1:i<n
  ·rw[if_pos h1]at h
   have e:i.toNat=j:=yaJ h
   exact⟨by rw[yfW h0 h1,e],by omega,by omega,h1⟩
  ·rw[if_neg h1]at h;cases h
 ·rw [if_neg h0]at h
  by_cases h1 : -(n:Int)<=i
  ·rw[if_pos h1]at h
   have e:(i+n).toNat=j:=yaJ h
   exact⟨by rw[yfh (by omega) h1,e],by omega,h1,by omega⟩
  ·rw[if_neg h1]at h;cases h
theorem qdY {α:Type} {xs:List α} {i:Int} {v:α} (h:atI xs i=some v):∃j,seqIndex? i xs.length=some j/\xs[j]? = some v/\j<xs.length /\ -(xs.length:Int)<=i/\i<xs.length:=by
 unfold atI at h
 cases e:ixN xs.length i with
 |none=>rw[e]at h;cases h
 |some j=>
  rw[e]at h
  obtain⟨h1,h2,h3,h4⟩:=qdX e
  exact⟨j,h1,h,h2,h3,h4⟩
def qbL(b:Expr):Prop:=∀o i,subscripted b false o i=operate [o,i] (getItem o i)
def IxR (X:Cx) (r:R2):Prop :=
 ∀ (value slice:Expr) (pins:List (Addr×Obj)) (s:yab) (σ:St) (H:Hp) (x y:V) (v u:Value) (Q:VK),Inv X pins σ H s->zJ x v->zJ y u->r x y H Q ->
  subscripted slice false v u=operate [v,u] (getItem v u)->wpAny (model X.prog X.w) X.A (subscriptTail value slice v u) (EP X pins σ Q) X.xe s
def MtR (X:Cx) (id:String) (r:V->List V->Hp->VK->Prop):Prop :=
 ∀ (pins:List (Addr×Obj)) (s:yab) (σ:St) (H:Hp) (x:V) (xs:List V) (v:Value) (us:List Value) (Q:VK),Inv X pins σ H s->zJ x v->qO xs us->r x xs H Q ->
  wpAny (model X.prog X.w) X.A (call (.builtin id) (v::us)) (EP X pins σ Q) X.xe s
section
variable{X:Cx}{a b:Expr}{ta tb:TE}{pos:Pos}
theorem IxR.or {r r':R2} (h:IxR X r) (h':IxR X r'):IxR X (λx y H Q=>r x y H Q\/r' x y H Q):=by
 intro value slice pins s σ H x y v u Q I rx ry q hs
 rcases q with q|q
 ·exact h value slice pins s σ H x y v u Q I rx ry q hs
 ·exact h' value slice pins s σ H x y v u Q I rx ry q hs
theorem MtR.or {id:String} {r r':V->List V->Hp->VK->Prop} (h:MtR X id r) (h':MtR X id r'):MtR X id (λx xs H Q=>r x xs H Q\/r' x xs H Q):=by
 intro pins s σ H x xs v us Q I rx rs q
 rcases q with q|q
 ·exact h pins s σ H x xs v us Q I rx rs q
 ·exact h' pins s σ H x xs v us Q I rx rs q
theorem qjN {r:R2} (hr:IxR X r) (ha:PE X a ta) (hb:PE X b tb) (hs:qbL b):PE X (.Subscript a b pos) (tOp r ta tb):=by
 intro pins s σ H Q I h
 exact Subscript_ (qlw ha hb I h λv u s2 x y H2 I2 rx ry q=>hr a b pins s2 σ H2 x y v u Q I2 rx ry q (hs _ _))
def qlF(K:yah):R2:=λx y H Q=>∃p xs i v,x=.ref p/\y=.int i/\SqL K H p xs/\atI xs i=some v/\Q v H
def qlG(K:yah):R2:=λx y H Q=>∃p xs i v,x=.ref p/\y=.int i/\SqT K H p xs/\atI xs i=some v/\Q v H
theorem qdZ:IxR X (qlF X.K):=by
 intro value slice pins s σ H x y v u Q I rx ry h hs
 obtain⟨p,xs,i,z,rfl,rfl,hq,he,q⟩:=h
 cases rx
 obtain⟨t,rfl⟩:=ry
 obtain⟨its,r,pl,hz⟩:=I.list hq
 obtain⟨j,h1,h2,h3,h4,h5⟩:=qdY he
 obtain⟨w,ew,rw'⟩:=r.get h2
 have hl:=r.length
 have hn:=qaP
 have fin:EP X pins σ Q w s:=⟨z,H,I,rw',q⟩
 by_cases h0:0<=i
 ·have hj:i.toNat=j:=by
   rw[yfW h0 h5]at h1
   exact yaJ h1
  exact item_listR pl.isList h0 (by omega) (by rw[hj];simpa using ew) fin hs
 ·have hj:(i+(its.toArray.size:Int)).toNat=j:=by
   rw[yfh (by omega) h4]at h1
   rw[sT_,<-hl]
   exact yaJ h1
  exact yer (x:=w) pl.isList.typeIs slot_list_getitem.lookup
   (wpAny_getItem_list_neg (Q:=λr s'=>r=w/\EP X pins σ Q r s') pl.isList (by omega) (by rw[sT_]<;>omega) (by omega) (by rw[hj];simpa using ew) ⟨rfl,fin⟩) hs
theorem qjO:IxR X (qlG X.K):=by
 intro value slice pins s σ H x y v u Q I rx ry h hs
 obtain⟨p,xs,i,z,rfl,rfl,hq,he,q⟩:=h
 cases rx
 obtain⟨t,rfl⟩:=ry
 obtain⟨its,r,pl,hz⟩:=I.tuple hq
 obtain⟨j,h1,h2,h3,h4,h5⟩:=qdY he
 obtain⟨w,ew,rw'⟩:=r.get h2
 have hl:=r.length
 have hn:=qaP
 have fin:EP X pins σ Q w s:=⟨z,H,I,rw',q⟩
 exact yer (x:=w) pl.typeIs slot_tuple_getitem.lookup
  (getItem_tuple (j:=j) (Q:=λr s'=>r=w/\EP X pins σ Q r s') pl (by omega) (by omega) (by rw[sT_,<-hl];exact h1) (by simpa using ew) ⟨rfl,fin⟩) hs
theorem qdb (its:List Value) (n j:Nat) (u:Value):yaz (·.setIfInBounds j u) {cls:=.type "list",data:=.seq its.toArray n}={cls:=.type "list",data:=.seq (its.set j u).toArray n}:=by
 simp[yaz]
theorem Inv.lst {pins:List (Addr×Obj)} {σ:St} {H:Hp} {s:yab} {p:Addr} {xs:List V} (I:Inv X pins σ H s) (h:H p=some (.lst xs)) :
  ∃(its:List Value)(n:Nat),qO xs its/\s.heap.get? p=some {cls:=.type "list",data:=.seq its.toArray n}/\xs.length<=yas:=by
 obtain⟨z,its,n,r,e⟩:=I.hok p _ h
 exact⟨its,n,r,e,z⟩
theorem Inv.lstUpd {pins:List (Addr×Obj)} {σ:St} {H:Hp} {s:yab} {p:Addr} {xs ys:List V} {its its':List Value} {n n':Nat} {f:Obj->Obj} (I:Inv X pins σ H s) (h:H p=some (.lst xs))
  (ho:s.heap.get? p=some {cls:=.type "list",data:=.seq its.toArray n}) (hf:f {cls:=.type "list",data:=.seq its.toArray n}={cls:=.type "list",data:=.seq its'.toArray n' }) (r:qO ys its') (hz:ys.length<=yas) (t:Nat) :
  Inv X pins σ (upd H p (.lst ys)) {s with heap:=s.heap.update p f,toks:=t}:=by
 have e:(s.heap.update p f).get? p=some {cls:=.type "list",data:=.seq its'.toArray n' }:=by
  rw[Heap.get?_update_self f ho (by rw[hf]<;>rfl),hf]
 refine I.write (x:=p) (e:=p) (by rw[h];trivial) (.inl rfl) (λb u hb q=>(Heap.get?_update_other _ _ (yaZ hb)).trans q) ⟨_,e⟩ ?_
 exact⟨hz,its',n',r,e⟩
def qlH:V->V->V->Hp->(Hp->Prop)->Prop:=λo i v H Q=>∃p xs k j,o=.ref p/\i=.int k/\H p=some (.lst xs)/\ixN xs.length k=some j/\Q (upd H p (.lst (xs.set j v)))
theorem qfz:qmr X qlH:=by
 intro pins s σ H o i v ov iv u Q I ro ri rv h
 obtain⟨p,xs,k,j,rfl,rfl,hp,hj,q⟩:=h
 cases ro
 obtain⟨t,rfl⟩:=ri
 obtain⟨its,n,r,ho,hz⟩:=I.lst hp
 obtain⟨h1,h2,h3,h4⟩:=qdX hj
 have hl:=r.length
 have hn:=qaP
 have I':Inv X pins σ (upd H p (.lst (xs.set j v))) {s with heap:=s.heap.update p (yaz (·.setIfInBounds j u))} :=
  I.lstUpd hp ho (qdb its n j u) (r.set rv j) (by rw[lS_];exact hz) s.toks
 by_cases h0:0<=k
 ·have hk:k.toNat=j:=by
   rw[yfW h0 h4]at h1
   exact yaJ h1
  exact PySem.W.ki_setAt ho h0 (by omega) (by rw[sT_,<-hl];exact h4) (by rw[hk];exact⟨_,I',q⟩)
 ·have hk:(k+(its.toArray.size:Int)).toNat=j:=by
   rw[yfh (by omega) h3]at h1
   rw[sT_,<-hl]
   exact yaJ h1
  exact PySem.W.ki_setBack ho (by omega) (by rw[sT_,<-hl];exact h3) (by omega) (by rw[hk];exact⟨_,I',q⟩)
theorem qaT (lo hi:Option Int) (n:Nat):(yco lo hi none n).1=((HT.sIx n 0 lo:Nat):Int)/\(yco lo hi none n).2.1=((HT.sIx n n hi:Nat):Int)/\(yco lo hi none n).2.2=1:=by
 refine⟨?_,?_,rfl⟩
 ·cases lo with
  |none=>simp[yco,HT.sIx]
  |some i=>
   simp only[yco,HT.sIx,Option.getD_none,show(1:Int)>0 by decide,if_true]
   by_cases h:i<0
   ·simp only[h,if_true]<;>omega
   ·simp only[h,if_false]<;>omega
 ·cases hi with
  |none=>simp[yco,HT.sIx]
  |some i=>
   simp only[yco,HT.sIx,Option.getD_none,show(1:Int)>0 by decide,if_true]
   by_cases h:i<0
   ·simp only[h,if_true]<;>omega
   ·simp only[h,if_false]<;>omega
theorem wT (its:List Value) (lo hi:Option Int):slicePick its.toArray lo hi none=((its.drop (HT.sIx its.length 0 lo)).take (HT.sIx its.length its.length hi-HT.sIx its.length 0 lo)).toArray:=by
 obtain⟨h1,h2,h3⟩:=qaT lo hi its.toArray.size
 unfold slicePick
 rw[h1,h2,h3]
 simp only[sliceRange_one,pick_run,sT_]<;>rfl
def qnm(K:yah):V->Option Int->Option Int->Hp->VK->Prop:=λx lo hi H Q=>∃a xs,x=.ref a/\SqL K H a xs/\∀p,H p=none->Q (.ref p) (upd H p (.lst (qlc xs lo hi)))
theorem qlI:SlR X (qnm X.K):=by
 intro pins s σ H x v vl vu lo hi sl Q I rx hs pl pu h
 obtain⟨a,xs,rfl,hx,q⟩:=h
 cases rx
 obtain⟨its,r,ht,hz⟩:=I.list hx
 have hlen:=r.length
 refine⟨"list",_,slot_list_getitem.lookup,ht.isList.typeIs,?_⟩
 refine wpAny_getItem_list_slice ht.isList hs pl pu .none (by simp) ?_ (by rw[sT_]<;>omega)
 rw[wT,<-hlen]
 refine⟨.ref s.heap.objs.size,_,I.laid (t':=s.toks) (o:=.lst (qlc xs lo hi)) (λb ob q=>Heap.get?_push_of_some _ q) (yag _) ?_,rfl,q _ (I.hok.fresh (yag _))⟩
 exact⟨yaF (qbK xs lo hi) hz,_,0,(r.drop (HT.sIx xs.length 0 lo)).take (HT.sIx xs.length xs.length hi-HT.sIx xs.length 0 lo),Heap.get?_push_size _ rfl⟩
def uX:V->Bool
 |.non=>true
 |.bl _=>true
 |.int _=>true
 |.str _=>true
 |_=>false
def eqV:V->V->Bool
 |.non,.non=>true
 |.bl a,.bl b=>a==b
 |.bl a,.int b=>(if a then 1 else 0)==b
 |.int a,.bl b=>a==(if b then 1 else 0)
 |.int a,.int b=>a==b
 |.str a,.str b=>a==b
 |_,_=>false
theorem qjP {A:yam} {s:yab} {y x:V} {u v:Value} (ry:zJ y u) (rx:zJ x v) (fy:uX y=true) (fx:uX x=true):yf7 A s u v (eqV y x):=by
 cases y with
 |non=>
  cases ry
  cases x with
  |non=>cases rx;exact SeqAt.EqAt.same _
  |bl b=>cases rx;exact SeqAt.EqAt.none_bool b
  |int b=>obtain⟨t,rfl⟩:=rx;exact SeqAt.EqAt.none_int b t
  |str b=>obtain⟨t,rfl⟩:=rx;exact SeqAt.EqAt.none_str b t
  |_=>exact absurd (show false=true from fx) yal
 |bl a=>
  cases ry
  cases x with
  |non=>cases rx;exact SeqAt.EqAt.bool_none a
  |bl b=>cases rx;exact SeqAt.EqAt.bool_bool a b
  |int b=>obtain⟨t,rfl⟩:=rx;exact SeqAt.EqAt.bool_int a b t
  |str b=>obtain⟨t,rfl⟩:=rx;exact SeqAt.EqAt.bool_str a b t
  |_=>exact absurd (show false=true from fx) yal
 |int a=>
  obtain⟨t',rfl⟩:=ry
  cases x with
  |non=>cases rx;exact SeqAt.EqAt.int_none a t'
  |bl b=>cases rx;exact SeqAt.EqAt.int_bool a t' b
  |int b=>obtain⟨t,rfl⟩:=rx;exact yfe a t' b t
  |str b=>obtain⟨t,rfl⟩:=rx;exact ye5 a t' b t
  |_=>exact absurd (show false=true from fx) yal
 |str a=>
  obtain⟨t',rfl⟩:=ry
  cases x with
  |non=>cases rx;exact SeqAt.EqAt.str_none a t'
  |bl b=>cases rx;exact SeqAt.EqAt.str_bool a t' b
  |int b=>obtain⟨t,rfl⟩:=rx;exact ye6 a t' b t
  |str b=>obtain⟨t,rfl⟩:=rx;exact SeqAt.EqAt.str_str a t' b t
  |_=>exact absurd (show false=true from fx) yal
 |_=>exact absurd (show false=true from fy) yal
def eqU (x:V) (u:Value):Bool:=match u with
 |.none=>eqV .non x
 |.bool b=>eqV (.bl b) x
 |.int i _=>eqV (.int i) x
 |.str z _=>eqV (.str z) x
 |_=>false
theorem qgH {x y:V} {u:Value} (r:zJ y u) (f:uX y=true):eqU x u=eqV y x:=by
 cases y with
 |non=>cases r;rfl
 |bl b=>cases r;rfl
 |int i=>obtain⟨t,rfl⟩:=r;rfl
 |str z=>obtain⟨t,rfl⟩:=r;rfl
 |_=>exact absurd (show false=true from f) yal
theorem qbM {x:V}:∀{xs:List V}{us:List Value},qO xs us->xs.all uX=true->us.any (eqU x)=xs.any λy=>eqV y x
 |_,_,.nil,_=>rfl
 |y::xs,u::us,.cons r t,f=>by
  rw[ydC,yan]at f
  rw[ydD,ydD,qgH r f.1,qbM t f.2]
theorem wU {A:yam} {s:yab} {x:V} {v:Value} (rx:zJ x v) (fx:uX x=true):∀{xs:List V}{us:List Value},qO xs us->xs.all uX=true->∀u∈us,yf7 A s u v (eqU x u)
 |_,_,.nil,_=>λu hu=>by cases hu
 |y::xs,u::us,.cons r t,f=>λu' hu=>by
  rw[ydC,yan]at f
  rcases List.mem_cons.mp hu with rfl|hu
  ·rw[qgH r f.1];exact qjP r rx f.1 fx
  ·exact wU rx fx t f.2 u' hu
def inV(x:V)(xs:List V):Bool:=xs.any λy=>eqV y x
def rIn(K:yah)(neg:Bool):R2:=λx y H Q=>∃p xs,y=.ref p/\(SqL K H p xs\/SqT K H p xs)/\uX x=true/\xs.all uX=true/\Q (.bl (if neg then !inV x xs else inV x xs)) H
theorem qd0:OpR X (yaS .In) (rIn X.K false):=by
 intro pins s σ H x y v u Q I rx ry h
 obtain⟨p,xs,rfl,hq,fx,fs,q⟩:=h
 cases ry
 rcases hq with hq|hq
 ·obtain⟨its,r,pl,hz⟩:=I.list hq
  refine SeqAt.in_listAt (eqU x) pl.isList (λw hw=>wU rx fx r fs w (by simpa using hw)) ⟨.bl _,H,I,rfl,?_⟩
  rw[show its.toArray.any (eqU x)=its.any (eqU x) by simp,qbM r fs]
  exact q
 ·obtain⟨its,r,pl,hz⟩:=I.tuple hq
  refine SeqAt.in_tupleAt (eqU x) pl (λw hw=>wU rx fx r fs w (by simpa using hw)) ⟨.bl _,H,I,rfl,?_⟩
  rw[show its.toArray.any (eqU x)=its.any (eqU x) by simp,qbM r fs]
  exact q
theorem qaU:j8 X (.builtin "len") (λxs H Q=>∃p ys,xs=[.ref p]/\(SqL X.K H p ys\/SqT X.K H p ys)/\Q (.int ys.length) H):=by
 intro pins s σ H xs us Q I r h
 obtain⟨p,ys,rfl,hq,q⟩:=h
 obtain⟨u,rfl,rx⟩:=qhE r
 cases rx
 have hn:=qaP
 rcases hq with hq|hq
 ·obtain⟨its,r',pl,hz⟩:=I.list hq
  have hlen:=r'.length
  exact Calls.call_len_list pl.isList (by simp only[sT_]<;>omega) ⟨.int ys.length,H,I.tok _,⟨s.toks+1,by rw[sT_,hlen]⟩,q⟩
 ·obtain⟨its,r',pl,hz⟩:=I.tuple hq
  have hlen:=r'.length
  exact len_tuple pl (by simp only[sT_]<;>omega) ⟨.int ys.length,H,I.tok _,⟨s.toks+1,by rw[sT_,hlen]⟩,q⟩
theorem qaV:j8 X (.builtin "len") (λxs H Q=>∃z,xs=[.str z]/\z.length<=yas/\Q (.int z.length) H):=by
 intro pins s σ H xs us Q I r h
 obtain⟨z,rfl,hz,q⟩:=h
 obtain⟨u,rfl,t,rfl⟩:=qhE r
 have hn:=qaP
 exact len_str (by omega) ⟨.int z.length,H,I.tok _,⟨_,rfl⟩,q⟩
theorem j8.or {f:Value} {r r':List V->Hp->VK->Prop} (h:j8 X f r) (h':j8 X f r'):j8 X f (λxs H Q=>r xs H Q\/r' xs H Q):=by
 intro pins s σ H xs us Q I rs q
 rcases q with q|q
 ·exact h pins s σ H xs us Q I rs q
 ·exact h' pins s σ H xs us Q I rs q
theorem wV:j8 X (.type "tuple") (λxs H Q=>∃p ys,xs=[.ref p]/\((SqL X.K H p ys/\∀l,H l=none->Q (.ref l) (upd H l (.tup ys)))\/(SqT X.K H p ys/\Q (.ref p) H))):=by
 intro pins s σ H xs us Q I r h
 obtain⟨p,ys,rfl,h⟩:=h
 obtain⟨u,rfl,rx⟩:=qhE r
 cases rx
 rcases h with⟨hq,q⟩|⟨hq,q⟩
 ·obtain ⟨its,r',pl,hz⟩:=I.list hq
  have hlen:=r'.length
  refine call_tuple_list pl.isList (λh' kp=>?_) (by simp only[sT_]<;>omega)
  have I1:Inv X pins σ H {s with heap:=h' }:=I.kept (t':=s.toks) kp
  have I2:Inv X pins σ (upd H h'.objs.size (.tup ys)) {s with heap:=h'.push {cls:=.type "tuple",data:=.seq its.toArray} } :=
   I1.laid (t':=s.toks) (λb o e=>Heap.get?_push_of_some _ e) (yag _) (show jj X.prog X.w _ _ _ (.tup ys) from⟨hz,its,r',ye7 _ _⟩)
  exact⟨.ref h'.objs.size,_,I2,rfl,q _ (I1.hok.fresh (yag _))⟩
 ·obtain⟨its,r',pl,hz⟩:=I.tuple hq
  exact call_tuple_same pl ⟨.ref p,H,I,rfl,q⟩
def tyV (K:yah) (T:String) (x:V) (H:Hp):Prop:=match x with
 |.str _=>T="str"
 |.int _=>T="int"
 | .ref p=>(T="list"/\∃xs,SqL K H p xs)\/(T="tuple"/\∃o,K.lookup p=some o/\o.cls=.type "tuple"/\o.dict=none) \/
   (T="dict"/\((∃kvs,H p=some (.dK kvs))\/∃kvs,H p=some (.dT kvs)))\/(T="set"/\∃S n,H p=some (.set S n))
 |_=>False
theorem qjQ {pins:List (Addr×Obj)} {σ:St} {H:Hp} {s:yab} {T:String} {x:V} {v:Value} (I:Inv X pins σ H s) (r:zJ x v) (ty:tyV X.K T x H) :
  s.TypeIs v T/\∀a,v=.ref a->∃ob,s.heap.get? a=some ob/\ob.dict=none:=by
 cases x with
 |str z=>
  obtain⟨t,rfl⟩:=r
  cases (show T="str" from ty)
  exact⟨typeIs_str s z t,λ_ e=>nomatch e⟩
 |int i=>
  obtain⟨t,rfl⟩:=r
  cases (show T="int" from ty)
  exact⟨ydT s i t,λ_ e=>nomatch e⟩
 | ref p=>
  cases r
  rcases ty with⟨rfl,xs,hq⟩|⟨rfl,o,hk,hc,hd⟩|⟨rfl,hk⟩|⟨rfl,S,n,hk⟩
  ·obtain⟨its,_,pl,_⟩:=I.list hq
   refine⟨pl.isList.typeIs,λa e=>?_⟩
   cases e
   obtain⟨o,n,e,c,hd,_⟩:=pl
   exact⟨o,e,hd⟩
  ·refine⟨⟨o,I.kIn p o hk,hc⟩,λa e=>?_⟩
   cases e
   exact⟨o,I.kIn _ o hk,hd⟩
  ·have z:∃o,s.heap.get? p=some o/\o.ExactDict:=by
    rcases hk with⟨kvs,hk⟩|⟨kvs,hk⟩
    ·obtain⟨_,_,_,_,o,_,_,e,ex,_⟩:=I.hok p _ hk
     exact⟨o,e,ex⟩
    ·obtain⟨_,_,_,_,o,_,_,e,ex,_⟩:=I.hok p _ hk
     exact⟨o,e,ex⟩
   obtain⟨o,e,ex⟩:=z
   refine⟨⟨o,e,ex.1⟩,λa e2=>?_⟩
   cases e2
   exact⟨o,e,ex.2.1⟩
  ·obtain⟨o,_,_,_,e,ex,_⟩:=I.hok p _ hk
   refine⟨⟨o,e,ex.1⟩,λa e2=>?_⟩
   cases e2
   exact⟨o,e,ex.2.1⟩
 |_=>exact yaW ty
def tBM(K:yah)(T:String)(r:V->List V->Hp->VK->Prop)(to:TE)(t:TA):TE:=λσ H Q=>to σ H λx H1=>tyV K T x H1/\t σ H1 λxs H2=>r x xs H2 Q
variable{o e:Expr}{es:List Expr}{to:TE}{t:TA}{name:Str}{apos cpos:Pos}{T id:String}{r:V->List V->Hp->VK->Prop}
theorem qlJ (pa:PlainAttrs T) (slot:Slot T name id) (hty:typeOf (.builtin id)=pure (.type "method_descriptor")) (hm:MtR X id r) (ho:PE X o to) (ha:PA X (e::es) t)
  (hbase:ydE o name X.env (eval o X.env)=eval o X.env:=by rfl)
  (hfew:((yaI cpos (yad (e::es) X.env)).all (λx => !x.1)&&(yfZ cpos (yes [] X.env)).all (λx=>x.1.isSome)
   && decide ((e::es).length+([]:List ycY).length+(if([]:List ycY).isEmpty then 0 else 1)<30))=true:=by rfl)
  (hline:(apos.endLine==cpos.line)=true:=by rfl) (hs:yad (e::es) X.env=(false,eval e X.env)::yad es X.env:=by rfl) (hplain:(yaI cpos (yad es X.env)).any (·.1)=false:=by rfl) :
  PE X (.Call (.Attribute o name apos) (e::es) [] cpos) (tBM X.K T r to t):=by
 intro pins s σ H Q I h
 refine wpAny_Call_method_late hbase hfew hline rfl (thn (ho pins s σ H _ I h) λv s1 ⟨x,H1,I1,r1,ty,q1⟩=>?_)
 obtain⟨h1,h2⟩:=qjQ I1 r1 ty
 refine⟨T,id,pa,slot,hty,h1,h2,?_⟩
 have hA:=ha cpos pins s1 σ H1 _ I1 q1
 rw[hs]at hA |-
 refine Calls.callWith_builtin (by show(false||(yaI cpos (yad es X.env)).any (·.1))=false;rw[hplain]<;>rfl) (yeP ?_)
 exact thn hA λus s2 ⟨vs,H2,I2,r2,q2⟩=>hm pins s2 σ H2 x vs v us Q I2 r1 r2 q2
/- xs.append(e),list.index on a module's tuple .. are MtR facts of 06m -/
end
end L2
namespace L2
open PySem PySem.Spec PyProof.Rows
def MtM (X:Cx) (id:String) (r:V->List V->Hp->VK->Prop):Prop :=
 ∀ (pins:List (Addr×Obj)) (s:yab) (σ:St) (H:Hp) (x:V) (xs:List V) (v:Value) (us:List Value) (Q:VK),Inv X pins σ H s->zJ x v->qO xs us->r x xs H Q ->
  wpAny (model X.prog X.w) X.A (call (.builtin id) (v::us)) (EP X pins σ Q) X.xe s
theorem qO.one:∀{x:V}{us:List Value},qO [x] us->∃u,us=[u]/\zJ x u
 |_,_,.cons r .nil=>⟨_,rfl,r⟩
theorem qO.two:∀{x y:V}{us:List Value},qO [x,y] us->∃u v,us=[u,v]/\zJ x u/\zJ y v
 |_,_,_,.cons r (.cons q .nil)=>⟨_,_,rfl,r,q⟩
theorem qO.eraseIdx:∀{xs:List V}{us:List Value}(i:Nat),qO xs us->qO (xs.eraseIdx i) (us.eraseIdx i)
 |_,_,_,.nil => .nil
 |_,_,0,.cons _ t=>t
 |_,_,i+1,.cons r t => .cons r (qO.eraseIdx i t)
theorem qO.reverse {xs:List V} {us:List Value} (h:qO xs us):qO xs.reverse us.reverse:=by
 induction h with
 |nil=>exact .nil
 |cons r t ih=>rw[ycF,ycF];exact qO.append ih (.cons r .nil)
theorem qO.rep {xs:List V} {us:List Value} (h:qO xs us):∀k:Nat,qO (yak k xs).flatten (yak k us).flatten
 |0 => .nil
 |k+1=>by
  rw[rS_,rS_,ybA,ybA]
  exact qO.append h (qO.rep h k)
theorem vh (its:List Value):∀(k:Nat)(acc:List Value),
  yeQ (λx1 x2=>x1++x2) acc.toArray (yak k its.toArray)=(acc++(yak k its).flatten).toArray
 |0,acc=>by simp
 | k+1,acc=>by
  have e:acc.toArray++its.toArray=(acc++its).toArray:=by simp
  have e2:(acc++its)++(yak k its).flatten=acc++(yak (k+1) its).flatten:=by
   rw[rS_,ybA,aA_]
  rw[<-e2,<-vh its k (acc++its),<-e,rS_,fo_]
section
variable{X:Cx}{pins:List (Addr×Obj)}{σ:St}{H:Hp}{s:yab}{l b:Addr}{xs ys zs:List V}
theorem Inv.lset {its its':List Value} {n:Nat} {f:Array Value->Array Value} {t':Nat} (I:Inv X pins σ H s) (hH:H l=some (.lst xs))
  (e:s.heap.get? l=some {cls:=.type "list",data:=.seq its.toArray n}) (hf:f its.toArray=its'.toArray) (hv:qO ys its') (hz:ys.length<=yas) :
  Inv X pins σ (upd H l (.lst ys)) {s with heap:=s.heap.update l (yaz f),toks:=t' }:=by
 have q:=PySem.IsL.update e f
 rw[hf]at q
 refine I.write (x:=l) (e:=l) (by rw[hH];exact trivial) (.inl rfl) (λb' u hb hu=>(Heap.get?_update_other s.heap (yaz f) (yaZ hb)).trans hu) ⟨_,q⟩ ?_
 exact⟨hz,its',_,hv,q⟩
theorem Inv.lnew {its:List Value} {t':Nat} (I:Inv X pins σ H s) (hv:qO ys its) (hz:ys.length<=yas) :
  Inv X pins σ (upd H s.heap.objs.size (.lst ys)) {s with heap:=s.heap.push {cls:=.type "list",data:=.seq its.toArray},toks:=t' } :=
 I.laid (λ_ _ q=>Heap.get?_push_of_some _ q) (yag _) ⟨hz,its,0,hv,Heap.get?_push_size _ rfl⟩
theorem Inv.fresh(I:Inv X pins σ H s):H s.heap.objs.size=none:=I.hok.fresh (yag _)
theorem Inv.lstM (I:Inv X pins σ H s) (hH:H l=some (.lst xs)):xs.length<=yas/\∃(its:List Value)(n:Nat),qO xs its/\xs.length=its.length/\s.heap.get? l=some {cls:=.type "list",data:=.seq its.toArray n}:=by
 obtain⟨z,its,n,r,e⟩:=I.hok l _ hH
 exact⟨z,its,n,r,r.length,e⟩
theorem qcj {n:Nat} (h:n<=yas):ybS n=false:=by
 unfold ybS
 exact decide_eq_false (by omega)
end
section
variable{X:Cx}
def qhI:V->List V->Hp->VK->Prop:=λx vs H Q=>∃l xs y,x=.ref l/\vs=[y]/\H l=some (.lst xs)/\xs.length<yas/\Q .non (upd H l (.lst (xs++[y])))
theorem vi:MtM X "list.append" qhI:=by
 intro pins s σ H x vs v us Q I rx rv h
 obtain⟨l,xs,y,rfl,rfl,hH,hz,q⟩:=h
 cases rx
 obtain⟨u,rfl,ru⟩:=rv.one
 obtain⟨z,its,n,r,hl,e⟩:=I.lstM hH
 refine yc6 F.slot_list_append ⟨_,e,rfl⟩ F.entry_list_append (F.args_list_append_2 _ _) (PySem.list_append l its.toArray n u (by rw[sT_];omega)) ⟨e,?_⟩
 refine⟨.non,_,I.lset (its':=its++[u]) hH e (by simp) (r.append (.cons ru .nil)) ?_,rfl,q⟩
 rw[lA_,ybh]
 omega
def qhJ:V->List V->Hp->VK->Prop:=λx vs H Q=>∃l b xs zs,x=.ref l/\vs=[.ref b]/\H l=some (.lst xs)/\H b=some (.lst zs)/\xs.length+zs.length<=yas/\Q .non (upd H l (.lst (xs++zs)))
theorem qjR:MtM X "list.extend" qhJ:=by
 intro pins s σ H x vs v us Q I rx rv h
 obtain⟨l,b,xs,zs,rfl,rfl,hH,hB,hz,q⟩:=h
 cases rx
 obtain⟨u,rfl,ru⟩:=rv.one
 cases ru
 obtain⟨z,its,n,r,hl,e⟩:=I.lstM hH
 obtain⟨z2,its2,n2,r2,hl2,e2⟩:=I.lstM hB
 have hsz:its.toArray.size+its2.toArray.size<=yas:=by rw[sT_,sT_];omega
 have hlong:¬(!its.toArray.isEmpty&&ybS (its.toArray.size+its2.toArray.size))=true:=by
  rw[qcj hsz,Bool.and_false]
  exact yal
 refine yc6 F.slot_list_extend ⟨_,e,rfl⟩ F.entry_list_extend (F.args_list_extend_2 _ _)
  (AutoSeq1.list_extend_list_list_0 l its.toArray n b its2.toArray n2 hlong (by rw[sT_];omega) (by omega)) ⟨e,e2,?_⟩
 refine⟨.non,_,I.lset (its':=its++its2) hH e (by simp) (r.append r2) ?_,rfl,q⟩
 rw[lA_]
 omega
def qmw:R2:=λx y H Q=>∃l b xs zs,x=.ref l/\y=.ref b/\H l=some (.lst xs)/\H b=some (.lst zs)/\xs.length+zs.length<=yas/\∀p,H p=none->Q (.ref p) (upd H p (.lst (xs++zs)))
theorem qjS:OpR X (ybq .Add) qmw:=by
 intro pins s σ H x y v u Q I rx ry h
 obtain⟨l,b,xs,zs,rfl,rfl,hH,hB,hz,q⟩:=h
 cases rx
 cases ry
 obtain⟨z,its,n,r,hl,e⟩:=I.lstM hH
 obtain⟨z2,its2,n2,r2,hl2,e2⟩:=I.lstM hB
 refine PySem.P.add_list e e2 ?_ (by rw[sT_,sT_];omega)
 have ea:its.toArray++its2.toArray=(its++its2).toArray:=by simp
 rw[ea]
 exact⟨.ref _,_,I.lnew (t':=s.toks) (r.append r2) (by rw[lA_];omega),rfl,q _ I.fresh⟩
def qmx:R2:=λx y H Q=>∃l k xs,x=.ref l/\y=.int k/\H l=some (.lst xs) /\ -(2 ^ 63)<=k/\k<2 ^ 63/\xs.length*k.toNat<=yas /\
 ∀p,H p=none->Q (.ref p) (upd H p (.lst (yak k.toNat xs).flatten))
theorem qbN {α:Type} (xs:List α) (k:Nat):(yak k xs).flatten.length=k*xs.length:=by
 induction k with
 |zero=>simp
 |succ k ih=>rw[rS_,ybA,lA_,ih,yfi,Nat.add_comm]
theorem qjT:OpR X (ybq .Mult) qmx:=by
 intro pins s σ H x y v u Q I rx ry h
 obtain⟨l,k,xs,rfl,rfl,hH,h1,h2,hz,q⟩:=h
 cases rx
 obtain⟨t,rfl⟩:=ry
 obtain⟨z,its,n,r,hl,e⟩:=I.lstM hH
 have hlen:its.toArray.size*k.toNat<=yas:=by rw[sT_,<-hl];exact hz
 have hcap:¬its.toArray.size*k.toNat>(2 ^ 63-1)/8:=by
  have:(yas:Nat)<=(2 ^ 63-1)/8:=by decide
  omega
 have hfit:¬(!Builtin.List.listFitsIndex k)=true:=by
  rw[fitsIndex_both h1 h2]
  exact yal
 have hlong:¬ybS (its.toArray.size*k.toNat)=true:=by
  rw[qcj hlen]
  exact yal
 have hnew:yeQ (λx1 x2=>x1++x2) #[] (yak (if its.toArray.isEmpty=true then 0 else k.toNat) its.toArray)=(yak k.toNat its).flatten.toArray:=by
  have f0:∀m:Nat,yeQ (λx1 x2=>x1++x2) #[] (yak m its.toArray)=(yak m its).flatten.toArray:=λm=>by
   have:=vh its m []
   rw[ybf]at this
   exact this
  rw[f0]
  cases its with
  |nil=>simp
  |cons a r'=>rw[if_neg (by simp)]
 refine ydU (T:="list") (U:="int") (by decide) ⟨_,e,rfl⟩ (λs'=>ydT s' k t) noFill_list_mul F.fills_int_mul yc7 repeat_list F.slot_int_index.lookup
  (yc6 yc7 (ydT s k t) F.entry_int_rmul (yfI _ _) (int___rmul___int_list k t l its.toArray n)
   ⟨e,rfl,⟨_,e,rfl⟩,yc6 F.slot_list_mul ⟨_,e,rfl⟩ F.entry_list_mul (F.args_list_mul_2 _ _) (AutoListH.list___mul___list_int_3 l its.toArray n k t hfit hcap hlong) ⟨e,?_⟩⟩)
 rw[hnew]
 exact⟨.ref _,_,I.lnew (t':=s.toks) (r.rep k.toNat) (by rw[qbN,yfj];exact hz),rfl,q _ I.fresh⟩
end
section
variable{prog:yaj}{w:World}{A:yam}{E:Value->yab->Prop}{s:yab}
set_option maxRecDepth 100000 in
end
section
variable{X:Cx}
end
end L2
namespace Att
open PySem PySem.W PySem.Calls PyProof.Rows
theorem vj {P:Params} {h:Heap}:∀(ns:List Int)(vs:List Value),WellAll P h vs (ns.map WData.int)->ybF vs ns:=by
 intro ns
 induction ns with
 |nil=>
  intro vs w
  rw[ycv]at w
  cases w
  exact .nil
 | cons n ns ih=>
  intro vs w
  rw[mC_]at w
  cases w with
  |cons a b=>
   cases a
   exact .cons _ _ (ih _ b)
theorem qd1 {l:OpenLaw} {n:Nat} (hn:l.most=some n) {P:Params} {h:Heap} {args:List WData} {vals:List Value}
  (hpre:l.row.toRowW.claim.pre args=true) (hwl:WellAll P h vals args) :
  ∃a vs ns,vals=[yae a]/\args=[WData.list (ns.map WData.int)]/\h.get? a=some {cls:=.type "list",data:=.seq vs.toArray}/\ybF vs ns/\ns.length<=n:=by
 have hsh:WShape.hasAll [] args [.list .int]=true:=(pre_splitW hpre).1
 have hc:l.pre.holds [] {args:=args}=true:=(pre_splitW hpre).2
 obtain⟨d,r,rfl,h1,h2⟩:=hasAllW_cons hsh
 obtain rfl:=hasAllW_nil h2
 obtain⟨xs,rfl,h3⟩:=hasW_list h1
 obtain⟨ns,rfl⟩:=items_int h3
 have hlen:ns.length<=n:=by
  unfold OpenLaw.pre at hc
  have h4:(WTm.not (.lt (.lit (.int (n:Int))) (.len (.arg 0)))).holds [] {args:=[.list (ns.map .int)]}=true:=by
   have h4:=(holds_andW hc).1
   rw[hn]at h4
   exact h4
  have h5:=condW_of h4 (w_not (w_lt w_lit (w_len_list (w_arg rfl))))
  rw[lM_]at h5
  refine ych λq=>?_
  have q':(n:Int)<((ns.length:Nat):Int):=by omega
  first
   |(rw[decide_eq_true q']at h5;exact absurd h5 (by decide))
   |(simp at h5;omega)
 cases hwl with
 |cons w1 w2=>
  cases w2
  cases w1 with
  |list ho hall=>exact⟨_,_,ns,rfl,rfl,ho,vj ns _ hall,hlen⟩
theorem qd2 (l:OpenLaw) (args:List WData):l.row.toRowW.claim.post args (.bool true) args=true :=
 postW_of (r:=l.row.toRowW) (X:=(true==true))
  (show WShape.has [] (.bool true) .bool=true by first|rfl|decide|simp[WShape.has,WShape.arms,WShape.armsAll])
  (show(WTm.eq .res (.lit (.bool true))).value [] {args:=args,res:=some (.bool true),after:=args}=some (.bool (true==true))from w_eq_bool (w_res rfl) w_lit) rfl
theorem attach_call {l:OpenLaw} {n:Nat} {q:yaj} {loose:List Str} {XP:(Str->Option Value)->Heap->Prop} {YP:World->Heap->Prop} {d:DefRec}
  (hn:l.most=some n) (hdf:d.params.defaults=[])
  (call:∀(w:World)(s₀ sQ:yab)(mg mb:Str->Option Value)(fa:Addr)(o:Obj)(pm cd doc:Value)(a:Addr)(vs:List Value)(ns:List Int),
   Ground q loose [] XP w s₀ mg mb sQ.heap->YP w sQ.heap ->
   sQ.heap.get? fa=some o->o.data=.func (docDef d.name d.params d.body d.scope pm cd doc)->sQ.heap.CodeRec cd d.name->mg d.name=some (.ref fa) ->
   sQ.heap.get? a=some {cls:=.type "list",data:=.seq vs.toArray}->ybF vs ns->ns.length<=n->sQ.gens = #[] ->
   ybz (model l.prog w) ydZ (.call (.ref fa) ⟨[.ref a],[]⟩) (λr s'=>r=.ok (.ret (.bool true))/\OldK sQ.heap s'.heap/\s'.os=sQ.os/\ycn s'.gens) sQ) :
  WalkO q loose XP YP l.row.toRowW d [] (λf vs=>yf9 f vs):=by
 intro w s₀ sQ mg mb G Y fa o pm cd doc dV kV ho hd hcd hD hmg hg args vals as hpre hlay hrd hwl hlo
 obtain rfl:dV=.none:=Dflts.none hD hdf
 obtain rfl:kV=.none:=Dflts.noKw hD
 obtain⟨a,vs,ns,rfl,rfl,hobj,hints,hlen⟩:=qd1 hn hpre hwl
 refine enter_call (yct (call w s₀ sQ mg mb fa o pm cd doc a vs ns G Y ho (fd_plain hd) hcd hmg hobj hints hlen hg) λr s' hq=>?_)
 obtain⟨rfl,h2,h3,h4⟩:=hq
 exact⟨.inl ⟨.bool true,.bool true,[],rfl,λ_=>rfl,.bool true,qd2 l _,λ_=>⟨List.Pairwise.nil,λ_ hm=>(nomatch hm)⟩⟩,h2,h3,h4⟩
section
variable{prog:yaj}{w:World}{A:yam}{E:Value->yab->Prop}{s:yab}{K:Frag}
end
end Att
namespace L2
open PySem PySem.Spec PyProof.Rows
theorem qaW:∀{vs:List Value}{ns:List Int},ybF vs ns->qO (ns.map V.int) vs
 |_,_,.nil => .nil
 |_,_,.cons n t h => .cons ⟨t,rfl⟩ (qaW h)
def qld(H:Hp):Prop:=∀b,H b=none\/(∃o xs,H b=some (.frz o (.lst xs)))\/∃pos q,H b=some (.lam pos q)
def qle:Option (Addr×Addr×Pos×Str)->Hp
 |some (_,Pt,pos,q)=>λb=>if b=Pt then some (.lam pos q)else none
 |none=>λ_=>none
theorem qfA {P:yaj} {w:World} {K:yah} {mg mb:Str->Option Value} {CX:CXT} {k:Nat} {fa a:Addr} {fd:yaL} {x:Str} {sp:Sp} {sQ:yab} {vs:List Value} {ns:List Int} {lm:Option (Addr×Addr×Pos×Str)}
  (KX:K.In sQ.heap) (hns:sQ.heap.Ns yai mg) (hb:sQ.heap.Ns ycz mb) (hbb:∀x:Str,x≠"__name__"->mb x=yaB x) (hlim:sQ.heap.NoLimit)
  (hbm:∃bm ob,mg "__builtins__"=some (.ref bm)/\bm≠ycz/\sQ.heap.get? bm=some ob/\ob.cls=.type "module"/\ob.dict=some ycz/\ob.data=.plain)
  (hlm:∀c Pt pos q,lm=some (c,Pt,pos,q)->yeD sQ.heap c Pt/\sQ.heap.get? Pt=some (yeE #[])/\K.lookup Pt=none)
  (hg:sQ.gens = #[])
  (ha:sQ.heap.get? a=some {cls:=.type "list",data:=.seq vs.toArray}) (hi:ybF vs ns) (hl:ns.length<=yas) (hr:yc k ydZ)
  (F:∀base:Heap,K.In base->base.Ns yai mg->uq P w K mg base CX k fa fd [x] sp) (hbind:∀(s:yab)(u:Value),ydY s fd ⟨[u],[]⟩ [(x,u)])
  (hsp:∀H:Hp,qld H->(∀c Pt pos q,lm=some (c,Pt,pos,q)->H Pt=some (.lam pos q))->SqL K H a (ns.map V.int)->sp [.ref a] H (λv _=>v=.bl true) λ_ _ _=>False)
  (hCX:∀H e s',CX [] H sQ (λ_ _ _=>False) e s'->False) :
  ybz (model P w) ydZ (.call (.ref fa) ⟨[.ref a],[]⟩) (λr s'=>r=.ok (.ret (.bool true))/\OldK sQ.heap s'.heap/\s'.os=sQ.os/\ycn s'.gens) sQ:=by
 have rv:=qaW hi
 have lenV:=hi.length
 have core:∀H:Hp,qld H->(∀c Pt pos q,lm=some (c,Pt,pos,q)->H Pt=some (.lam pos q))->SqL K H a (ns.map V.int)->HOk P w H sQ.heap ->
   (∀b u,H b=some u->K.lookup b=none/\((∃o xs,u=.frz o (.lst xs))\/∃c pos q,lm=some (c,b,pos,q)/\u=.lam pos q)) ->
   ybz (model P w) ydZ (.call (.ref fa) ⟨[.ref a],[]⟩) (λr s'=>r=.ok (.ret (.bool true))/\OldK sQ.heap s'.heap/\s'.os=sQ.os/\ycn s'.gens) sQ:=by
  intro H hO hT hS hok hA
  have base_of:∀{b:Addr}{o:Obj},sQ.heap.get? b=some o->H b=none->(qfn sQ.heap H).get? b=some o:=λe n=>qfo e n
  have noD:∀{b:Addr}{o:Obj},sQ.heap.get? b=some o->(∀its n,o.data ≠ .seq its n)->(∀f,o.data ≠ .fields f)->H b=none:=λ{b o} e d1 d2=>by
   cases q:H b with
   |none=>rfl
   | some u=>
    rcases(hA b u q).2 with⟨ob,xs,rfl⟩|⟨c,pos,q',hl2,rfl⟩
    ·obtain⟨e1,_,its,n,_,e2⟩:=hok b _ q
     rw[e]at e2;cases e2
     exact(d1 _ _ rfl).elim
    ·have e2:=(hlm _ _ _ _ hl2).2.1
     rw[e]at e2;cases e2
     exact(d2 _ rfl).elim
  have nsK:∀{b:Addr}{m:Str->Option Value},sQ.heap.Ns b m->(qfn sQ.heap H).Ns b m:=λ{b m} ⟨o,es,ep,e,d,r⟩=>⟨o,es,ep,base_of e (noD e (λ_ _ z=>by rw[d]at z;cases z) λ_ z=>by rw[d]at z;cases z),d,r⟩
  have hKb:K.In (qfn sQ.heap H):=λb o e=>base_of (KX b o e) (by
   cases q:H b with
   |none=>rfl
   |some u=>rw[(hA b u q).1]at e;cases e)
  have hM:Mod K mg (qfn sQ.heap H):=⟨hKb,nsK hns,⟨mb,nsK hb,hbb⟩,let ⟨mc,h1,h2⟩:=hlim;⟨mc,nsK h1,h2⟩,
   let ⟨bm,ob,b1,b2,b3,b4,b5,b6⟩:=hbm;⟨bm,ob,b1,b2,base_of b3 (noD b3 (λ_ _ z=>by rw[b6]at z;cases z) λ_ z=>by rw[b6]at z;cases z),b4,b5,b6⟩⟩
  have e0:qi4 P w K mg (qfn sQ.heap H) ydZ [] sQ H:=⟨rfl,hM,λb o e=>qhv e,Nat.le_of_eq (qdG _ _),trivial,λb hb=>absurd (show b∈([]:List Addr)from hb) (by simp),hok,.of_eq hg⟩
  refine yct ((F _ hKb (nsK hns)).run ydZ [] sQ H ⟨[.ref a],[]⟩ [.ref a] [.ref a] _ _ hr e0 (hbind sQ (.ref a)) (.cons rfl .nil) (hsp H hO hT hS)) λr s' h=>?_
  cases r with
  |error e=>exact(hCX H e s' h).elim
  | ok fl=>
   cases fl with
   |next=>exact yaW h
   |brk=>exact yaW h
   |cont=>exact yaW h
   | ret u=>
    obtain⟨v,H',os,bare,un,hok',r',q⟩:=h
    have q':v=.bl true:=q
    subst q'
    obtain rfl:u=ybb true:=r'
    have asIt:∀b o,sQ.heap.get? b=some o->asItWas sQ.heap s'.heap b o:=λb o e=>by
     cases q:H b with
     |none=>exact .inl (un.keep b o e q (by intro z;exact absurd (show b∈([]:List Addr)from z) (by simp)) (by simp))
     | some u=>
      rcases(hA b u q).2 with⟨ob,xs,rfl⟩|⟨c,pos,q2,hl2,rfl⟩
      ·have z2:=un.frzs b ob _ q
       obtain⟨e1,_⟩:=hok b _ q
       obtain⟨e2,_⟩:=hok' b _ z2
       rw[e]at e1;cases e1
       exact .inl e2
      ·obtain⟨hc,e2,_⟩:=hlm _ _ _ _ hl2
       rw[e]at e2;cases e2
       rcases hok' b _ (un.tbls b pos q2 q)with z|⟨c',oc,vs',t,_,_,_,z⟩
       ·exact .inl z
       ·exact .inr (.inl ⟨(hc.tab e).isCodeTable,rfl,#[],_,rfl,by rw[Array.empty_append];exact z⟩)
    exact⟨rfl,⟨asIt,λb o e=>un.there b o e (by simp)⟩,os,bare⟩
 let T:Hp:=qle lm
 have hTb:∀b u,T b=some u->∃c pos q,lm=some (c,b,pos,q)/\u=.lam pos q:=λb u z=>by
  cases hq:lm with
  |none=>simp only[T,hq,qle]at z;cases z
  | some p=>
   obtain⟨c,Pt,pos,q⟩:=p
   simp only[T,hq,qle]at z
   by_cases hbp:b=Pt
   ·rw[if_pos hbp]at z;cases z
    exact⟨c,pos,q,by rw[hbp],rfl⟩
   ·rw[if_neg hbp]at z;cases z
 have hTa:T a=none:=by
  cases q:T a with
  |none=>rfl
  |some u=>
   obtain⟨c,pos,q2,hl2,_⟩:=hTb a u q
   have:=(hlm _ _ _ _ hl2).2.1
   rw[ha]at this;cases this
 have hTt:∀c Pt pos q,lm=some (c,Pt,pos,q)->T Pt=some (.lam pos q):=λc Pt pos q e=>by
  simp only[T,e,qle,if_true]
 cases hk:K.lookup a with
 | some o=>
  have e:=KX a o hk
  rw[ha]at e
  cases e
  refine core T (λb=>?_) hTt (.inr ⟨_,vs.toArray,_,hk,rfl,rfl,rfl,by rw[sT_,lenV];exact hl,by simpa using rv⟩) (λb u z=>?_) (λb u z=>?_)
  ·cases q:T b with
   |none=>exact .inl rfl
   |some u=>obtain⟨_,pos,q2,_,rfl⟩:=hTb b u q;exact .inr (.inr ⟨pos,q2,rfl⟩)
  ·obtain⟨c,pos,q2,hl2,rfl⟩:=hTb b u z
   exact .inl (hlm _ _ _ _ hl2).2.1
  ·obtain⟨c,pos,q2,hl2,rfl⟩:=hTb b u z
   exact⟨(hlm _ _ _ _ hl2).2.2,.inr ⟨c,pos,q2,hl2,rfl⟩⟩
 | none=>
  refine core (upd T a (.frz {cls:=.type "list",data:=.seq vs.toArray} (.lst (ns.map V.int)))) (λb=>?_) (λc Pt pos q e=>?_) (.inl (.inr ⟨{cls:=.type "list",data:=.seq vs.toArray},qk⟩)) (λb u z=>?_) (λb u z=>?_)
  ·by_cases hb:b=a
   ·subst hb;exact .inr (.inl ⟨_,_,qk⟩)
   ·rw[qh hb]
    cases q:T b with
    |none=>exact .inl rfl
    |some u=>obtain⟨_,pos,q2,_,rfl⟩:=hTb b u q;exact .inr (.inr ⟨pos,q2,rfl⟩)
  ·have h1:=hTt c Pt pos q e
   rw[qh (qq h1 hTa)]
   exact h1
  ·by_cases hb:b=a
   ·subst hb
    rw[qk]at z;cases z
    exact⟨ha,by rw[lM_];exact hl,vs,_,rv,ha⟩
   ·rw[qh hb]at z
    obtain⟨c,pos,q2,hl2,rfl⟩:=hTb b u z
    exact .inl (hlm _ _ _ _ hl2).2.1
  ·by_cases hb:b=a
   ·subst hb
    rw[qk]at z;cases z
    exact⟨hk,.inl ⟨_,_,rfl⟩⟩
   ·rw[qh hb]at z
    obtain⟨c,pos,q2,hl2,rfl⟩:=hTb b u z
    exact⟨(hlm _ _ _ _ hl2).2.2,.inr ⟨c,pos,q2,hl2,rfl⟩⟩
end L2
namespace L2
open PySem PySem.Spec PyProof.Rows
end L2
/- THE LAST THEOREM (shape;LID,My.* are yours):
   My.Adr: a structure of the addresses that your layer names (classes,functions);My.Txt K t: a structure (Prop) of the equations over K;
   My.txt_mk:{K} {implicit addresses ..} (e1:nsIn K yai "law"=some (some (.ref f))) (e2:K.lookup f=some ⟨oc,od,.func (fnOf "law" "law" params body scope dV kV doc pm an cdv ct),sl⟩) (e3:codeIn K cdv "law"=true) .. : ∃t,My.Txt K t
set_option maxRecDepth 100000 in
set_option maxHeartbeats 0 in
theorem PySem.Challenge.cw_LID_holds : PySem.Challenge.rw_LID.Holds := by
 w_on;o_law;k_head;(case hw=>w_witness2)
 k_fill
 refine L2.walk_of (l:=PySem.Challenge.rw_LID) (n:=63) (k:=40) (x:="script") (CX:=λw => ..) (sp:=λ_=>My.sp_law) rfl (by decide) rfl ⟨rfl,by decide,by decide⟩ (λw h Y=>PySem.W.kIn_of Y) ?F ?S ?C
 case F=>
  intro w mg fa h KX G hmg
  have T:∃t,My.Txt (L2.KOf KX) t:=by
   dsimp only[L2.KOf]                          -- K must stand as «<heap const> w.params» for k_is
   refine' My.txt_mk ?e1 ?e2 ?e3 ..
   (case e1=>PySem.W.k_is)                    -- in the order: a name->its address->its object->its parts
   (case e2=>PySem.W.k_is)
   ..
  obtain⟨t,T⟩:=T
  have e0:=hmg.symm.trans (yay KX G T.law)
  cases e0                                       -- fa is the law's own address
  exact⟨_,λs u => .of_eq rfl,λbase kb nb=>My.law_fn T kb nb⟩     -- if «.of_eq rfl» comes too early: refine' ⟨_,?b,λbase kb nb=>My.law_fn T kb nb⟩;exact λs u => .of_eq rfl
 case S=>exact λw H a ns hl hO hS => ..
 case C=>exact ..
(the tactic k_is has no namespace: write k_is) -/
namespace L2
open PySem PySem.Spec PyProof.Rows
def qB (s:Stmt):yeh:=match s with
 |.FunctionDef _ a _ _ _ _ _ _ _ _=>a
 |_=>{posonlyargs:=[],args:=[],vararg:=none,kwonlyargs:=[],kw_defaults:=[],kwarg:=none,defaults:=[]}
def qt (s:Stmt):List Stmt:=match s with
 |.FunctionDef _ _ b _ _ _ _ _ _ _=>b
 |_=>[]
def qd (s:Stmt):Scope:=match s with
 |.FunctionDef _ _ _ _ _ _ sc _ _ _=>sc
 |_=>{kind:=.function,names:=[],isGenerator:=false,isCoroutine:=false}
abbrev CX0:CXT:=λ_ _ _ _ _ _=>False
abbrev E0:XK:=λ_ _ _=>False
theorem qhK{X:Cx}:vd CX0 X E0:=λ_ _ _ _ _ _ _ h=>h.elim
structure Fun (K:yah) (x qual:Str) (st:Stmt) (f:Addr) (fd:yaL):Prop where
 ex:∃(oc:Value)(od:Option Addr)(kV doc pm:Value)(an:Option Addr)(cdv ct:Value)(osl:Array (Option Value)),
  fd=yaw x qual (qB st) (qt st) (qd st) .none kV doc pm an cdv ct/\K.lookup f=some ⟨oc,od,.func fd,osl⟩/\yax K cdv qual=true
 kp:yaq K (.ref f)=true
section
variable{P:yaj}{w:World}{K:yah}{mg:Str->Option Value}{base:Heap}
theorem Fun.ok {x qual:Str} {st:Stmt} {f:Addr} {fd:yaL} {N ps:List Str} {k:Nat} {sp:Sp} (F:Fun K x qual st f fd) (S:qu N ps (qd st)) (len:∀vs H Q E,sp vs H Q E->vs.length=ps.length)
  (hbody:∀(cdv:Value)(A:yam)(outer:List Env)(s:yab)(H:Hp)(vs:List V)(Q:VK)(E:XK),yc k (A.deeper (ybd qual (qd st) s.heap.objs.size f cdv))->sp vs H Q E ->
   ∃t,PSs (qfg CX0 P w K mg base N qual (qd st) f cdv A outer s H E).nox (qt st) t/\t {nx:=λ_ H'=>Q .non H',rt:=Q} (zf N vs) H):uq P w K mg base CX0 (k+1) f fd ps sp:=by
 obtain⟨oc,od,kV,doc,pm,an,cdv,ct,osl,rfl,lk,hcd⟩:=F.ex
 refine qjL lk hcd S len λA outer s H vs Q E hr hsp=>?_
 obtain⟨t,h,q⟩:=hbody cdv A outer s H vs Q E hr hsp
 exact⟨t,h.nox,q⟩
theorem Fun.binds {x qual:Str} {st:Stmt} {f:Addr} {fd:yaL} {ps:List Str} (F:Fun K x qual st f fd)
  (h:∀(kV doc pm:Value)(an:Option Addr)(cdv ct:Value)(us:List Value),us.length=ps.length->bindArgs (yaw x qual (qB st) (qt st) (qd st) .none kV doc pm an cdv ct) ⟨us,[]⟩=pure (ps.zip us)):yt K fd ps []:=by
 obtain⟨oc,od,kV,doc,pm,an,cdv,ct,osl,rfl,lk,hcd⟩:=F.ex
 exact .all (h kV doc pm an cdv ct)
theorem zh {x qual:Str} {st:Stmt} {f:Addr} {oc:Value} {od an:Option Addr} {osl:Array (Option Value)} {kV doc pm cdv ct:Value} (l:K.lookup f=some ⟨oc,od,.func (yaw x qual (qB st) (qt st) (qd st) .none kV doc pm an cdv ct),osl⟩)
  (c:yax K cdv qual=true) (k:yaq K (.ref f)=true):Fun K x qual st f (yaw x qual (qB st) (qt st) (qd st) .none kV doc pm an cdv ct):=⟨⟨oc,od,kV,doc,pm,an,cdv,ct,osl,rfl,l,c⟩,k⟩
end
section
variable{X:Cx}
theorem pv (i:Nat) {x:Str} {pos:Pos} (hN:X.N[i]? = some x:=by rfl) (hv:Vis X.env.scope x:=by first|exact ybn rfl|exact yaY (ybn rfl)|exact yaY (yaY rfl)) (hd:(x==("__debug__":Str))=false:=by decide)
  (hcd:(x==("__classdict__":Str))=false:=by decide):PE X (.Name x pos) (qmp i):=y7 hN hv hd hcd
end
theorem qi5 {A B:Prop} (h:B):if false=true then A else B:=by
 rw[if_neg yal]
 exact h
theorem qi6 {A B:Prop} (h:A):if true=true then A else B:=by
 rw[if_pos rfl]
 exact h
def zK(H H':Hp):Prop:=∀b o,H b=some o->H' b=some o
theorem zK.refl(H:Hp):zK H H:=λ_ _ h=>h
theorem zK.trans{H H1 H2:Hp}(a:zK H H1)(b:zK H1 H2):zK H H2:=λc o h=>b c o (a c o h)
theorem zK.free {H H':Hp} (e:zK H H') {l:Addr} (h:H' l=Option.none):H l=Option.none:=by
 cases q:H l with
 |none=>rfl
 |some o=>
  rw[e l o q]at h
  cases h
end L2
namespace L2.Sk
open PySem PySem.Spec PyProof.Rows
inductive D where
 |non|bl (b:Bool)|int (i:Int)|str (x:Str)|tup (xs:List D)|lst (xs:List D)|dic (kvs:List (Key×Int))|fz (ns:List Int)
 |exc (n:Str)
abbrev Fr0:=yah
def qjU:FuncBody->Option Pos
 |.stmts [_,_,.Return (some (.Call _ _ [⟨_,.Lambda _ _ _ pos,_⟩] _)) _]=>some pos
 |_=>none
def lamOf (K:Fr0):Option (Addr×Addr×Pos):=match PySem.W.tabIn K "dearest_first",yao K yai "dearest_first" with
 |some (c,P),some (some (.ref f))=>(match K.lookup f with
  |some ⟨_,_,.func fd,_⟩=>(qjU fd.body).map λpos=>(c,P,pos)
  |_=>none)
 |_,_=>none
abbrev qlK:Str:="dearest_first.<locals>.<lambda>"
def qmy(K:Fr0)(H:Hp)(Io:Addr->Prop):Prop:=∀c P pos,lamOf K=some (c,P,pos)->H P=some (.lam pos qlK)/\¬Io P
abbrev wW(K:Fr0)(H:Hp):Prop:=qmy K H λ_=>False
theorem wW.same{K:Fr0}{H H':Hp}(h:wW K H)(s:zK H H'):wW K H':=λc P pos e=>⟨s _ _ (h c P pos e).1,λz=>z⟩
structure XK6 (K:Fr0) (D:Addr):Prop where
 ga:ybE K (.ref D) "__getattribute__"=some (some (.builtin "BaseException.__getattribute__"))
 gt:ybE K (.ref D) "__getattr__"=some none
 cl:ybE K (.ref D) "__class__"=some (some (.builtin "object.__class__"))
 ob:PySem.W.mroIn K D (.type "object")=some true
 be:PySem.W.subIn K (.ref D) (.type "BaseException")=some true
 is:(PySem.W.clsIn K D).isSome=true
 no:∀T∈["int","bool","str","tuple","list","dict"],yeB K (.ref D) (.type T)=some false
def yu (K:Fr0) (n:Str):Option Addr:=match yao K yai n with
 |some (some (.ref C))=>some C
 |_=>none
def clR(K:Fr0)(RN:List Str)(n:Str):Option Addr:=if RN.contains n then yu K n else none
theorem uO {K:Fr0} {RN:List Str} {n:Str} {C:Addr} (h:clR K RN n=some C):RN.contains n=true/\yu K n=some C:=by
 unfold clR at h
 split at h
 ·rename_i hn;exact⟨hn,h⟩
 ·cases h
def qnn(K:Fr0)(H:Hp)(a:Addr)(n:Str):Prop:=∃C,yu K n=some C/\XK6 K C/\∃o vs,H a=some (.frz o (.own a))/\o.cls=.ref C/\o.data=.fields vs
def qbO (K:Fr0) (H:Hp) (a:Addr) (xs:List V):Prop :=
 H a=some (.tup xs)\/∃(o:Obj)(its:Array Value)(n:Nat),K.lookup a=some o/\o.cls=.type "tuple"/\o.data=.seq its n/\its.size<=yas/\qO xs its.toList
def qjV (K:Fr0) (H:Hp) (a:Addr) (xs:List V):Prop :=
 (∃o,H a=some (.frz o (.lst xs)))\/∃(o:Obj)(its:Array Value)(n:Nat),K.lookup a=some o/\o.cls=.type "list"/\o.dict=none/\o.data=.seq its n/\its.size<=yas/\qO xs its.toList
theorem qbO.sq {K:Fr0} {H:Hp} {a:Addr} {xs:List V} (h:qbO K H a xs):SqT K H a xs:=by
 rcases h with h|h
 ·exact .inl (.inl h)
 ·exact .inr h
theorem qjV.sq {K:Fr0} {H:Hp} {a:Addr} {xs:List V} (h:qjV K H a xs):SqL K H a xs:=by
 rcases h with h|h
 ·exact .inl (.inr h)
 ·exact .inr h
mutual
def Is (K:Fr0) (A:Addr->Prop) (H:Hp):D->V->Prop
 |.non,v=>v=.non
 |.bl b,v=>v=.bl b
 |.int i,v=>v=.int i
 |.str x,v=>v=.str x
 |.tup ds,v=>∃a xs,v=.ref a/\qbO K H a xs/\IsL K A H ds xs
 |.lst ds,v=>∃a xs,v=.ref a/\A a/\H a=some (.lst xs)/\IsL K A H ds xs
 |.dic kvs,v=>∃a,v=.ref a/\A a/\H a=some (.dK (kvs.map λp=>(p.1,V.int p.2)))
 |.fz ns,v=>∃a,v=.ref a/\qjV K H a (ns.map V.int)
 |.exc n,v=>∃a,v=.ref a/\qnn K H a n
def IsL (K:Fr0) (A:Addr->Prop) (H:Hp):List D->List V->Prop
 | [],xs=>xs=[]
 |d::ds,xs=>∃x ys,xs=x::ys/\Is K A H d x/\IsL K A H ds ys
end
mutual
def imm:D->Bool
 |.tup ds=>immL ds
 |.lst _=>false
 |.dic _=>false
 |.fz _=>false
 |_=>true
def immL:List D->Bool
 | []=>true
 |d::ds=>imm d&&immL ds
end
structure Ext (A:Addr->Prop) (H H':Hp):Prop where
 tup:∀b xs,H b=some (.tup xs)->H' b=some (.tup xs)
 frz:∀b o u,H b=some (.frz o u)->H' b=some (.frz o u)
 at_:∀b o,A b->H b=some o->H' b=some o
theorem Ext.refl{A:Addr->Prop}{H:Hp}:Ext A H H:=⟨λ_ _ h=>h,λ_ _ _ h=>h,λ_ _ _ h=>h⟩
theorem Ext.of_same{A:Addr->Prop}{H H':Hp}(s:zK H H'):Ext A H H':=⟨λb xs h=>s b _ h,λb o u h=>s b _ h,λb o _ h=>s b o h⟩
mutual
theorem Is.ext {K:Fr0} {A B:Addr->Prop} {H H':Hp} (e:Ext A H H') (hAB:∀a,A a->(H a).isSome=true->B a):∀{d:D}{v:V},Is K A H d v->Is K B H' d v
 |.non,_,h=>h
 |.bl _,_,h=>h
 |.int _,_,h=>h
 |.str _,_,h=>h
 |.tup ds,_,⟨a,xs,hv,h,r⟩=>⟨a,xs,hv,h.elim (λh => .inl (e.tup _ _ h)) .inr,IsL.ext e hAB r⟩
 |.lst ds,_,⟨a,xs,hv,hA,h,r⟩=>⟨a,xs,hv,hAB a hA (by rw[h];rfl),e.at_ _ _ hA h,IsL.ext e hAB r⟩
 |.dic kvs,_,⟨a,hv,hA,h⟩=>⟨a,hv,hAB a hA (by rw[h];rfl),e.at_ _ _ hA h⟩
 |.fz ns,_,⟨a,hv,h⟩=>⟨a,hv,h.elim (λ⟨o,h⟩ => .inl ⟨o,e.frz _ _ _ h⟩) .inr⟩
 |.exc n,_,⟨a,hv,C,hc,hk,o,vs,h,r⟩=>⟨a,hv,C,hc,hk,o,vs,e.frz _ _ _ h,r⟩
theorem IsL.ext {K:Fr0} {A B:Addr->Prop} {H H':Hp} (e:Ext A H H') (hAB:∀a,A a->(H a).isSome=true->B a):∀{ds:List D}{xs:List V},IsL K A H ds xs->IsL K B H' ds xs
 | [],_,h=>h
 |_::_,_,⟨x,ys,hx,h,r⟩=>⟨x,ys,hx,Is.ext e hAB h,IsL.ext e hAB r⟩
end
mutual
theorem Is.imm {K:Fr0} {A B:Addr->Prop} {H:Hp}:∀{d:D}{v:V},imm d=true->Is K A H d v->Is K B H d v
 |.non,_,_,h=>h
 |.bl _,_,_,h=>h
 |.int _,_,_,h=>h
 |.str _,_,_,h=>h
 |.tup ds,_,i,⟨a,xs,hv,h,r⟩=>⟨a,xs,hv,h,IsL.imm (by simpa [Sk.imm] using i) r⟩
 |.lst _,_,i,_=>by simp[Sk.imm]at i
 |.dic _,_,i,_=>by simp[Sk.imm]at i
 |.fz _,_,i,_=>by simp[Sk.imm]at i
 |.exc _,_,_,h=>h
theorem IsL.imm {K:Fr0} {A B:Addr->Prop} {H:Hp}:∀{ds:List D}{xs:List V},immL ds=true->IsL K A H ds xs->IsL K B H ds xs
 | [],_,_,h=>h
 |d::ds,_,i,⟨x,ys,hx,h,r⟩=>by
  have i':Sk.imm d=true/\immL ds=true:=by simpa [immL] using i
  exact⟨x,ys,hx,Is.imm i'.1 h,IsL.imm i'.2 r⟩
end
theorem IsL.length {K:Fr0} {A:Addr->Prop} {H:Hp}:∀{ds:List D}{xs:List V},IsL K A H ds xs->xs.length=ds.length
 | [],_,h=>by rw[h];rfl
 |_::_,_,⟨x,ys,hx,_,r⟩=>by rw[hx,lC_,lC_,IsL.length r]
theorem IsL.get {K:Fr0} {A:Addr->Prop} {H:Hp}:∀{ds:List D}{xs:List V}{i:Nat}{d:D},IsL K A H ds xs->ds[i]? = some d->∃x,xs[i]? = some x/\Is K A H d x
 | [],_,_,_,_,h=>by simp at h
 |e::_,_,0,d,⟨x,ys,hx,h,r⟩,hd=>by
  have e1:e=d:=by simpa using hd
  subst e1
  exact⟨x,by rw[hx];rfl,h⟩
 |_::ds,_,i+1,d,⟨x,ys,hx,h,r⟩,hd=>by
  obtain⟨y,h1,h2⟩:=IsL.get (i:=i) (d:=d) r (by simpa using hd)
  exact⟨y,by rw[hx];simpa using h1,h2⟩
theorem IsL.append {K:Fr0} {A:Addr->Prop} {H:Hp}:∀{ds es:List D}{xs ys:List V},IsL K A H ds xs->IsL K A H es ys->IsL K A H (ds++es) (xs++ys)
 | [],_,_,_,h,g=>by rw[h];exact g
 |_::_,_,_,_,⟨x,zs,hx,h,r⟩,g=>⟨x,zs++_,by rw[hx];rfl,h,IsL.append r g⟩
theorem IsL.take {K:Fr0} {A:Addr->Prop} {H:Hp}:∀{ds:List D}{xs:List V}(n:Nat),IsL K A H ds xs->IsL K A H (ds.take n) (xs.take n)
 |_,_,0,_=>by simp[IsL]
 | [],_,_+1,h=>by rw[h];simp[IsL]
 |_::_,_,n+1,⟨x,ys,hx,h,r⟩=>by rw[hx];exact⟨x,ys.take n,rfl,h,IsL.take n r⟩
theorem IsL.drop {K:Fr0} {A:Addr->Prop} {H:Hp}:∀{ds:List D}{xs:List V}(n:Nat),IsL K A H ds xs->IsL K A H (ds.drop n) (xs.drop n)
 |_,_,0,h=>h
 | [],_,_+1,h=>by rw[h];simp[IsL]
 |_::_,_,n+1,⟨x,ys,hx,h,r⟩=>by rw[hx];exact IsL.drop n r
theorem IsL.one{K:Fr0}{A:Addr->Prop}{H:Hp}{d:D}{v:V}(h:Is K A H d v):IsL K A H [d] [v]:=⟨v,[],rfl,h,rfl⟩
theorem IsL.set {K:Fr0} {A:Addr->Prop} {H:Hp} {d:D} {v:V} (hd:Is K A H d v):∀{ds:List D}{xs:List V}(n:Nat),IsL K A H ds xs->IsL K A H (ds.set n d) (xs.set n v)
 | [],_,_,h=>by rw[h];simp[IsL]
 |_::_,_,0,⟨x,ys,hx,h,r⟩=>by rw[hx];exact⟨v,ys,rfl,hd,r⟩
 |_::_,_,n+1,⟨x,ys,hx,h,r⟩=>by rw[hx];exact⟨x,ys.set n v,rfl,h,IsL.set hd n r⟩
abbrev Env:=List (Option D)
structure Exn where
 cls:Str
 val:D
inductive R (α:Type) where
 |ok (a:α)|exc (x:Exn) (Z:Env)|bad
structure Fc where
 O:List Nat
 P:List Nat
 B:Addr->Prop
 H0:Hp
 Io:Addr->Prop
 E:Exn->Hp->Prop
 S:Nat->Option (Option V)
def Cl(O:List Nat)(σ:St)(a:Addr):Prop:=∀j∈O,σ[j]? ≠ some (some (.ref a))
def Cn(c:Fc)(σ:St)(a:Addr):Prop:=c.B a/\Cl c.O σ a
structure Rep (K:Fr0) (c:Fc) (Z:Env) (σ:St) (H:Hp):Prop where
 len:Z.length=σ.length
 val:∀i d,Z[i]? = some (some d)->∃v,σ[i]? = some (some v) /\
  ((i∈c.O/\∃ds a xs,d=.lst ds/\v=.ref a/\H a=some (.lst xs)/\IsL K (Cn c σ) H ds xs)\/(i ∉ c.O/\Is K (Cn c σ) H d v))
 own:∀j∈c.O,∀v,σ[j]? = some (some v)->∃a xs,v=.ref a/\H a=some (.lst xs)/\(c.H0 a=none\/(j∈c.P/\c.Io a))
 inj:∀i j a,i∈c.O->j∈c.O->σ[i]? = some (some (.ref a))->σ[j]? = some (some (.ref a))->i=j
 b0:(∀a,c.H0 a=none->c.B a)/\qmy K c.H0 c.Io
 kp:∀b o,c.H0 b=some o->¬c.Io b->H b=some o
 dm:∀b,H b=none->c.H0 b=none
 pO:∀j∈c.P,j∈c.O
 ps:∀j∈c.P,σ[j]? = c.S j
theorem Rep.tb{K:Fr0}{c:Fc}{Z:Env}{σ:St}{H:Hp}(r:Rep K c Z σ H):wW K H:=λq P pos e=>⟨r.kp P _ (r.b0.2 q P pos e).1 (r.b0.2 q P pos e).2,λz=>z⟩
structure Gr (O:List Nat) (σ:St) (H H':Hp):Prop where
 ext:Ext (Cl O σ) H H'
 dom:∀b,H' b=none->H b=none
theorem Gr.refl{O:List Nat}{σ:St}{H:Hp}:Gr O σ H H:=⟨Ext.refl,λ_ h=>h⟩
theorem Gr.of_same{O:List Nat}{σ:St}{H H':Hp}(s:zK H H'):Gr O σ H H':=⟨Ext.of_same s,λ_ h=>s.free h⟩
theorem Gr.trans {O:List Nat} {σ:St} {H H1 H2:Hp} (a:Gr O σ H H1) (b:Gr O σ H1 H2):Gr O σ H H2 :=
 ⟨⟨λc xs h=>b.ext.tup c xs (a.ext.tup c xs h),λc o u h=>b.ext.frz c o u (a.ext.frz c o u h),λc o hc h=>b.ext.at_ c o hc (a.ext.at_ c o hc h)⟩,λc h=>a.dom c (b.dom c h)⟩
theorem Gr.cn{c:Fc}{σ:St}{H H':Hp}(g:Gr c.O σ H H'):Ext (Cn c σ) H H':=⟨g.ext.tup,g.ext.frz,λb o hb h=>g.ext.at_ b o hb.2 h⟩
theorem Gr.is{K:Fr0}{c:Fc}{σ:St}{H H':Hp}{d:D}{v:V}(g:Gr c.O σ H H')(h:Is K (Cn c σ) H d v):Is K (Cn c σ) H' d v:=Is.ext g.cn (λ_ h _=>h) h
theorem Gr.isL{K:Fr0}{c:Fc}{σ:St}{H H':Hp}{d:List D}{v:List V}(g:Gr c.O σ H H')(h:IsL K (Cn c σ) H d v):IsL K (Cn c σ) H' d v:=IsL.ext g.cn (λ_ h _=>h) h
theorem Rep.new {K:Fr0} {c:Fc} {Z:Env} {σ:St} {H:Hp} (r:Rep K c Z σ H) {a:Addr} (h:H a=none):Cn c σ a :=
 ⟨r.b0.1 a (r.dm a h),λj hj e=>by obtain⟨b,xs,e1,e2,_⟩:=r.own j hj _ e;cases e1;rw[h]at e2;cases e2⟩
theorem Rep.same {K:Fr0} {c:Fc} {Z:Env} {σ:St} {H H':Hp} (r:Rep K c Z σ H) (s:zK H H'):Rep K c Z σ H' where
 len:=r.len
 val:=λi d h=>by
  obtain⟨v,h1,h2⟩:=r.val i d h
  refine⟨v,h1,?_⟩
  rcases h2 with⟨hi,ds,a,xs,h3,h5,h6,h7⟩|⟨hi,h3⟩
  ·exact .inl ⟨hi,ds,a,xs,h3,h5,s _ _ h6,IsL.ext (Ext.of_same s) (λ_ h _=>h) h7⟩
  ·exact .inr ⟨hi,Is.ext (Ext.of_same s) (λ_ h _=>h) h3⟩
 own:=λj hj v h=>by
  obtain⟨a,xs,h1,h2,h3⟩:=r.own j hj v h
  exact⟨a,xs,h1,s _ _ h2,h3⟩
 inj:=r.inj
 b0:=r.b0
 kp:=λb o h1 h2=>s _ _ (r.kp b o h1 h2)
 dm:=λb h=>r.dm b (s.free h)
 pO:=r.pO
 ps:=r.ps
theorem Rep.get {K:Fr0} {c:Fc} {Z:Env} {σ:St} {H:Hp} (r:Rep K c Z σ H) {i:Nat} {d:D} (hi:i ∉ c.O) (h:Z[i]? = some (some d)):∃v,σ[i]? = some (some v)/\Is K (Cn c σ) H d v:=by
 obtain⟨v,h1,h2⟩:=r.val i d h
 rcases h2 with⟨h3,_⟩|⟨_,h3⟩
 ·exact absurd h3 hi
 ·exact⟨v,h1,h3⟩
theorem Rep.getO {K:Fr0} {c:Fc} {Z:Env} {σ:St} {H:Hp} (r:Rep K c Z σ H) {i:Nat} {d:D} (hi:i∈c.O) (h:Z[i]? = some (some d)) :
  ∃ds a xs,d=.lst ds/\σ[i]? = some (some (.ref a))/\H a=some (.lst xs)/\IsL K (Cn c σ) H ds xs:=by
 obtain⟨v,h1,h2⟩:=r.val i d h
 rcases h2 with⟨_,ds,a,xs,h3,h5,h6,h7⟩|⟨h3,_⟩
 ·subst h5;exact⟨ds,a,xs,h3,h1,h6,h7⟩
 ·exact absurd hi h3
abbrev M(α:Type):=Env->R (α×Env)
def Wp (K:Fr0) (c:Fc) (σ:St) (H:Hp) (Q:VK):R (D×Env)->Prop
 |.ok (d,Z)=>∀v H',Rep K c Z σ H'->Is K (Cn c σ) H' d v->Gr c.O σ H H'->Q v H'
 |.exc x Z=>∀H',Rep K c Z σ H'->Gr c.O σ H H'->c.E x H'
 |.bad=>False
def WpB (K:Fr0) (c:Fc) (σ:St) (H:Hp) (Q:Bool->Hp->Prop):R (Bool×Env)->Prop
 |.ok (b,Z)=>∀H',Rep K c Z σ H'->Gr c.O σ H H'->Q b H'
 |.exc x Z=>∀H',Rep K c Z σ H'->Gr c.O σ H H'->c.E x H'
 |.bad=>False
def WpL (K:Fr0) (c:Fc) (σ:St) (H:Hp) (Q:List V->Hp->Prop):R (List D×Env)->Prop
 |.ok (ds,Z)=>∀vs H',Rep K c Z σ H'->IsL K (Cn c σ) H' ds vs->Gr c.O σ H H'->Q vs H'
 |.exc x Z=>∀H',Rep K c Z σ H'->Gr c.O σ H H'->c.E x H'
 |.bad=>False
def DE(X:Cx)(c:Fc)(e:Expr)(f:M D):Prop:=∃t,PE X e t/\∀Z σ H Q,Rep X.K c Z σ H->Wp X.K c σ H Q (f Z)->t σ H Q
def DT(X:Cx)(c:Fc)(e:Expr)(f:M Bool):Prop:=∃t,PT X e t/\∀Z σ H Q,Rep X.K c Z σ H->WpB X.K c σ H Q (f Z)->t σ H Q
def DA(X:Cx)(c:Fc)(es:List Expr)(f:M (List D)):Prop:=∃t,PA X es t/\∀Z σ H Q,Rep X.K c Z σ H->WpL X.K c σ H Q (f Z)->t σ H Q
def ret{α:Type}(a:α):M α:=λZ => .ok (a,Z)
def bnd {α β:Type} (f:M α) (k:α->M β):M β:=λZ=>match f Z with
 |.ok (a,Z')=>k a Z'
 |.exc x Z' => .exc x Z'
 |.bad => .bad
def lift {α:Type}:Option α->M α
 |some a=>ret a
 |none=>λ_ => .bad
section
variable{K:Fr0}{c:Fc}{σ:St}{H H1:Hp}{Q:VK}{QB:Bool->Hp->Prop}{QL:List V->Hp->Prop}{r:R (D×Env)}
theorem Wp.gr:∀{r:R (D×Env)},Wp K c σ H Q r->Gr c.O σ H H1->Wp K c σ H1 Q r
 |.ok (d,Z),h,g=>λv H' hr hi hg=>h v H' hr hi (g.trans hg)
 |.exc x Z,h,g=>λH' hr hg=>h H' hr (g.trans hg)
 |.bad,h,_=>h
theorem WpB.gr:∀{r:R (Bool×Env)},WpB K c σ H QB r->Gr c.O σ H H1->WpB K c σ H1 QB r
 |.ok (d,Z),h,g=>λH' hr hg=>h H' hr (g.trans hg)
 |.exc x Z,h,g=>λH' hr hg=>h H' hr (g.trans hg)
 |.bad,h,_=>h
theorem WpL.gr:∀{r:R (List D×Env)},WpL K c σ H QL r->Gr c.O σ H H1->WpL K c σ H1 QL r
 |.ok (d,Z),h,g=>λv H' hr hi hg=>h v H' hr hi (g.trans hg)
 |.exc x Z,h,g=>λH' hr hg=>h H' hr (g.trans hg)
 |.bad,h,_=>h
theorem Wp.bnd {f:M D} {k:D->M D} {Z:Env} {Q':VK} (h:Wp K c σ H Q (bnd f k Z)) (hQ:∀d Z' v H',Rep K c Z' σ H'->Is K (Cn c σ) H' d v->Gr c.O σ H H'->Wp K c σ H' Q (k d Z')->Q' v H'):Wp K c σ H Q' (f Z):=by
 unfold Sk.bnd at h
 cases e:f Z with
 |ok p=>rw[e]at h;exact λv H' hr hi hg=>hQ p.1 p.2 v H' hr hi hg (h.gr hg)
 |exc x Z'=>rw[e]at h;exact h
 |bad=>rw[e]at h;exact h
theorem Wp.bndB {f:M D} {k:D->M Bool} {Z:Env} {Q':VK} (h:WpB K c σ H QB (Sk.bnd f k Z)) (hQ:∀d Z' v H',Rep K c Z' σ H'->Is K (Cn c σ) H' d v->Gr c.O σ H H'->WpB K c σ H' QB (k d Z')->Q' v H'):Wp K c σ H Q' (f Z):=by
 unfold Sk.bnd at h
 cases e:f Z with
 |ok p=>rw[e]at h;exact λv H' hr hi hg=>hQ p.1 p.2 v H' hr hi hg (h.gr hg)
 |exc x Z'=>rw[e]at h;exact h
 |bad=>rw[e]at h;exact h
theorem Wp.bndL {f:M D} {k:D->M (List D)} {Z:Env} {Q':VK} (h:WpL K c σ H QL (Sk.bnd f k Z)) (hQ:∀d Z' v H',Rep K c Z' σ H'->Is K (Cn c σ) H' d v->Gr c.O σ H H'->WpL K c σ H' QL (k d Z')->Q' v H'):Wp K c σ H Q' (f Z):=by
 unfold Sk.bnd at h
 cases e:f Z with
 |ok p=>rw[e]at h;exact λv H' hr hi hg=>hQ p.1 p.2 v H' hr hi hg (h.gr hg)
 |exc x Z'=>rw[e]at h;exact h
 |bad=>rw[e]at h;exact h
theorem WpB.bnd {f:M Bool} {k:Bool->M D} {Z:Env} {Q':Bool->Hp->Prop} (h:Wp K c σ H Q (Sk.bnd f k Z)) (hQ:∀d Z' H',Rep K c Z' σ H'->Gr c.O σ H H'->Wp K c σ H' Q (k d Z')->Q' d H'):WpB K c σ H Q' (f Z):=by
 unfold Sk.bnd at h
 cases e:f Z with
 |ok p=>rw[e]at h;exact λH' hr hg=>hQ p.1 p.2 H' hr hg (h.gr hg)
 |exc x Z'=>rw[e]at h;exact h
 |bad=>rw[e]at h;exact h
theorem WpB.bndB {f:M Bool} {k:Bool->M Bool} {Z:Env} {Q':Bool->Hp->Prop} (h:WpB K c σ H QB (Sk.bnd f k Z)) (hQ:∀d Z' H',Rep K c Z' σ H'->Gr c.O σ H H'->WpB K c σ H' QB (k d Z')->Q' d H'):WpB K c σ H Q' (f Z):=by
 unfold Sk.bnd at h
 cases e:f Z with
 |ok p=>rw[e]at h;exact λH' hr hg=>hQ p.1 p.2 H' hr hg (h.gr hg)
 |exc x Z'=>rw[e]at h;exact h
 |bad=>rw[e]at h;exact h
theorem WpL.bnd {f:M (List D)} {k:List D->M D} {Z:Env} {Q':List V->Hp->Prop} (h:Wp K c σ H Q (Sk.bnd f k Z)) (hQ:∀d Z' v H',Rep K c Z' σ H'->IsL K (Cn c σ) H' d v->Gr c.O σ H H'->Wp K c σ H' Q (k d Z')->Q' v H'):WpL K c σ H Q' (f Z):=by
 unfold Sk.bnd at h
 cases e:f Z with
 |ok p=>rw[e]at h;exact λv H' hr hi hg=>hQ p.1 p.2 v H' hr hi hg (h.gr hg)
 |exc x Z'=>rw[e]at h;exact h
 |bad=>rw[e]at h;exact h
theorem WpL.bndL {f:M (List D)} {k:List D->M (List D)} {Z:Env} {Q':List V->Hp->Prop} (h:WpL K c σ H QL (Sk.bnd f k Z)) (hQ:∀d Z' v H',Rep K c Z' σ H'->IsL K (Cn c σ) H' d v->Gr c.O σ H H'->WpL K c σ H' QL (k d Z')->Q' v H'):WpL K c σ H Q' (f Z):=by
 unfold Sk.bnd at h
 cases e:f Z with
 |ok p=>rw[e]at h;exact λv H' hr hi hg=>hQ p.1 p.2 v H' hr hi hg (h.gr hg)
 |exc x Z'=>rw[e]at h;exact h
 |bad=>rw[e]at h;exact h
theorem Wp.lift {o:Option D} {Z:Env} (h:Wp K c σ H Q (Sk.lift o Z)):∃d,o=some d/\∀v H',Rep K c Z σ H'->Is K (Cn c σ) H' d v->Gr c.O σ H H'->Q v H':=by
 cases o with
 |none=>exact h.elim
 |some d=>exact⟨d,rfl,h⟩
end
section
variable{X:Cx}{c:Fc}{a b e:Expr}{pos:Pos}
theorem qi{i j pos}:DE X c (.Constant (.int i) j pos) (ret (.int i)):=⟨_,qjk,λ_ _ H Q r h=>h _ H r rfl .refl⟩
theorem qaX{i j pos}:DE X c (.Constant (.bool i) j pos) (ret (.bl i)):=⟨_,qlm,λ_ _ H Q r h=>h _ H r rfl .refl⟩
theorem qck{j pos}:DE X c (.Constant .none j pos) (ret .non):=⟨_,qjl,λ_ _ H Q r h=>h _ H r rfl .refl⟩
theorem qd3{x j pos}:DE X c (.Constant (.str x) j pos) (ret (.str x)):=⟨_,qjm,λ_ _ H Q r h=>h _ H r rfl .refl⟩
def dv (i:Nat):M D:=λZ=>match Z[i]? with
 |some (some d) => .ok (d,Z)
 |_ => .bad
theorem qc (i:Nat) {x:Str} (ho:i ∉ c.O:=by exact of_decide_eq_false rfl) (hN:X.N[i]? = some x:=by rfl) (hv:Vis X.env.scope x:=by first|exact ybn rfl|exact yaY (ybn rfl)|exact yaY (yaY rfl)) (hd:(x==("__debug__":Str))=false:=by decide)
  (hcd:(x==("__classdict__":Str))=false:=by decide):DE X c (.Name x pos) (dv i):=by
 refine⟨_,y7 hN hv hd hcd,λZ σ H Q r h=>?_⟩
 unfold dv at h
 split at h
 ·rename_i d e
  obtain⟨v,h1,h2⟩:=r.get ho e
  exact⟨v,h1,h v H r h2 .refl⟩
 ·exact h.elim
theorem qd4 {x:Str} {v:V} {u:Value} {d:D} (hg:Gl X x) (hm:X.mg x=some u) (rv:zJ v u) (hd:∀H A,Is X.K A H d v) (hdb:(x==("__debug__":Str))=false:=by decide):DE X c (.Name x pos) (ret d) :=
 ⟨_,qbH hg hm rv hdb,λ_ _ H Q r h=>h _ H r (hd _ _) .refl⟩
theorem qe:DA X c [] (ret []):=⟨_,uN,λ_ _ H Q r h=>h _ H r rfl .refl⟩
def qa(f:M D)(g:M (List D)):M (List D):=bnd f λd=>bnd g λds=>ret (d::ds)
theorem qb {es:List Expr} {f:M D} {g:M (List D)} (ha:DE X c e f) (hr:DA X c es g) (hs:yad (e::es) X.env=(false,eval e X.env)::yad es X.env:=by rfl):DA X c (e::es) (qa f g):=by
 obtain⟨ta,pa,wa⟩:=ha
 obtain⟨tr,pr,wr⟩:=hr
 refine⟨_,jc pa pr hs,λZ σ H Q r h=>wa Z σ H _ r (Wp.bndL h λd Z1 v H1 r1 i1 g1 h1=>wr Z1 σ H1 _ r1 (WpL.bndL h1 λds Z2 vs H2 r2 i2 g2 h2=>?_))⟩
 exact h2 _ H2 r2 ⟨v,vs,rfl,g2.is i1,i2⟩ .refl
def qD(n:Nat):Bool:=decide (n<=yas)
def y0(f:M (List D)):M D:=bnd f λds=>lift (if qD ds.length then some (.tup ds)else none)
def y8(f:M (List D)):M D:=bnd f λds=>lift (if qD ds.length then some (.lst ds)else none)
theorem qx{H:Hp}{p:Addr}(h:H p=none)(o:HO):zK H (upd H p o):=λb u q=>by rw[qh (qq q h)];exact q
theorem Rep.laid{K:Fr0}{Z:Env}{σ:St}{H:Hp}(r:Rep K c Z σ H){p:Addr}(h:H p=none)(o:HO):Rep K c Z σ (upd H p o):=r.same (qx h o)
theorem zj {p:Bool} {d e:D} (h:(if p then some d else none)=some e):p=true/\d=e:=by
 cases p with
 |true=>exact⟨rfl,by simpa using h⟩
 |false=>simp at h
theorem uP {es:List Expr} {x1} {f:M (List D)} (h:DA X c es f):DE X c (.Tuple es x1 pos) (y0 f):=by
 obtain⟨t,p,w⟩:=h
 refine⟨_,qjJ p,λZ σ H Q r h=>w Z σ H _ r (WpL.bnd h λds Z1 vs H1 r1 i1 g1 h1=>?_)⟩
 obtain⟨d,e,h2⟩:=h1.lift
 obtain⟨e1,e2⟩:=zj e
 subst e2
 refine⟨by rw[i1.length];exact of_decide_eq_true e1,λp hp=>h2 _ _ (r1.laid hp _) ⟨p,vs,rfl,.inl qk,IsL.ext (Ext.of_same (qx hp _)) (λ_ h _=>h) i1⟩ (.of_same (qx hp _))⟩
theorem yo {es:List Expr} {f:M (List D)} (h:DA X c es f):DE X c (.List es pos) (y8 f):=by
 obtain⟨t,p,w⟩:=h
 refine⟨_,qgG p,λZ σ H Q r h=>w Z σ H _ r (WpL.bnd h λds Z1 vs H1 r1 i1 g1 h1=>?_)⟩
 obtain⟨d,e,h2⟩:=h1.lift
 obtain⟨e1,e2⟩:=zj e
 subst e2
 refine⟨by rw[i1.length];exact of_decide_eq_true e1,λp hp=>h2 _ _ (r1.laid hp _) ⟨p,vs,rfl,r1.new hp,qk,IsL.ext (Ext.of_same (qx hp _)) (λ_ h _=>h) i1⟩ (.of_same (qx hp _))⟩
def OpS (K:Fr0) (F:D->D->Option D) (r:R2):Prop:=∀(A:Addr->Prop)(H:Hp)(x y d:D)(v u:V)(Q:VK),(∀a,H a=none->A a)->Is K A H x v->Is K A H y u->F x y=some d ->
 (∀w H',zK H H'->Is K A H' d w->Q w H')->r v u H Q
def d2(F:D->D->Option D)(f g:M D):M D:=bnd f λx=>bnd g λy=>lift (F x y)
theorem op2 {r:R2} {F:D->D->Option D} {f g:M D} {ta tb:TE} (hF:OpS X.K F r) (wa:∀Z σ H Q,Rep X.K c Z σ H->Wp X.K c σ H Q (f Z)->ta σ H Q) (wb:∀Z σ H Q,Rep X.K c Z σ H->Wp X.K c σ H Q (g Z)->tb σ H Q) :
  ∀Z σ H Q,Rep X.K c Z σ H->Wp X.K c σ H Q (d2 F f g Z)->tOp r ta tb σ H Q:=λZ σ H Q rp h=>wa Z σ H _ rp (Wp.bnd h λx Z1 v H1 r1 i1 g1 h1=>wb Z1 σ H1 _ r1 (Wp.bnd h1 λy Z2 u H2 r2 i2 g2 h2=>by
 obtain⟨d,e,h3⟩:=h2.lift
 exact hF _ H2 x y d v u Q (λa ha=>r2.new ha) (g2.is i1) i2 e λw H' s i=>h3 w H' (r2.same s) i (.of_same s)))
theorem qC {op:Operator} {r:R2} {F:D->D->Option D} {f g:M D} (ho:OpR X (ybq op) r) (hF:OpS X.K F r) (ha:DE X c a f) (hb:DE X c b g):DE X c (.BinOp a op b pos) (d2 F f g):=by
 obtain⟨ta,pa,wa⟩:=ha
 obtain⟨tb,pb,wb⟩:=hb
 exact⟨_,qlx ho pa pb,op2 hF wa wb⟩
theorem wu {op:CmpOp} {r:R2} {F:D->D->Option D} {f g:M D} (ho:OpR X (yaS op) r) (hF:OpS X.K F r) (ha:DE X c a f) (hb:DE X c b g) (hm:ybB op b=false):DE X c (.Compare a [op] [b] pos) (d2 F f g):=by
 obtain⟨ta,pa,wa⟩:=ha
 obtain⟨tb,pb,wb⟩:=hb
 exact⟨_,qhC ho pa pb hm,op2 hF wa wb⟩
def asB:D->Option Bool
 |.bl b=>some b
 |_=>none
def tst(f:M D):M Bool:=bnd f λd=>lift (asB d)
theorem qcl {K:Fr0} {σ:St} {H:Hp} {QB:Bool->Hp->Prop} {o:Option Bool} {Z:Env} (h:WpB K c σ H QB (lift o Z)):∃b,o=some b/\∀H',Rep K c Z σ H'->Gr c.O σ H H'->QB b H':=by
 cases o with
 |none=>exact h.elim
 |some d=>exact⟨d,rfl,h⟩
theorem wX {d:D} {b:Bool} (h:asB d=some b):d=.bl b:=by
 cases d<;>simp[asB]at h
 subst h;rfl
theorem zQ {op:CmpOp} {r:R2} {F:D->D->Option D} {f g:M D} (ho:OpR X (yaS op) r) (hF:OpS X.K F r) (ha:DE X c a f) (hb:DE X c b g) (hm:ybB op b=false):DT X c (.Compare a [op] [b] pos) (tst (d2 F f g)):=by
 obtain⟨ta,pa,wa⟩:=ha
 obtain⟨tb,pb,wb⟩:=hb
 refine⟨_,qhD ho pa pb hm,λZ σ H Q rp h=>op2 hF wa wb Z σ H _ rp (Wp.bndB h λd Z1 v H1 r1 i1 g1 h1=>?_)⟩
 obtain⟨b,e,h2⟩:=qcl h1
 have:=wX e
 subst this
 exact⟨b,i1,h2 H1 r1 .refl⟩
theorem uQ {f:M D} (h:DE X c e f) (he:∀whole,isTrue e X.env whole=(do let v <-whole;standAt e.pos;ycX [v] (truthy v)):=by intro _;rfl):DT X c e (tst f):=by
 obtain⟨t,p,w⟩:=h
 refine⟨_,qjn p he,λZ σ H Q rp h=>w Z σ H _ rp (Wp.bndB h λd Z1 v H1 r1 i1 g1 h1=>?_)⟩
 obtain⟨b,e,h2⟩:=qcl h1
 have:=wX e
 subst this
 exact⟨b,i1,h2 H1 r1 .refl⟩
def qfh(f:M Bool):M Bool:=bnd f λb=>ret (!b)
theorem vk {f:M Bool} (h:DT X c a f):DT X c (.UnaryOp .Not a pos) (qfh f):=by
 obtain⟨t,p,w⟩:=h
 exact⟨_,qjq p,λZ σ H Q rp h=>w Z σ H _ rp (WpB.bndB h λd Z1 H1 r1 g1 h1=>h1 H1 r1 .refl)⟩
def DW(X:Cx)(c:Fc)(e:Expr)(f:M Bool):Prop:=∃t,PW X e t/\∀Z σ H Q,Rep X.K c Z σ H->WpB X.K c σ H Q (f Z)->t σ H Q
theorem DW.dt {f:M Bool} (h:DW X c e f):DT X c e f:=by
 obtain⟨t,p,w⟩:=h
 exact⟨t,p.pt,w⟩
def qd5(f g:M Bool):M Bool:=bnd f λb=>if b then g else ret false
def tor(f g:M Bool):M Bool:=bnd f λb=>if b then ret true else g
variable{u0:List Expr}
theorem qhL {f:M Bool} (h:DT X c a f):DW X c (.BoolOp .And [a] pos) f:=by
 obtain⟨t,p,w⟩:=h
 exact⟨t,qhx p,w⟩
theorem wv {f:M Bool} (h:DT X c a f):DW X c (.BoolOp .Or [a] pos) f:=by
 obtain⟨t,p,w⟩:=h
 exact⟨t,qjo p,w⟩
theorem qjW {f g:M Bool} (ha:DT X c a f) (hb:DW X c (.BoolOp .And (b::u0) pos) g):DW X c (.BoolOp .And (a::b::u0) pos) (qd5 f g):=by
 obtain⟨ta,pa,wa⟩:=ha
 obtain⟨tb,pb,wb⟩:=hb
 refine⟨_,qjp pa pb,λZ σ H Q rp h=>wa Z σ H _ rp (WpB.bndB h λd Z1 H1 r1 g1 h1=>?_)⟩
 cases d with
 |true=>exact qi6 (wb Z1 σ H1 Q r1 (by simpa using h1))
 |false=>exact qi5 ((by simpa using h1:WpB X.K c σ H1 Q (ret false Z1)) H1 r1 .refl)
theorem qdc {f g:M Bool} (ha:DT X c a f) (hb:DW X c (.BoolOp .Or (b::u0) pos) g):DW X c (.BoolOp .Or (a::b::u0) pos) (tor f g):=by
 obtain⟨ta,pa,wa⟩:=ha
 obtain⟨tb,pb,wb⟩:=hb
 refine⟨_,qln pa pb,λZ σ H Q rp h=>wa Z σ H _ rp (WpB.bndB h λd Z1 H1 r1 g1 h1=>?_)⟩
 cases d with
 |true=>exact qi6 ((by simpa using h1:WpB X.K c σ H1 Q (ret true Z1)) H1 r1 .refl)
 |false=>exact qi5 (wb Z1 σ H1 Q r1 (by simpa using h1))
def qlf(f:M D):M D:=bnd f λd=>bnd (lift (asB d)) λb=>ret (.bl (!b))
def qi7(f g:M D):M D:=bnd f λd=>bnd (lift (asB d)) λb=>if b then g else ret (.bl false)
def dor(f g:M D):M D:=bnd f λd=>bnd (lift (asB d)) λb=>if b then ret (.bl true)else g
theorem qd6 {K:Fr0} {σ:St} {H:Hp} {Q:VK} {d:D} {k:Bool->M D} {Z:Env} (h:Wp K c σ H Q (bnd (lift (asB d)) k Z)):∃b,d=.bl b/\Wp K c σ H Q (k b Z):=by
 unfold bnd at h
 cases e:asB d with
 |none=>rw[e]at h;exact h.elim
 |some b=>rw[e]at h;exact⟨b,wX e,h⟩
theorem qcm {op} {f:M D} (h:DE X c a f):DE X c (.BoolOp op [a] pos) f:=by
 obtain⟨t,p,w⟩:=h
 exact⟨t,qjr p,w⟩
theorem qjX {f:M D} (h:DE X c a f):DE X c (.UnaryOp .Not a pos) (qlf f):=by
 obtain⟨t,p,w⟩:=h
 refine⟨_,qjt p,λZ σ H Q rp h=>w Z σ H _ rp (Wp.bnd h λd Z1 v H1 r1 i1 g1 h1=>?_)⟩
 obtain⟨b,e,h2⟩:=qd6 h1
 subst e
 exact⟨b,i1,h2 _ H1 r1 rfl .refl⟩
theorem qd7 {f g:M D} (ha:DE X c a f) (hb:DE X c (.BoolOp .And (b::u0) pos) g):DE X c (.BoolOp .And (a::b::u0) pos) (qi7 f g):=by
 obtain⟨ta,pa,wa⟩:=ha
 obtain⟨tb,pb,wb⟩:=hb
 refine⟨_,qjs pa pb,λZ σ H Q rp h=>wa Z σ H _ rp (Wp.bnd h λd Z1 v H1 r1 i1 g1 h1=>?_)⟩
 obtain⟨k,e,h2⟩:=qd6 h1
 subst e
 refine⟨k,i1,?_⟩
 cases k with
 |true=>exact qi6 (wb Z1 σ H1 Q r1 (by simpa using h2))
 |false=>exact qi5 ((by simpa using h2:Wp X.K c σ H1 Q (ret (.bl false) Z1)) _ H1 r1 rfl .refl)
theorem qlL {f g:M D} (ha:DE X c a f) (hb:DE X c (.BoolOp .Or (b::u0) pos) g):DE X c (.BoolOp .Or (a::b::u0) pos) (dor f g):=by
 obtain⟨ta,pa,wa⟩:=ha
 obtain⟨tb,pb,wb⟩:=hb
 refine⟨_,qlq pa pb,λZ σ H Q rp h=>wa Z σ H _ rp (Wp.bnd h λd Z1 v H1 r1 i1 g1 h1=>?_)⟩
 obtain⟨k,e,h2⟩:=qd6 h1
 subst e
 refine⟨k,i1,?_⟩
 cases k with
 |true=>exact qi6 ((by simpa using h2:Wp X.K c σ H1 Q (ret (.bl true) Z1)) _ H1 r1 rfl .refl)
 |false=>exact qi5 (wb Z1 σ H1 Q r1 (by simpa using h2))
def dif(f:M Bool)(g k:M D):M D:=bnd f λb=>if b then g else k
theorem qjY {t:Expr} {f:M Bool} {g k:M D} (ht:DT X c t f) (ha:DE X c a g) (hb:DE X c b k):DE X c (.IfExp t a b pos) (dif f g k):=by
 obtain⟨tt,pt,wt⟩:=ht
 obtain⟨ta,pa,wa⟩:=ha
 obtain⟨tb,pb,wb⟩:=hb
 refine⟨_,qfq pt pa pb,λZ σ H Q rp h=>wt Z σ H _ rp (WpB.bnd h λd Z1 H1 r1 g1 h1=>?_)⟩
 cases d with
 |true=>exact qi6 (wa Z1 σ H1 Q r1 (by simpa using h1))
 |false=>exact qi5 (wb Z1 σ H1 Q r1 (by simpa using h1))
def wY (K:Fr0) (F:List D->Option D) (r:List V->Hp->VK->Prop):Prop:=∀(A:Addr->Prop)(H:Hp)(xs:List D)(d:D)(vs:List V)(Q:VK),(∀a,H a=none->A a)->IsL K A H xs vs->F xs=some d ->
 (∀w H',zK H H'->Is K A H' d w->Q w H')->r vs H Q
def qF(F:List D->Option D)(f:M (List D)):M D:=bnd f λds=>lift (F ds)
theorem qlM {r:List V->Hp->VK->Prop} {F:List D->Option D} {f:M (List D)} {t:TA} (hF:wY X.K F r) (w:∀Z σ H Q,Rep X.K c Z σ H->WpL X.K c σ H Q (f Z)->t σ H Q) :
  ∀Z σ H Q,Rep X.K c Z σ H->Wp X.K c σ H Q (qF F f Z)->tCB r t σ H Q:=λZ σ H Q rp h=>w Z σ H _ rp (WpL.bnd h λds Z1 vs H1 r1 i1 g1 h1=>by
 obtain⟨d,e,h3⟩:=h1.lift
 exact hF _ H1 ds d vs Q (λa ha=>r1.new ha) i1 e λw H' s i=>h3 w H' (r1.same s) i (.of_same s))
theorem qP {id:String} {x:Str} {p:Pos} {es:List Expr} {r:List V->Hp->VK->Prop} {F:List D->Option D} {f:M (List D)} (hc:j8 X (.builtin id) r) (hF:wY X.K F r) (hg:Gl X x) (hm:X.mg x=none) (hv:yaB x=some (.builtin id)) (ha:DA X c (e::es) f) (hn:x≠"__name__":=by decide) (hdb:(x==("__debug__":Str))=false:=by decide)
  (he:yad (e::es) X.env=(false,eval e X.env)::yad es X.env:=by rfl) (hpl:(yaI pos (yad es X.env)).any (·.1)=false:=by rfl):DE X c (.Call (.Name x p) (e::es) [] pos) (qF F f):=by
 obtain⟨t,pa,w⟩:=ha
 exact⟨_,u4 hc hg hm hv pa hn hdb he hpl,qlM hF w⟩
theorem yR {r:R2} {F:D->D->Option D} {f g:M D} (hr:IxR X r) (hF:OpS X.K F r) (ha:DE X c a f) (hb:DE X c b g) (hs:qbL b:=by intro _ _;rfl):DE X c (.Subscript a b pos) (d2 F f g):=by
 obtain⟨ta,pa,wa⟩:=ha
 obtain⟨tb,pb,wb⟩:=hb
 exact⟨_,qjN hr pa pb hs,op2 hF wa wb⟩
end
inductive Fl where
 |nx (Z:Env)|rt (d:D) (Z:Env)|bk (Z:Env)|ct (Z:Env)
structure GrS (O:List Nat) (σ:St) (H:Hp) (σ':St) (H':Hp):Prop where
 ext:Ext (Cl O σ) H H'
 cl:∀b,Cl O σ b->(H b).isSome=true->Cl O σ' b
 dom:∀b,H' b=none->H b=none
theorem qdd {H H':Hp} {b:Addr} (dom:H' b=none->H b=none) (h:(H b).isSome=true):(H' b).isSome=true:=by
 cases e:H' b with
 |none=>rw[dom e]at h;cases h
 |some o=>rfl
theorem GrS.refl{O:List Nat}{σ:St}{H:Hp}:GrS O σ H σ H:=⟨Ext.refl,λ_ h _=>h,λ_ h=>h⟩
theorem Gr.s{O:List Nat}{σ:St}{H H':Hp}(g:Gr O σ H H'):GrS O σ H σ H':=⟨g.ext,λ_ h _=>h,g.dom⟩
theorem GrS.trans {O:List Nat} {σ σ1 σ2:St} {H H1 H2:Hp} (a:GrS O σ H σ1 H1) (b:GrS O σ1 H1 σ2 H2):GrS O σ H σ2 H2 :=
 ⟨⟨λc xs h=>b.ext.tup c xs (a.ext.tup c xs h),λc o u h=>b.ext.frz c o u (a.ext.frz c o u h),λc o hc h=>b.ext.at_ c o (a.cl c hc (by rw[h];rfl)) (a.ext.at_ c o hc h)⟩,
  λc hc h=>b.cl c (a.cl c hc h) (qdd (a.dom c) h),λc h=>a.dom c (b.dom c h)⟩
theorem GrS.is {K:Fr0} {c:Fc} {σ σ':St} {H H':Hp} {d:D} {v:V} (g:GrS c.O σ H σ' H') (h:Is K (Cn c σ) H d v):Is K (Cn c σ') H' d v :=
 Is.ext ⟨g.ext.tup,g.ext.frz,λb o hb h=>g.ext.at_ b o hb.2 h⟩ (λa ha hs=>⟨ha.1,g.cl a ha.2 hs⟩) h
theorem GrS.isL {K:Fr0} {c:Fc} {σ σ':St} {H H':Hp} {d:List D} {v:List V} (g:GrS c.O σ H σ' H') (h:IsL K (Cn c σ) H d v):IsL K (Cn c σ') H' d v :=
 IsL.ext ⟨g.ext.tup,g.ext.frz,λb o hb h=>g.ext.at_ b o hb.2 h⟩ (λa ha hs=>⟨ha.1,g.cl a ha.2 hs⟩) h
def WpS (K:Fr0) (c:Fc) (σ:St) (H:Hp) (D:qc7):R Fl->Prop
 |.ok (.nx Z)=>∀σ' H',Rep K c Z σ' H'->GrS c.O σ H σ' H'->D.nx σ' H'
 |.ok (.rt d Z)=>∀v σ' H',Rep K c Z σ' H'->Is K c.B H' d v->GrS c.O σ H σ' H'->D.rt v H'
 |.ok (.bk Z)=>∀σ' H',Rep K c Z σ' H'->GrS c.O σ H σ' H'->D.bk σ' H'
 |.ok (.ct Z)=>∀σ' H',Rep K c Z σ' H'->GrS c.O σ H σ' H'->D.ct σ' H'
 |.exc x Z=>∀σ' H',Rep K c Z σ' H'->GrS c.O σ H σ' H'->c.E x H'
 |.bad=>False
abbrev MS:=Env->R Fl
def DS(X:Cx)(c:Fc)(st:Stmt)(f:MS):Prop:=∃t,PS X st t/\∀Z σ H D,Rep X.K c Z σ H->WpS X.K c σ H D (f Z)->t D σ H
def DSs(X:Cx)(c:Fc)(st:List Stmt)(f:MS):Prop:=∃t,PSs X st t/\∀Z σ H D,Rep X.K c Z σ H->WpS X.K c σ H D (f Z)->t D σ H
theorem WpS.gr {K:Fr0} {c:Fc} {σ σ1:St} {H H1:Hp} {D:qc7}:∀{r:R Fl},WpS K c σ H D r->GrS c.O σ H σ1 H1->WpS K c σ1 H1 D r
 |.ok (.nx Z),h,g=>λσ' H' hr hg=>h σ' H' hr (g.trans hg)
 |.ok (.rt d Z),h,g=>λv σ' H' hr hi hg=>h v σ' H' hr hi (g.trans hg)
 |.ok (.bk Z),h,g=>λσ' H' hr hg=>h σ' H' hr (g.trans hg)
 |.ok (.ct Z),h,g=>λσ' H' hr hg=>h σ' H' hr (g.trans hg)
 |.exc x Z,h,g=>λσ' H' hr hg=>h σ' H' hr (g.trans hg)
 |.bad,h,_=>h
def sbnd {α:Type} (f:M α) (k:α->MS):MS:=λZ=>match f Z with
 |.ok (a,Z')=>k a Z'
 |.exc x Z' => .exc x Z'
 |.bad => .bad
section
variable{K:Fr0}{c:Fc}{σ:St}{H:Hp}{D:qc7}
theorem Wp.sbnd {f:M Sk.D} {k:Sk.D->MS} {Z:Env} {Q':VK} (h:WpS K c σ H D (sbnd f k Z)) (hQ:∀d Z' v H',Rep K c Z' σ H'->Is K (Cn c σ) H' d v->Gr c.O σ H H'->WpS K c σ H' D (k d Z')->Q' v H'):Wp K c σ H Q' (f Z):=by
 unfold Sk.sbnd at h
 cases e:f Z with
 |ok p=>rw[e]at h;exact λv H' hr hi hg=>hQ p.1 p.2 v H' hr hi hg (h.gr hg.s)
 |exc x Z'=>rw[e]at h;exact λH' hr hg=>h σ H' hr hg.s
 |bad=>rw[e]at h;exact h
theorem WpB.sbnd {f:M Bool} {k:Bool->MS} {Z:Env} {Q':Bool->Hp->Prop} (h:WpS K c σ H D (sbnd f k Z)) (hQ:∀d Z' H',Rep K c Z' σ H'->Gr c.O σ H H'->WpS K c σ H' D (k d Z')->Q' d H'):WpB K c σ H Q' (f Z):=by
 unfold Sk.sbnd at h
 cases e:f Z with
 |ok p=>rw[e]at h;exact λH' hr hg=>hQ p.1 p.2 H' hr hg (h.gr hg.s)
 |exc x Z'=>rw[e]at h;exact λH' hr hg=>h σ H' hr hg.s
 |bad=>rw[e]at h;exact h
theorem WpL.sbnd {f:M (List Sk.D)} {k:List Sk.D->MS} {Z:Env} {Q':List V->Hp->Prop} (h:WpS K c σ H D (sbnd f k Z)) (hQ:∀d Z' v H',Rep K c Z' σ H'->IsL K (Cn c σ) H' d v->Gr c.O σ H H'->WpS K c σ H' D (k d Z')->Q' v H'):WpL K c σ H Q' (f Z):=by
 unfold Sk.sbnd at h
 cases e:f Z with
 |ok p=>rw[e]at h;exact λv H' hr hi hg=>hQ p.1 p.2 v H' hr hi hg (h.gr hg.s)
 |exc x Z'=>rw[e]at h;exact λH' hr hg=>h σ H' hr hg.s
 |bad=>rw[e]at h;exact h
end
def qM (f g:MS):MS:=λZ=>match f Z with
 |.ok (.nx Z')=>g Z'
 |r=>r
theorem WpS.mono_nx {K:Fr0} {c:Fc} {σ:St} {H:Hp} {D:qc7} {f g:MS} {Z:Env} {N:St->Hp->Prop} (h:WpS K c σ H D (qM f g Z)) (hN:∀Z' σ' H',Rep K c Z' σ' H'->GrS c.O σ H σ' H'->WpS K c σ' H' D (g Z')->N σ' H') :
  WpS K c σ H {D with nx:=N} (f Z):=by
 unfold qM at h
 cases e:f Z with
 |ok fl=>
  rw[e]at h
  cases fl with
  |nx Z'=>exact λσ' H' hr hg=>hN Z' σ' H' hr hg (h.gr hg)
  |rt d Z'=>exact h
  |bk Z'=>exact h
  |ct Z'=>exact h
 |exc x Z'=>rw[e]at h;exact h
 |bad=>rw[e]at h;exact h
section
variable{X:Cx}{c:Fc}{a b e:Expr}{pos:Pos}{st:Stmt}{sts:List Stmt}
theorem qhM:DSs X c [] (λZ => .ok (.nx Z)):=⟨_,qhy,λZ σ H D r h=>h σ H r .refl⟩
theorem qj {f:MS} (h:DS X c st f):DSs X c [st] f:=by
 obtain⟨t,p,w⟩:=h
 exact⟨t,qbI p,w⟩
theorem qf {f g:MS} (h:DS X c st f) (hr:DSs X c sts g):DSs X c (st::sts) (qM f g):=by
 obtain⟨t,p,w⟩:=h
 obtain⟨t2,p2,w2⟩:=hr
 exact⟨_,qfr p p2,λZ σ H D r h=>w Z σ H _ r (h.mono_nx λZ' σ' H' r' g' h'=>w2 Z' σ' H' D r' h')⟩
def yd(f:M D):MS:=sbnd f λd Z => .ok (.rt d Z)
theorem Is.cn{K:Fr0}{σ:St}{H:Hp}{d:D}{v:V}(h:Is K (Cn c σ) H d v):Is K c.B H d v:=Is.ext Ext.refl (λ_ h _=>h.1) h
theorem qT {f:M D} (h:DE X c e f):DS X c (.Return (some e) pos) (yd f):=by
 obtain⟨t,p,w⟩:=h
 exact⟨_,qdJ p,λZ σ H D r h=>w Z σ H _ r (Wp.sbnd h λd Z1 v H1 r1 i1 g1 h1=>h1 v σ H1 r1 i1.cn .refl)⟩
def z9(f:M D):MS:=sbnd f λ_ Z => .ok (.nx Z)
theorem ye {f:M D} (h:DE X c e f) (hs:ydp e none pos.line X.env=pure false:=by rfl):DS X c (.Expr e pos) (z9 f):=by
 obtain⟨t,p,w⟩:=h
 exact⟨_,qhz p hs,λZ σ H D r h=>w Z σ H _ r (Wp.sbnd h λd Z1 v H1 r1 i1 g1 h1=>h1 σ H1 r1 .refl)⟩
def sif(f:M Bool)(g k:MS):MS:=sbnd f λb=>if b then g else k
theorem uu {t:Expr} {s1 s2:List Stmt} {f:M Bool} {g k:MS} (ht:DT X c t f) (ha:DSs X c s1 g) (hb:DSs X c s2 k):DS X c (.If t s1 s2 pos) (sif f g k):=by
 obtain⟨tt,pt,wt⟩:=ht
 obtain⟨ta,pa,wa⟩:=ha
 obtain⟨tb,pb,wb⟩:=hb
 refine⟨_,qlt pt pa pb,λZ σ H D rp h=>wt Z σ H _ rp (WpB.sbnd h λd Z1 H1 r1 g1 h1=>?_)⟩
 cases d with
 |true=>exact qi6 (wa Z1 σ H1 D r1 (by simpa using h1))
 |false=>exact qi5 (wb Z1 σ H1 D r1 (by simpa using h1))
theorem qV{α:Type}{l:List α}{i j:Nat}{v:α}(h:j≠i):(l.set i v)[j]? = l[j]? := List.getElem?_set_ne (yaZ h)
theorem Cl.set {O:List Nat} {σ:St} {i:Nat} {v:Option V} (hi:i ∉ O) (a:Addr):Cl O (σ.set i v) a ↔ Cl O σ a:=by
 constructor
 ·intro h j hj
  have e:j≠i:=λe=>hi (e▸hj)
  have:=h j hj
  rw[qV e]at this
  exact this
 ·intro h j hj
  have e:j≠i:=λe=>hi (e▸hj)
  rw[qV e]
  exact h j hj
theorem Rep.set {K:Fr0} {Z:Env} {σ:St} {H:Hp} {i:Nat} {d:D} {v:V} (r:Rep K c Z σ H) (hi:i ∉ c.O) (h:Is K (Cn c σ) H d v):Rep K c (Z.set i (some d)) (σ.set i (some v)) H where
 len:=by rw[lS_,lS_];exact r.len
 val := λj e hj=>by
  have up:∀{d':D}{v':V},Is K (Cn c σ) H d' v'->Is K (Cn c (σ.set i (some v))) H d' v':=λh=>Is.ext Ext.refl (λa ha _=>⟨ha.1,(Cl.set hi a).mpr ha.2⟩) h
  by_cases e1:j=i
  ·subst e1
   have hl:j<Z.length:=by
    have:=(gI_.mp hj).1
    rwa [lS_]at this
   rw[List.getElem?_set_self hl]at hj
   cases hj
   refine⟨v,List.getElem?_set_self (by rw[<-r.len];exact hl),.inr ⟨hi,up h⟩⟩
  ·rw[qV e1]at hj
   obtain⟨w,h1,h2⟩:=r.val j e hj
   refine⟨w,by rw[qV e1];exact h1,?_⟩
   rcases h2 with⟨hj2,ds,a,xs,h3,h5,h6,h7⟩|⟨h3,h4⟩
   ·exact .inl ⟨hj2,ds,a,xs,h3,h5,h6,IsL.ext Ext.refl (λa ha _=>⟨ha.1,(Cl.set hi a).mpr ha.2⟩) h7⟩
   ·exact .inr ⟨h3,up h4⟩
 own:=λj hj w h=>by
  have e1:j≠i:=λe=>hi (e▸hj)
  rw[qV e1]at h
  exact r.own j hj w h
 inj:=λj k a hj hk h1 h2=>by
  have e1:j≠i:=λe=>hi (e▸hj)
  have e2:k≠i:=λe=>hi (e▸hk)
  rw[qV e1]at h1
  rw[qV e2]at h2
  exact r.inj j k a hj hk h1 h2
 b0:=r.b0
 kp:=r.kp
 dm:=r.dm
 pO:=r.pO
 ps:=λj hj=>by
  have e:j≠i:=λe=>hi (e▸r.pO j hj)
  rw[qV e];exact r.ps j hj
theorem GrS.set{O:List Nat}{σ:St}{H:Hp}{i:Nat}{v:Option V}(hi:i ∉ O):GrS O σ H (σ.set i v) H:=⟨Ext.refl,λb h _=>(Cl.set hi b).mpr h,λ_ h=>h⟩
def jk(i:Nat)(f:M D):MS:=sbnd f λd Z => .ok (.nx (Z.set i (some d)))
theorem ja {i:Nat} {x:Str} {pos':Pos} {f:M D} (hN:X.N.Nodup) (he:DE X c e f) (ho:i ∉ c.O:=by exact of_decide_eq_false rfl) (hi:X.N[i]? = some x:=by rfl) (hx:Loc X.env.scope x:=by first|exact ybn rfl|exact yaY rfl) (hs:ydp e (some (.Name x pos')) pos.line X.env=pure false:=by rfl) (hf:X.fn x=true\/X.env.scope.names.lookup x=some .local:=by first|exact .inl rfl|exact .inr rfl|assumption) :
  DS X c (.Assign [.Name x pos'] e pos) (jk i f):=by
 obtain⟨t,p,w⟩:=he
 refine⟨_,qdK hN hi hx p hs hf,λZ σ H D r h=>w Z σ H _ r (Wp.sbnd h λd Z1 v H1 r1 i1 g1 h1=>?_)⟩
 exact h1 _ H1 (r1.set ho i1) (.set ho)
def DG (X:Cx) (c:Fc) (tg:Expr) (f:D->Env->Option Env):Prop:=∃g,PG X tg g/\∀Z σ H d v Z' (N:St->Hp->Prop),Rep X.K c Z σ H->Is X.K (Cn c σ) H d v->f d Z=some Z' ->
 (∀σ',Rep X.K c Z' σ' H->GrS c.O σ H σ' H->(∀j∈c.O,σ'[j]? = σ[j]?)->N σ' H)->g v σ H N
def qg(i:Nat):D->Env->Option Env:=λd Z=>some (Z.set i (some d))
theorem qA {i:Nat} {x:Str} (hN:X.N.Nodup) (ho:i ∉ c.O:=by exact of_decide_eq_false rfl) (hi:X.N[i]? = some x:=by rfl) (hx:Loc X.env.scope x:=by first|exact ybn rfl|exact yaY rfl) (hf:X.fn x=true\/X.env.scope.names.lookup x=some .local:=by first|exact .inl rfl|exact .inr rfl|assumption) {p:Pos}:DG X c (.Name x p) (qg i):=by
 refine⟨_,qhA hN hi hx hf,λZ σ H d v Z' N r h e k=>?_⟩
 cases e
 exact k _ (r.set ho h) (.set ho) λj hj=>qV λe=>ho (e▸hj)
def DGs (X:Cx) (c:Fc) (tgs:List Expr) (f:List D->Env->Option Env):Prop:=∃g,PGs X tgs g/\∀Z σ H ds vs Z' (N:St->Hp->Prop),Rep X.K c Z σ H->IsL X.K (Cn c σ) H ds vs->f ds Z=some Z' ->
 (∀σ',Rep X.K c Z' σ' H->GrS c.O σ H σ' H->(∀j∈c.O,σ'[j]? = σ[j]?)->N σ' H)->g vs σ H N
def ur:List D->Env->Option Env
 | [],Z=>some Z
 |_,_=>none
def qo (f:D->Env->Option Env) (g:List D->Env->Option Env):List D->Env->Option Env
 |d::ds,Z=>(f d Z).bind (g ds)
 |_,_=>none
theorem yS:DGs X c [] ur:=by
 refine⟨_,qhB,λZ σ H ds vs Z' N r h e k=>?_⟩
 cases ds with
 |nil=>
  cases e
  exact⟨h,k σ r .refl λ_ _=>rfl⟩
 |cons d ds=>cases e
theorem qN {tg:Expr} {tgs:List Expr} {f:D->Env->Option Env} {g:List D->Env->Option Env} (h1:DG X c tg f) (h2:DGs X c tgs g)
  (hs:(ybs (tg::tgs) X.env).map (·.2)=ydq tg X.env::(ybs tgs X.env).map (·.2):=by rfl):DGs X c (tg::tgs) (qo f g):=by
 obtain⟨t1,p1,w1⟩:=h1
 obtain⟨t2,p2,w2⟩:=h2
 refine⟨_,qfs p1 p2 hs,λZ σ H ds vs Z' N r h e k=>?_⟩
 cases ds with
 |nil=>cases e
 | cons d ds=>
  obtain⟨v,ws,rfl,i1,i2⟩:=h
  have e':(f d Z).bind (g ds)=some Z':=e
  cases e1:f d Z with
  |none=>rw[e1]at e';cases e'
  |some Z1=>
   rw[e1]at e'
   exact⟨v,ws,rfl,w1 Z σ H d v Z1 _ r i1 e1 λσ1 r1 g1 o1=>w2 Z1 σ1 H ds ws Z' N r1 (g1.isL i2) e' λσ2 r2 g2 o2=>k σ2 r2 (g1.trans g2) λj hj=>(o2 j hj).trans (o1 j hj)⟩
def ut (n:Nat) (g:List D->Env->Option Env):D->Env->Option Env
 |.tup ds,Z=>if ds.length=n then g ds Z else none
 |_,_=>none
theorem vm {es:List Expr} {k n:Nat} {p:Pos} {g:List D->Env->Option Env} (hc:X.calm=true) (h:DGs X c es g) (hn:(ybs es X.env).length=n:=by rfl) (hst:(ybs es X.env).findIdx? (·.1)=none:=by rfl):DG X c (.Tuple es k p) (ut n g):=by
 obtain⟨t,p,w⟩:=h
 refine⟨_,qjv (n:=n) hc p hn hst,λZ σ H d v Z' N r h e q=>?_⟩
 cases d with
 | tup ds=>
  obtain⟨a,xs,rfl,ta,il⟩:=h
  have e':(if ds.length=n then g ds Z else none)=some Z':=e
  by_cases hl:ds.length=n
  ·rw[if_pos hl]at e'
   exact⟨a,xs,rfl,ta.sq,by rw[il.length];exact hl,w Z σ H ds xs Z' N r il e' q⟩
  ·rw[if_neg hl]at e';cases e'
 |_=>cases e
def qgI (f:M D) (g:D->Env->Option Env):MS:=sbnd f λd Z=>match g d Z with
 |some Z' => .ok (.nx Z')
 |none => .bad
theorem qgJ {tg:Expr} {f:M D} {g:D->Env->Option Env} (he:DE X c e f) (hg:DG X c tg g) (hs:ycM [tg] e pos.line X.env=pure false:=by rfl) (hw:ycN [tg] e X.env=pure none:=by rfl) (h1:(ybs [tg] X.env).map (·.2)=[ydq tg X.env]:=by rfl):DS X c (.Assign [tg] e pos) (qgI f g):=by
 obtain⟨t,p,w⟩:=he
 obtain⟨t2,p2,w2⟩:=hg
 refine⟨_,qgE p p2 hs hw h1,λZ σ H D r h=>w Z σ H _ r (Wp.sbnd h λd Z1 v H1 r1 i1 g1 h1=>?_)⟩
 cases e:g d Z1 with
 |none=>rw[e]at h1;exact h1.elim
 |some Z2=>
  rw[e]at h1
  exact w2 Z1 σ H1 d v Z2 _ r1 i1 e λσ' r2 g2 _=>h1 σ' H1 r2 g2
end
section
variable{K:Fr0}
def iiD (g:Int->Int->D):D->D->Option D
 |.int i,.int j=>some (g i j)
 |_,_=>none
def qi8 (C:Int->Int->Bool) (g:Int->Int->D):D->D->Option D
 |.int i,.int j=>if C i j then some (g i j)else none
 |_,_=>none
theorem vn {g:Int->Int->V} {gD:Int->Int->D} (hg:∀A H i j,Is K A H (gD i j) (g i j)):OpS K (iiD gD) (rI0 g):=by
 intro A H x y d v u Q hn ix iy e k
 cases x<;>cases y<;>simp only[iiD]at e<;>try (cases e;done)
 rename_i i j
 cases (yaJ e)
 cases (show v=.int i from ix)
 cases (show u=.int j from iy)
 exact⟨i,j,rfl,rfl,k _ H (zK.refl H) (hg _ _ _ _)⟩
theorem qgK {C:Int->Int->Prop} {CB:Int->Int->Bool} {g:Int->Int->V} {gD:Int->Int->D} (hC:∀i j,CB i j=true->C i j) (hg:∀A H i j,Is K A H (gD i j) (g i j)):OpS K (qi8 CB gD) (rI C g):=by
 intro A H x y d v u Q hn ix iy e k
 cases x<;>cases y<;>simp only[qi8]at e<;>try (cases e;done)
 rename_i i j
 obtain⟨e1,e2⟩:=zj e
 subst e2
 cases (show v=.int i from ix)
 cases (show u=.int j from iy)
 exact⟨i,j,rfl,rfl,hC i j e1,k _ H (zK.refl H) (hg _ _ _ _)⟩
def qlN:D->D->Option D:=iiD λi j => .int (i-j)
theorem qhN:OpS K qlN (rI0 λi j => .int (i-j)):=vn λ_ _ _ _=>rfl
def zR(i:Int):Bool:=decide (-(2 ^ 64)<i)&&decide (i<2 ^ 64)
theorem qaY {i:Int} (h:zR i=true) : -(2 ^ 64)<i/\i<2 ^ 64:=by
 unfold zR at h
 rw[yan]at h
 exact⟨of_decide_eq_true h.1,of_decide_eq_true h.2⟩
def qd8(i j:Int):Bool:=zR i||zR j
theorem qfB {i j:Int} (h:qd8 i j=true):qjD i j:=by
 unfold qd8 at h
 rw[yei]at h
 rcases h with h|h
 ·exact .inl (qaY h)
 ·exact .inr (qaY h)
def qde(i j:Int):Bool:=decide (0<j)&&decide (j<1606938044258990275541962092341162602522202993782792835301376)
theorem qcn {i j:Int} (h:qde i j=true):qjC i j:=by
 unfold qde at h
 rw[yan]at h
 exact⟨of_decide_eq_true h.1,of_decide_eq_true h.2⟩
def qd9:D->D->Option D:=qi8 qde λi j => .int (i/j)
theorem qco:OpS K qd9 (rI qjC λi j => .int (i/j)):=qgK (λ_ _=>qcn) λ_ _ _ _=>rfl
def qbE:D->D->Option D:=qi8 (λ_ j=>decide (0<j)) λi j => .int (i%j)
theorem vo:OpS K qbE (rI (λ_ j=>0<j) λi j => .int (i%j)):=qgK (λ_ _ h=>of_decide_eq_true h) λ_ _ _ _=>rfl
def ltD:D->D->Option D:=iiD λi j => .bl (decide (i<j))
def leD:D->D->Option D:=iiD λi j => .bl (decide (i<=j))
def gtD:D->D->Option D:=iiD λi j => .bl (decide (j<i))
def geD:D->D->Option D:=iiD λi j => .bl (decide (j<=i))
theorem qjZ:OpS K ltD (rI0 λi j => .bl (decide (i<j))):=vn λ_ _ _ _=>rfl
theorem qgL:OpS K leD (rI0 λi j => .bl (decide (i<=j))):=vn λ_ _ _ _=>rfl
theorem qcp:OpS K gtD (rI0 λi j => .bl (decide (j<i))):=vn λ_ _ _ _=>rfl
theorem qj0:OpS K geD (rI0 λi j => .bl (decide (j<=i))):=vn λ_ _ _ _=>rfl
def sc2:D->D->Option Bool
 |.non,.non=>some true|.non,.int _=>some false|.int _,.non=>some false|.non,.bl _=>some false|.bl _,.non=>some false|.non,.str _=>some false|.str _,.non=>some false
 |.int i,.int j=>some (decide (i=j))|.bl i,.bl j=>some (decide (i=j))|.str i,.str j=>some (decide (i=j))
 |.int _,.str _=>some false|.str _,.int _=>some false|.bl _,.str _=>some false|.str _,.bl _=>some false
 |_,_=>none
def eqS(x y:D):Option D:=(sc2 x y).map D.bl
def neS(x y:D):Option D:=(sc2 x y).map λb=>D.bl (!b)
theorem qgM {A:Addr->Prop} {H:Hp} {x y:D} {v u:V} {b:Bool} (ix:Is K A H x v) (iy:Is K A H y u) (e:sc2 x y=some b):qly v u=true/\decide (v=u)=b:=by
 cases x<;>cases y<;>simp only[sc2]at e<;>first
  |(cases e;done)
  |(cases ix;cases iy;cases e;exact⟨rfl,rfl⟩)
  |(cases ix;cases iy;cases e;exact⟨rfl,by simp⟩)
  |(cases ix;cases iy;cases e;exact⟨rfl,by rw[ybt];simp⟩)
theorem qhO:OpS K eqS rEq:=by
 intro A H x y d v u Q hn ix iy e k
 unfold eqS at e
 cases e1:sc2 x y with
 |none=>rw[e1]at e;cases e
 |some b=>
  rw[e1]at e
  cases e
  obtain⟨h1,h2⟩:=qgM ix iy e1
  exact⟨h1,by rw[h2];exact k _ H (zK.refl H) rfl⟩
theorem qhP:OpS K neS rNe:=by
 intro A H x y d v u Q hn ix iy e k
 unfold neS at e
 cases e1:sc2 x y with
 |none=>rw[e1]at e;cases e
 |some b=>
  rw[e1]at e
  cases e
  obtain⟨h1,h2⟩:=qgM ix iy e1
  exact⟨h1,by rw[h2];exact k _ H (zK.refl H) rfl⟩
def yp:D->Bool
 |.non=>true
 |_=>false
theorem qcq {A:Addr->Prop} {H:Hp} {x:D} {v:V} (ix:Is K A H x v):decide (v=V.non)=yp x:=by
 cases x with
 |non=>cases ix;rfl
 |bl b=>cases ix;rfl
 |int i=>cases ix;rfl
 |str s=>cases ix;rfl
 |tup ds=>obtain⟨a,xs,rfl,_⟩:=ix;rfl
 |lst ds=>obtain⟨a,xs,rfl,_⟩:=ix;rfl
 |dic ds=>obtain⟨a,rfl,_⟩:=ix;rfl
 |fz ds=>obtain⟨a,rfl,_⟩:=ix;rfl
 |exc ds=>obtain⟨a,rfl,_⟩:=ix;rfl
def isN(x y:D):Option D:=if yp y then some (.bl (yp x))else none
def qno(x y:D):Option D:=if yp y then some (.bl (!yp x))else none
theorem qbP:OpS K isN (λx y H Q=>y=.non/\Q (.bl (decide (x=.non))) H):=by
 intro A H x y d v u Q hn ix iy e k
 obtain⟨e1,e2⟩:=zj e
 subst e2
 have h:=qcq iy
 rw[e1]at h
 refine⟨of_decide_eq_true h,?_⟩
 rw[qcq ix]
 exact k _ H (zK.refl H) rfl
def ixD:D->D->Option D
 |.tup ds,.int i=>atI ds i
 |.lst ds,.int i=>atI ds i
 |.fz ns,.int i=>(atI ns i).map D.int
 |_,_=>none
theorem IsL.atI {A:Addr->Prop} {H:Hp} {ds:List D} {xs:List V} {i:Int} {d:D} (h:IsL K A H ds xs) (e:L2.atI ds i=some d):∃v,L2.atI xs i=some v/\Is K A H d v:=by
 unfold L2.atI at e |-
 rw[h.length]
 cases e1:ixN ds.length i with
 |none=>rw[e1]at e;cases e
 |some j=>
  rw[e1]at e
  exact h.get e
theorem jx:OpS K ixD (λx y H Q=>qlF K x y H Q\/qlG K x y H Q):=by
 intro A H x y d v u Q hn ix iy e k
 cases x<;>cases y<;>simp only[ixD]at e<;>try (cases e;done)
 ·rename_i ds i
  cases iy
  obtain⟨a,xs,rfl,ta,il⟩:=ix
  obtain⟨w,h1,h2⟩:=il.atI e
  exact .inr ⟨a,xs,i,w,rfl,rfl,ta.sq,h1,k w H (zK.refl H) h2⟩
 ·rename_i ds i
  cases iy
  obtain⟨a,xs,rfl,_,ta,il⟩:=ix
  obtain⟨w,h1,h2⟩:=il.atI e
  exact .inl ⟨a,xs,i,w,rfl,rfl,.inl (.inl ta),h1,k w H (zK.refl H) h2⟩
 ·rename_i ns i
  cases iy
  obtain⟨a,rfl,ta⟩:=ix
  cases e1:L2.atI ns i with
  |none=>rw[e1]at e;cases e
  | some m=>
   rw[e1]at e
   cases e
   have h1:L2.atI (ns.map V.int) i=some (V.int m):=by
    unfold L2.atI at e1 |-
    rw[lM_]
    cases e2:ixN ns.length i with
    |none=>rw[e2]at e1;cases e1
    |some j=>
     rw[e2]at e1
     have e3:ns[j]? = some m:=e1
     show(ns.map V.int)[j]? = some (V.int m)
     rw[gM_,e3];rfl
   exact .inl ⟨a,_,i,.int m,rfl,rfl,ta.sq,h1,k _ H (zK.refl H) rfl⟩
theorem IsL.inv1 {A:Addr->Prop} {H:Hp} {d:D} {vs:List V} (h:IsL K A H [d] vs):∃v,vs=[v]/\Is K A H d v:=by
 obtain⟨x,ys,e1,e2,e3⟩:=h
 have e3':ys=[]:=e3
 exact⟨x,by rw[e1,e3'],e2⟩
theorem IsL.inv2 {A:Addr->Prop} {H:Hp} {d d':D} {vs:List V} (h:IsL K A H [d,d'] vs):∃v w,vs=[v,w]/\Is K A H d v/\Is K A H d' w:=by
 obtain⟨x,ys,e1,e2,e3⟩:=h
 obtain⟨w,e4,e5⟩:=IsL.inv1 e3
 exact⟨x,w,by rw[e1,e4],e2,e5⟩
def qnP:List D->Option D
 | [.int i]=>some (.int (if i<0 then -i else i))
 |_=>none
def qhQ:List D->Option D
 | [.int i,.int j]=>some (.int (if j>i then j else i))
 |_=>none
def qaZ:List D->Option D
 | [.int i,.int j]=>some (.int (if j<i then j else i))
 |_=>none
theorem qea:wY K qhQ (λxs H Q=>∃i j,xs=[.int i,.int j]/\Q (.int (if j>i then j else i)) H):=by
 intro A H xs d vs Q hn h e k
 unfold qhQ at e
 split at e
 ·rename_i i j
  obtain⟨v,w,rfl,e2,e3⟩:=IsL.inv2 h
  cases e2;cases e3;cases e
  exact⟨i,j,rfl,k _ H (zK.refl H) rfl⟩
 ·cases e
theorem qa0:wY K qaZ (λxs H Q=>∃i j,xs=[.int i,.int j]/\Q (.int (if j<i then j else i)) H):=by
 intro A H xs d vs Q hn h e k
 unfold qaZ at e
 split at e
 ·rename_i i j
  obtain⟨v,w,rfl,e2,e3⟩:=IsL.inv2 h
  cases e2;cases e3;cases e
  exact⟨i,j,rfl,k _ H (zK.refl H) rfl⟩
 ·cases e
def vp:List D->Option D
 | [.int i,.int j]=>if qde i j then some (.tup [.int (i/j),.int (i%j)])else none
 |_=>none
theorem qa1:wY K vp (λxs H Q=>∃i j,xs=[.int i,.int j]/\qjC i j/\∀p,H p=none->Q (.ref p) (upd H p (.tup [.int (i/j),.int (i%j)]))):=by
 intro A H xs d vs Q hn h e k
 unfold vp at e
 split at e
 ·rename_i i j
  obtain⟨v,w,rfl,e2,e3⟩:=IsL.inv2 h
  cases e2;cases e3
  obtain⟨e6,e7⟩:=zj e
  subst e7
  exact⟨i,j,rfl,qcn e6,λp hp=>k _ _ (qx hp _) ⟨p,_,rfl,.inl qk,_,_,rfl,rfl,_,_,rfl,rfl,rfl⟩⟩
 ·cases e
def qnp:List D->Option D
 | [.int i]=>some (.int i)
 | [.bl b]=>some (.int (if b then 1 else 0))
 |_=>none
def qbF:List D->Option D
 | [.tup ds]=>some (.int ds.length)
 | [.lst ds]=>some (.int ds.length)
 | [.fz ns]=>some (.int ns.length)
 | [.str x]=>if qD x.length then some (.int x.length)else none
 |_=>none
def qmz(K:Fr0):List V->Hp->VK->Prop:=λxs H Q=>(∃p ys,xs=[.ref p]/\(SqL K H p ys\/SqT K H p ys)/\Q (.int ys.length) H)\/(∃z,xs=[.str z]/\z.length<=yas/\Q (.int z.length) H)
theorem yv{X:Cx}:j8 X (.builtin "len") (qmz X.K):=j8.or qaU qaV
theorem yw:wY K qbF (qmz K):=by
 intro A H xs d vs Q hn h e k
 unfold qbF at e
 split at e
 ·obtain⟨v,rfl,a,zs,rfl,ta,il⟩:=IsL.inv1 h
  cases e
  exact .inl ⟨a,zs,rfl,.inr ta.sq,by rw[il.length];exact k _ H (zK.refl H) rfl⟩
 ·obtain⟨v,rfl,a,zs,rfl,_,ta,il⟩:=IsL.inv1 h
  cases e
  exact .inl ⟨a,zs,rfl,.inl (.inl (.inl ta)),by rw[il.length];exact k _ H (zK.refl H) rfl⟩
 ·obtain⟨v,rfl,a,rfl,ta⟩:=IsL.inv1 h
  cases e
  exact .inl ⟨a,_,rfl,.inl ta.sq,by rw[lM_];exact k _ H (zK.refl H) rfl⟩
 ·rename_i z
  obtain⟨v,rfl,e2⟩:=IsL.inv1 h
  cases e2
  obtain⟨e4,e5⟩:=zj e
  subst e5
  exact .inr ⟨z,rfl,of_decide_eq_true e4,k _ H (zK.refl H) rfl⟩
 ·cases e
def qmA:List D->Option D
 | [.tup ds]=>some (.tup ds)
 | [.lst ds]=>some (.tup ds)
 |_=>none
end
end L2.Sk
namespace L2.Sk
open PySem PySem.Spec PySem.Calls PyProof.Rows PySem.W
def qgN(h:Heap)(a D:Addr):Prop:=∃o,h.get? a=some o/\o.cls=.ref D
theorem qgN.looks {M:Model} {h:Heap} {a D:Addr} (I:qgN h a D):Looks M h (typeOf (.ref a)) (.ref D):=by
 obtain⟨o,h1,h2⟩:=I
 rw[<-h2]
 exact(Looks.ld h1).andThen .now
section
variable{prog:yaj}{w:World}{A:yam}{E:Value->yab->Prop}{K:Frag}{h:Heap}{g:Array yd1}{d:Drawn}{t:Nat}{os:OsState}{a D:Addr}
theorem qj1 (hm:mroIn K D (.type "object")=some true) {tp:Value} {R:yds->yab->Prop} (X:K.In h) (I:qgN h a D) (hq:R (.ok (.ret (.ref D))) ⟨h,g,d,t,os⟩) :
  ybz (model prog w) A (.call (.builtin "getset_descriptor.__get__") ⟨[.builtin "object.__class__",.ref a,tp],[]⟩) R ⟨h,g,d,t,os⟩:=by
 have L0:=I.looks (M:=model prog w)
 have L1:=looks_mroIn (M:=model prog w) X hm
 have hT5:(⟨h,g,d,t,os⟩:yab).TypeIs (.builtin "object.__class__") "getset_descriptor":=ycZ
 refine yc8 F.slot_gs_get.plain F.entry_gs_get (F.slot_gs_get.check _ _ _ _ _ _ _ _ hT5 (F.args_gs_get _ _ _) ?_)
 have eo:".".intercalate ("object.__class__".cutAt '.').dropLast="object":=by decide +kernel
 repeat (any_goals (first|assumption|with_reducible refine L0.at ?_|with_reducible refine L1.at ?_|wp_step))
 rw[eo]
 refine L1.at ?_
 repeat (any_goals (first|assumption|with_reducible refine L0.at ?_|wp_step))
 refine⟨yfk _ (by decide +kernel),ybg F.entry_object_class ?_⟩
 repeat (any_goals (first|assumption|with_reducible refine L0.at ?_|wp_step))
theorem qfC (ha:findIn K (.ref D) "__class__"=some (some (.builtin "object.__class__"))) (hm:mroIn K D (.type "object")=some true) {tk:Tok} {Q:Fin->yab->Prop} (X:K.In h) (I:qgN h a D) (hq:Q (.done (.ret (.ref D))) ⟨h,g,d,t,os⟩) :
  wpAny (model prog w) A (yba.«object.__getattribute__» ⟨[.ref a,.str "__class__" tk],[]⟩) Q E ⟨h,g,d,t,os⟩:=by
 have L0:=I.looks (M:=model prog w)
 have L1:=looks_findIn (M:=model prog w) X ha
 have hT5:(⟨h,g,d,t,os⟩:yab).TypeIs (.builtin "object.__class__") "getset_descriptor":=ycZ
 have f5:=ycZ
 have f6:=F.slot_gs_get.lookup
 have f7:=F.slot_gs_set.lookup
 repeat (any_goals (first|assumption|with_reducible refine L0.at ?_|with_reducible refine L1.at ?_|wp_step))
 refine qj1 hm X I ?_
 repeat (any_goals (first|assumption|wp_step))
theorem qfD (hb:Looks (model prog w) h (isSubtype (.ref D) (.type "BaseException")) true) {nameV:Value} {Q:Unit->yab->Prop} (I:qgN h a D) (hq:Q () ⟨h,g,d,t,os⟩):wpAny (model prog w) A (yd5 "BaseException.__getattribute__" ⟨[.ref a,nameV],[]⟩) Q E ⟨h,g,d,t,os⟩:=by
 have hk:builtinKind "BaseException.__getattribute__"=some .slot:=by decide +kernel
 have hsplit:splitId "BaseException.__getattribute__"=some ("BaseException","__getattribute__"):=by decide +kernel
 have L0:=I.looks (M:=model prog w)
 have ha:=F.args_bexc_ga (.ref a) nameV
 simp only[yd5,hk,hsplit]
 refine yaa ?_
 ·unfold isInstance
  repeat (first|with_reducible refine L0.at ?_|with_reducible refine hb.at ?_|wp_step)
  exact hq
theorem qlO (FA:ExcAttrFacts "ValueError") (hga:findIn K (.ref D) "__getattribute__"=some (some (.builtin "BaseException.__getattribute__"))) (hgt:findIn K (.ref D) "__getattr__"=some none) (ha:findIn K (.ref D) "__class__"=some (some (.builtin "object.__class__"))) (hm:mroIn K D (.type "object")=some true)
  (hb:Looks (model prog w) h (isSubtype (.ref D) (.type "BaseException")) true) {tk:Tok} {fill expr:Bool} {Q:Value->yab->Prop} (X:K.In h) (I:qgN h a D) (hq:Q (.ref D) ⟨h,g,d,t,os⟩) :
  wpAny (model prog w) A (getAttrBy (.ref a) (.str "__class__" tk) fill expr) Q E ⟨h,g,d,t,os⟩:=by
 have L0:=I.looks (M:=model prog w)
 have L1:=looks_findIn (M:=model prog w) X hga
 have L2:=looks_findIn (M:=model prog w) X hgt
 have f3:=FA.ga.bind (.ref a)
 have hx0:(expr&&onTheHeap (ycO "BaseException.__getattribute__"))=false:=by cases expr<;>rfl
 have hx2:(ycO "BaseException.__getattribute__"==ycO "object.__getattribute__")=false:=by decide +kernel
 have hx1:(onTheHeap (yae D)&&ycO "BaseException.__getattribute__"==ycO "object.__getattribute__")=false:=by rw[hx2];rfl
 repeat (any_goals (first|assumption|with_reducible refine L0.at ?_|with_reducible refine L1.at ?_|with_reducible refine L2.at ?_|wp_step))
 refine yc8 FA.ga.plain F.entry_bexc_ga (qfD hb I (qfC ha hm X I ?_))
 repeat (any_goals (first|assumption|wp_step))
theorem qhR (FA:ExcAttrFacts "ValueError") (hga:findIn K (.ref D) "__getattribute__"=some (some (.builtin "BaseException.__getattribute__"))) (hgt:findIn K (.ref D) "__getattr__"=some none) (ha:findIn K (.ref D) "__class__"=some (some (.builtin "object.__class__"))) (hm:mroIn K D (.type "object")=some true)
  (hb:Looks (model prog w) h (isSubtype (.ref D) (.type "BaseException")) true) {Q:Option Value->yab->Prop} (X:K.In h) (I:qgN h a D) (hq:Q (some (.ref D)) ⟨h,g,d,t+1,os⟩) :
  wpAny (model prog w) A (getAttr? (.ref a) "__class__") Q E ⟨h,g,d,t,os⟩:=by
 unfold getAttr? getAttrBy?
 repeat (any_goals (first|assumption|with_reducible apply qlO FA hga hgt ha hm hb X I|wp_step))
end
theorem qfE {K:Frag} {a D:Addr} (c:XK6 K D):KitX K (.ref a) (.ref D) (λh=>qgN h a D) where
 ty:=λ_ _ _ I=>I.looks
 it := λ_ _ X _=>by
  obtain⟨cdD,hcD⟩:=Option.isSome_iff_exists.mp c.is
  unfold clsIn at hcD
  split at hcD
  ·rename_i c' d' cd' sl' ho
   intro A' Q' E' s' k q
   unfold isType loadHead
   exact yaa (wpAny_loadPart (k _ _ (X _ _ ho)) (yac q))
  ·cases hcD
 ne := λh tp dd its n sl X htp=>by
  obtain⟨cdD,hcD⟩:=Option.isSome_iff_exists.mp c.is
  refine Bool.eq_false_iff.mpr λq=>?_
  have e:D=tp:=ydF (beq_iff_eq.mp q)
  subst e
  unfold clsIn at hcD
  split at hcD
  ·rename_i c' d' cd' sl' ho
   have z:=(X _ _ ho).symm.trans htp
   cases z
  ·cases hcD
 ca:=λ{prog w A E Q s} X p k=>by
  have I:=p
  obtain⟨h,g,d,t,os⟩:=s
  exact qhR PySem.F.attrBase_ValueError.toExcAttrFacts c.ga c.gt c.cl c.ob (looks_subIn X c.be) X I k
theorem ww {X:Cx} {pins:List (Addr×Obj)} {σ:St} {H:Hp} {s:yab} {A:yam} {E:Value->yab->Prop} {Q:Value->yab->Prop} {a C:Addr} {c:Value} {b:Bool} (I:Inv X pins σ H s) (xc:XK6 X.K C) (hH:∃o vs,H a=some (.frz o (.own a))/\o.cls=.ref C/\o.data=.fields vs)
  (e:kitOne X.K (.ref C) c=some b) (h:∀tk,Q (.bool b) {s with toks:=tk}):wpAny (model X.prog X.w) A (call (.builtin "isinstance") [.ref a,c]) Q E s:=by
 obtain⟨o,vs,h1,h2,_⟩:=hH
 obtain⟨p,_⟩:=(show jj X.prog X.w H s.heap a (.frz o (.own a))from I.hok a _ h1)
 exact kia_one (qfE xc) I.kIn ⟨o,p,h2⟩ e (λz=>nomatch z) h
end L2.Sk
namespace L2.Sk
open PySem PySem.Spec PyProof.Rows
def tyD:D->String
 |.non=>"NoneType"
 |.bl _=>"bool"
 |.int _=>"int"
 |.str _=>"str"
 |.tup _=>"tuple"
 |.lst _=>"list"
 |.dic _=>"dict"
 |.fz _=>"list"
 |.exc _=>"exc"
def qbQ(t T:String):Bool:=t==T||(t=="bool"&&T=="int")
def qdf:List String:=["NoneType","bool","int","str","tuple","list","dict"]
theorem qhS (d:D) (h:∀C,d ≠ .exc C):tyD d∈qdf:=by
 cases d<;>first|(simp[tyD,qdf];done)|exact absurd rfl (h _)
structure qi9 (K:Fr0) (T:String):Prop where
 ok:∀t∈qdf,yeB K (.type t) (.type T)=some (qbQ t T)
 ex:T∈["int","bool","str","tuple","list","dict"]
 nx:qbQ "exc" T=false
theorem qhT {K:Fr0}:qi9 K "int":=⟨λt ht=>by
 simp only[qdf,yav,nN_,or_false]at ht
 rcases ht with rfl|rfl|rfl|rfl|rfl|rfl|rfl<;>kernel_rfl,by decide,by decide⟩
theorem qfF {K:Fr0}:qi9 K "bool":=⟨λt ht=>by
 simp only[qdf,yav,nN_,or_false]at ht
 rcases ht with rfl|rfl|rfl|rfl|rfl|rfl|rfl<;>kernel_rfl,by decide,by decide⟩
theorem qa2 {K:Fr0}:qi9 K "tuple":=⟨λt ht=>by
 simp only[qdf,yav,nN_,or_false]at ht
 rcases ht with rfl|rfl|rfl|rfl|rfl|rfl|rfl<;>kernel_rfl,by decide,by decide⟩
section
variable{X:Cx}{pins:List (Addr×Obj)}{σ:St}{H:Hp}{s:yab}{A:Addr->Prop}{E:Value->yab->Prop}{Q:Value->yab->Prop}
theorem qj2 {d:D} {v:V} {u:Value} {T:String} (I:Inv X pins σ H s) (h:Is X.K A H d v) (rv:zJ v u) (kt:qi9 X.K T) (hQ:∀tk,Q (.bool (qbQ (tyD d) T)) {s with toks:=tk}) :
  wpAny (model X.prog X.w) X.A (call (.builtin "isinstance") [u,.type T]) Q E s:=by
 by_cases hx:∃C,d=.exc C
 ·obtain ⟨C,rfl⟩:=hx
  obtain⟨a,rfl,xa⟩:=h
  cases (show u=yae a from rv)
  have q:∀tk,Q (.bool false) {s with toks:=tk}:=λtk=>by
   have:=hQ tk
   rw[show tyD (.exc C)="exc" from rfl,kt.nx]at this
   exact this
  obtain⟨D0,h0,h1,h2⟩:=xa
  exact ww I h1 h2 (h1.no T kt.ex) q
 have e:=kt.ok (tyD d) (qhS d λC hC=>hx ⟨C,hC⟩)
 cases d with
 |exc C=>exact absurd ⟨C,rfl⟩ hx
 |non=>cases h;exact j9 I rv .non e hQ
 |bl b=>cases h;exact j9 I rv (.bl b) e hQ
 |int i=>cases h;exact j9 I rv (.int i) e hQ
 |str x=>cases h;exact j9 I rv (.str x) e hQ
 |tup ds=>
  obtain⟨a,xs,rfl,ta,il⟩:=h
  cases (show u=yae a from rv)
  obtain⟨its,r,p,z⟩:=I.tuple ta.sq
  obtain⟨o,h1,h2,_⟩:=p
  exact yaU yfa I.kIn ⟨o,h1,h2⟩ e (λz=>nomatch z) hQ
 |lst ds=>
  obtain⟨a,xs,rfl,hA,ta,il⟩:=h
  exact j9 I rv (.lst ta) e hQ
 |dic kvs=>
  obtain⟨a,rfl,hA,ta⟩:=h
  exact j9 I rv (.dK ta) e hQ
 |fz ns=>
  obtain⟨a,rfl,ta⟩:=h
  cases (show u=yae a from rv)
  obtain⟨its,r,p,z⟩:=I.list ta.sq
  obtain⟨o,h1,h2,_⟩:=p.isList
  exact yaU ydM I.kIn ⟨o,h1,h2⟩ e (λz=>nomatch z) hQ
end
def qhU(T:String)(f:M D):M D:=bnd f λd=>ret (.bl (qbQ (tyD d) T))
section
variable{X:Cx}{c:Fc}{a b e:Expr}{pos:Pos}
def qnq(K:Fr0)(T:String):List V->Hp->VK->Prop:=λxs H Q=>∃v d A,xs=[v,.ty T]/\Is K A H d v/\Q (.bl (qbQ (tyD d) T)) H
theorem qfG {T:String} (kt:qi9 X.K T):j8 X (.builtin "isinstance") (qnq X.K T):=by
 intro pins s σ H xs us Q I r h
 obtain⟨v,d,A,rfl,hi,q⟩:=h
 obtain⟨u,w,rfl,r1,r2⟩:=qO.two r
 cases (show w=yaP T from r2)
 exact qj2 I hi r1 kt λtk=>⟨.bl _,H,I.tok tk,rfl,q⟩
theorem qcr {T:String} {x:Str} {p p2:Pos} {f:M D} (kt:qi9 X.K T) (hg:Gl X "isinstance") (hm:X.mg "isinstance"=none) (hg2:Gl X x) (hm2:X.mg x=none) (hv2:yaB x=some (.type T)) (ha:DE X c a f)
  (hv:yaB "isinstance"=some (.builtin "isinstance"):=by first|rfl|exact PySem.boot_isinstance) (hn2:x≠"__name__":=by decide) (hdb2:(x==("__debug__":Str))=false:=by decide)
  (he:yad [a,.Name x p2] X.env=(false,eval a X.env)::yad [.Name x p2] X.env:=by rfl) (hpl:(yaI pos (yad [.Name x p2] X.env)).any (·.1)=false:=by rfl):DE X c (.Call (.Name "isinstance" p) [a,.Name x p2] [] pos) (qhU T f):=by
 obtain⟨t,pa,w⟩:=ha
 refine⟨_,u4 (qfG kt) hg hm hv (jc pa (jc (qdI (v:=.ty T) hg2 hm2 hv2 rfl hn2 hdb2) uN (by rfl)) he) (by decide) (by decide) he hpl,λZ σ H Q r h=>w Z σ H _ r (Wp.bnd h λd Z1 v H1 r1 i1 g1 h1=>?_)⟩
 exact⟨v,d,_,rfl,i1,h1 _ H1 r1 rfl .refl⟩
end
def y9:List D->Option (List Bool)
 | []=>some []
 |.bl b::r=>(y9 r).map (b::·)
 |_=>none
def jZ:List D->Option (List Int)
 | []=>some []
 |.int i::r=>(jZ r).map (i::·)
 |_=>none
theorem vq {K:Fr0} {A:Addr->Prop} {H:Hp}:∀{ds:List D}{xs:List V}{bs:List Bool},IsL K A H ds xs->y9 ds=some bs->xs=bs.map V.bl
 | [],_,_,h,e=>by cases e;exact h
 | .bl b::r,_,bs,⟨x,ys,hx,h1,h2⟩,e=>by
  cases h1
  cases e1:y9 r with
  |none=>simp[y9,e1]at e
  |some l=>
   simp[y9,e1]at e
   subst e
   rw[hx,vq h2 e1];rfl
 |.non::_,_,_,_,e=>by cases e
 |.int _::_,_,_,_,e=>by cases e
 |.str _::_,_,_,_,e=>by cases e
 |.tup _::_,_,_,_,e=>by cases e
 |.lst _::_,_,_,_,e=>by cases e
 |.dic _::_,_,_,_,e=>by cases e
 |.fz _::_,_,_,_,e=>by cases e
 |.exc _::_,_,_,_,e=>by cases e
theorem uv {K:Fr0} {A:Addr->Prop} {H:Hp}:∀{ds:List D}{xs:List V}{bs:List Int},IsL K A H ds xs->jZ ds=some bs->xs=bs.map V.int
 | [],_,_,h,e=>by cases e;exact h
 | .int b::r,_,bs,⟨x,ys,hx,h1,h2⟩,e=>by
  cases h1
  cases e1:jZ r with
  |none=>simp[jZ,e1]at e
  |some l=>
   simp[jZ,e1]at e
   subst e
   rw[hx,uv h2 e1];rfl
 |.non::_,_,_,_,e=>by cases e
 |.bl _::_,_,_,_,e=>by cases e
 |.str _::_,_,_,_,e=>by cases e
 |.tup _::_,_,_,_,e=>by cases e
 |.lst _::_,_,_,_,e=>by cases e
 |.dic _::_,_,_,_,e=>by cases e
 |.fz _::_,_,_,_,e=>by cases e
 |.exc _::_,_,_,_,e=>by cases e
theorem qfH {bs:List Bool}:∀{us:List Value},qO (bs.map V.bl) us->LSm.BoolsAre us bs:=by
 induction bs with
 |nil=>intro us r;rw[ycv]at r;cases r;exact .nil
 | cons b bs ih=>
  intro us r
  rw[mC_]at r
  cases r with
  |cons r1 r2=>
   cases (show _=ybb b from r1)
   exact .cons b (ih r2)
section
variable{X:Cx}
theorem qfI (hc:X.calm=true):j8 X (.builtin "all") (λxs H Q=>∃(p:Addr)(bs:List Bool),xs=[.ref p]/\H p=some (.lst (bs.map V.bl))/\Q (.bl (bs.all id)) H):=by
 intro pins s σ H xs us Q I r h
 obtain⟨p,bs,rfl,hp,q⟩:=h
 obtain⟨u,rfl,ru⟩:=qO.one r
 cases ru
 obtain⟨its,rv,pl,hz⟩:=I.list (SqL.of hp)
 have hl:=pl.isList
 have hb:=qfH rv
 have hlt:p<s.heap.objs.size:=by obtain⟨_,e,_⟩:=hl;exact yaf e
 refine call_all_walk (ybQ hl ?_)
 refine ⟨s.heap.objs.size,[s.heap.objs.size,p],[s.heap.objs.size],its.toArray.size,_,_,λi=>(bs[i]?).getD true,rfl,Walks.list (A:=X.A.in1) (I.ok.hd hc) _ p (yar hlt) its.toArray,
  ⟨⟨_,Heap.get?_push_size _ rfl,rfl,rfl⟩,hl.push _⟩,λi v s' Q' E' hP hQ=>?_,λh' tk hk=>?_⟩
 ·obtain⟨b,e,rfl⟩:=hb.get i v (by simpa using hP)
  simp only[e,Option.getD_some]at hQ
  exact yby hQ
 ·have e:((yat its.toArray.size).all λi=>(bs[i]?).getD true)=bs.all id:=by
   rw[sT_,hb.length];exact LSm.range_all bs
  rw[e]
  exact⟨.bl _,H,I.kept (LSm.kept_iter hk),rfl,q⟩
theorem qfJ (hc:X.calm=true):j8 X (.builtin "sum") (λxs H Q=>∃(p:Addr)(ns:List Int),xs=[.ref p]/\H p=some (.lst (ns.map V.int))/\Q (.int ns.sum) H):=by
 intro pins s σ H xs us Q I r h
 obtain⟨p,ns,rfl,hp,q⟩:=h
 obtain⟨u,rfl,ru⟩:=qO.one r
 cases ru
 obtain⟨its,rv,pl,hz⟩:=I.list (SqL.of hp)
 have hl:=pl.isList
 have hi:ybF its ns:=wo rv
 obtain⟨zs,hx⟩:=hi.allInts.items
 have hl':s.heap.IsList p (intItems zs):=hx▸hl
 refine sum_intListG (I.ok.hd hc) hl' λh' tk t' hk=>?_
 have e1:ns=zs.toList.map (·.1):=by
  rw[<-nums_intItems,<-hx]
  exact(show numsOf its.toArray.toList=ns from hi.numsOf).symm
 have e2:preSum (numAt zs) zs.size=ns.sum:=by
  rw[preSum_eq,List.take_of_length_le (by simp),e1]
 rw[e2]
 exact⟨.int _,H,I.kept hk,⟨_,rfl⟩,q⟩
end
def qja:List D->Option D
 | [.lst ds]=>(y9 ds).map λbs => .bl (bs.all id)
 |_=>none
def qj3:List D->Option D
 | [.lst ds]=>(jZ ds).map λbs => .int bs.sum
 |_=>none
section
variable{K:Fr0}
theorem qeb:wY K qja (λxs H Q=>∃(p:Addr)(bs:List Bool),xs=[.ref p]/\H p=some (.lst (bs.map V.bl))/\Q (.bl (bs.all id)) H):=by
 intro A H xs d vs Q hn h e k
 unfold qja at e
 split at e
 ·obtain⟨v,rfl,a,zs,rfl,_,ta,il⟩:=IsL.inv1 h
  obtain⟨bs,h1,h2⟩:=Option.map_eq_some_iff.mp e
  subst h2
  rw[vq il h1]at ta
  exact⟨a,bs,rfl,ta,k _ H (zK.refl H) rfl⟩
 ·cases e
theorem qec:wY K qj3 (λxs H Q=>∃(p:Addr)(ns:List Int),xs=[.ref p]/\H p=some (.lst (ns.map V.int))/\Q (.int ns.sum) H):=by
 intro A H xs d vs Q hn h e k
 unfold qj3 at e
 split at e
 ·obtain⟨v,rfl,a,zs,rfl,_,ta,il⟩:=IsL.inv1 h
  obtain⟨bs,h1,h2⟩:=Option.map_eq_some_iff.mp e
  subst h2
  rw[uv il h1]at ta
  exact⟨a,bs,rfl,ta,k _ H (zK.refl H) rfl⟩
 ·cases e
end
section
variable{X:Cx}
def qgO(K:Fr0):R2:=λx y H Q=>∃a b ys,x=.ref a/\y=.ref b/\SqT K H a []/\SqT K H b ys/\Q (.ref b) H
theorem qfK:OpR X (ybq .Add) (qgO X.K):=by
 intro pins s σ H x y v u Q I rx ry h
 obtain⟨a,b,ys,rfl,rfl,ha,hb,q⟩:=h
 cases rx
 cases ry
 obtain⟨its,r1,p1,_⟩:=I.tuple ha
 obtain⟨its2,r2,p2,_⟩:=I.tuple hb
 cases r1
 obtain⟨⟨cls,dd,data,sl⟩,ho,hc,n,hd⟩:=id p1
 obtain⟨⟨cls2,dd2,data2,sl2⟩,ho2,hc2,n2,hd2⟩:=id p2
 simp only at hc hd hc2 hd2
 subst hc hd hc2 hd2
 exact yfg ⟨_,ho,rfl⟩ ⟨_,ho2,rfl⟩ yd4 yeY ycJ ycD (ycu _ _)
   (tuple_addW0 a b [].toArray its2.toArray n n2 dd dd2 sl sl2 (by simp)) ⟨ho,ho2,⟨.ref b,H,I,rfl,q⟩⟩
def qj4(K:Fr0):R2:=λx y H Q=>(∃i j,x=.int i/\y=.int j/\Q (.int (i+j)) H)\/((∃i j,x=.str i/\y=.str j/\i.length+j.length<=yas/\Q (.str (i++j)) H)\/(qgO K x y H Q\/(qjM K x y H Q\/qmw x y H Q)))
theorem zk:OpR X (ybq .Add) (qj4 X.K):=OpR.or qjE (OpR.or qda (OpR.or qfK (OpR.or qhH qjS)))
end
def zw:D->D->Option D
 |.int i,.int j=>some (.int (i+j))
 |.str x,.str y=>if qD (x.length+y.length)then some (.str (x++y))else none
 |.tup xs,.tup ys=>if qD (xs.length+ys.length)then some (.tup (xs++ys))else none
 |.lst xs,.lst ys=>if qD (xs.length+ys.length)then some (.lst (xs++ys))else none
 |_,_=>none
theorem zl {K:Fr0}:OpS K zw (qj4 K):=by
 intro A H x y d v u Q hn ix iy e k
 cases x<;>cases y<;>simp only[zw]at e<;>try (cases e;done)
 ·rename_i i j
  cases ix;cases iy;cases e
  exact .inl ⟨i,j,rfl,rfl,k _ H (zK.refl H) rfl⟩
 ·rename_i i j
  cases ix;cases iy
  obtain⟨e1,e2⟩:=zj e
  subst e2
  exact .inr (.inl ⟨i,j,rfl,rfl,of_decide_eq_true e1,k _ H (zK.refl H) rfl⟩)
 ·rename_i ds es
  obtain⟨a,xs,rfl,ta,il⟩:=ix
  obtain⟨b,ys,rfl,tb,jl⟩:=iy
  obtain⟨e1,e2⟩:=zj e
  subst e2
  have hs:xs.length+ys.length<=yas:=by rw[il.length,jl.length];exact of_decide_eq_true e1
  refine .inr (.inr ?_)
  cases ds with
  |nil=>
   have hx:xs=[]:=il
   subst hx
   exact .inl ⟨a,b,ys,rfl,rfl,ta.sq,tb.sq,k _ H (zK.refl H) ⟨b,ys,rfl,tb,jl⟩⟩
  | cons d0 ds=>
   refine .inr (.inl ⟨a,b,xs,ys,rfl,rfl,ta.sq,tb.sq,?_,hs,λhy=>?_,λhy p hp=>?_⟩)
   ·obtain⟨x,zs,hx,_⟩:=il
    rw[hx];simp
   ·subst hy
    cases es with
    |nil=>rw[yaK]at k;exact k _ H (zK.refl H) ⟨a,xs,rfl,ta,il⟩
    |cons e0 es=>obtain⟨_,_,hx,_⟩:=jl;cases hx
   ·exact k _ _ (qx hp _) ⟨p,xs++ys,rfl,.inl qk,IsL.ext (Ext.of_same (qx hp _)) (λ_ h _=>h) (IsL.append il jl)⟩
 ·rename_i ds es
  obtain⟨a,xs,rfl,hA,ta,il⟩:=ix
  obtain⟨b,ys,rfl,hB,tb,jl⟩:=iy
  obtain⟨e1,e2⟩:=zj e
  subst e2
  have hs:xs.length+ys.length<=yas:=by rw[il.length,jl.length];exact of_decide_eq_true e1
  exact .inr (.inr (.inr (.inr ⟨a,b,xs,ys,rfl,rfl,ta,tb,hs,λp hp=>k _ _ (qx hp _) ⟨p,xs++ys,rfl,hn p hp,qk,IsL.ext (Ext.of_same (qx hp _)) (λ_ h _=>h) (IsL.append il jl)⟩⟩)))
section
variable{X:Cx}
end
def qlP(xs:List D)(lo hi:Option Int):List D:=(xs.drop (HT.sIx xs.length 0 lo)).take (HT.sIx xs.length xs.length hi-HT.sIx xs.length 0 lo)
def slD (x:D) (lo hi:Option Int):Option D:=match x with
 |.tup ds=>some (.tup (qlP ds lo hi))
 |_=>none
section
variable{X:Cx}{c:Fc}{a b e:Expr}{pos p2:Pos}
def asI:D->Option Int
 |.int i=>some i
 |_=>none
def qj5 (f:M D):M (Option Int):=bnd f λd=>match d with
 |.int i=>ret (some i)
 |_=>λ_ => .bad
def dsl(f:M D)(g k:M (Option Int)):M D:=bnd f λd=>bnd g λl=>bnd k λu=>lift (slD d l u)
end
def qU (X:Cx) (scope:Scope) (N':List Str) (fp:List Addr) (cl:List (Str×Addr)) (C:Addr) (s₀:yab) (H₀:Hp) (pn:List (Addr×Obj)):Cx where
 prog:=X.prog
 w:=X.w
 K:=X.K
 mg:=X.mg
 base:=X.base
 A:=X.A
 N:=N'
 s₀:=s₀
 H₀:=H₀
 env:=yeR scope cl C X.env
 outer:=X.stack
 stack:=X.stack
 ex:=fp
 fn:=λ_=>false
 calm:=X.calm
 pn:=pn
 xe:=λ_ _=>False
def PF (X:Cx) (ifs:List Expr) (t:TT):Prop:=∀(pins:List (Addr×Obj))(s:yab)(σ:St)(H:Hp)(Q:Bool->Hp->Prop),Inv X pins σ H s->t σ H Q ->
 wpAny (model X.prog X.w) X.A (forIn ifs true λc r=>if r=true then do let ok <-isTrue c X.env (eval c X.env);pure (ybu ok)else pure (ybu r)) (TP X pins σ Q) X.xe s
theorem qj6{X:Cx}:PF X [] (λ_ H Q=>Q true H):=λpins s σ H Q I h=>wpAny_tests_nil ⟨H,I,h⟩
theorem qj7{X:Cx}{e:Expr}{t:TT}(h:PT X e t):PF X [e] t:=λpins s σ H Q I hw=>wpAny_tests_one (h pins s σ H Q I hw)
structure jy (X:Cx) (scope:Scope) (N':List Str) (nt:Nat) (fr:List Nat):Prop where
 kind:scope.kind=.function
 nocell:∀y∈scope.names,y.2 ≠ .cell
 names:∀y∈scope.names,y.2=.local->scope.names.lookup y.1=some .local
 frees:∀y∈scope.names,y.2=.free->X.env.kindOf y.1=some .cell
 len:N'.length=nt+fr.length
 slot:∀i j,fr[i]? = some j->∃x,N'[nt+i]? = some x/\X.N[j]? = some x/\scope.names.lookup x=some .free
theorem uw {env:yaN}:∀(names:List (Str×ycR))(cs:List (Str×Addr)),(∀y∈names,y.2=.free->∃a,env.cells.lookup y.1=some a)->(∀n a,cs.lookup n=some a->env.cells.lookup n=some a) ->
  ∃ cl,(forIn names cs λx r=>match x with|(name,kind)=>if(kind==ya0)=true then do let a <-cellOf env name;pure (ybu ((name,a)::r))else pure (ybu r):Sem (List (Str×Addr)))=pure cl /\
   (∀n a,cl.lookup n=some a->env.cells.lookup n=some a)/\(∀n,(∃a,cs.lookup n=some a)->∃a,cl.lookup n=some a)/\∀y∈names,y.2=.free->∃a,cl.lookup y.1=some a
 | [],cs,_,h=>⟨cs,rfl,h,λ_ h=>h,λy hy=>by cases hy⟩
 | (n,k)::r,cs,hf,h=>by
  have hr:∀y∈r,y.2=.free->∃a,env.cells.lookup y.1=some a:=λy hy=>hf y (mM _ hy)
  rw[ycr]
  by_cases hk:k=.free
  ·subst hk
   obtain⟨a,ha⟩:=hf (n,.free) mS_ rfl
   have ha':env.cells.lookup n=some a:=ha
   have hcell:cellOf env n=pure a:=by unfold cellOf;rw[ha']
   obtain ⟨cl,e1,e2,e3,e4⟩:=uw r ((n,a)::cs) hr (λm b hm=>by
    rw[ya4]at hm
    cases e:m==n with
    |true=>rw[e]at hm;cases hm;rw[yej e];exact ha'
    |false=>rw[e]at hm;exact h m b hm)
   refine⟨cl,?_,e2,λm ⟨b,hm⟩=>e3 m ?_,λy hy hyf=>?_⟩
   ·show((if(ya0==ya0)=true then _ else _) >>= _)=_
    rw[if_pos (by rfl),hcell]
    exact e1
   ·rw[ya4]
    cases e:m==n with
    |true=>exact⟨a,rfl⟩
    |false=>exact⟨b,hm⟩
   ·rcases List.mem_cons.mp hy with rfl|hy
    ·exact e3 n ⟨a,by rw[ya4];simp⟩
    ·exact e4 y hy hyf
  ·have hb:(k==ya0)=false:=by simpa using hk
   obtain⟨cl,e1,e2,e3,e4⟩:=uw r cs hr h
   refine⟨cl,?_,e2,e3,λy hy hyf=>?_⟩
   ·show((if(k==ya0)=true then _ else _) >>= _)=_
    rw[hb,if_neg yal]
    exact e1
   ·rcases List.mem_cons.mp hy with rfl|hy
    ·exact absurd hyf hk
    ·exact e4 y hy hyf
theorem ua {env:yaN} {scope:Scope} (hf:∀y∈scope.names,y.2=.free->∃a,env.cells.lookup y.1=some a) :
  ∃cl,closureFor scope env=pure cl/\(∀n a,cl.lookup n=some a->env.cells.lookup n=some a)/\∀y∈scope.names,y.2=.free->∃a,cl.lookup y.1=some a:=by
 obtain⟨cl,e1,e2,_,e4⟩:=uw scope.names [] hf (λn a h=>by cases h)
 refine⟨cl,?_,e2,e4⟩
 unfold closureFor
 show(forIn scope.names [] _ >>= _)=_
 have e5:(forIn scope.names [] λx r=>match x with|(name,kind)=>if(kind==ya0)=true then do let a <-cellOf env name;pure (ybu ((name,a)::r))else pure (ybu r):Sem (List (Str×Addr)))=pure cl:=e1
 first
  |(rw[e5];rfl)
  |(simp only[bind_pure_comp,e5];rfl)
theorem jz {env:yaN}:∀{names:List (Str×ycR)}{x:Str},names.lookup x=some .free->env.scope.kind=.function->env.kindOf x=some .cell ->
  (names.map λ(n,k)=>if(k==ya0&&env.scope.kind == .function&&env.kindOf n==some .cell) then(n,ycP) else(n,k)).lookup x=some .cell
 | [],_,h,_,_=>by simp at h
 | (n,k)::r,x,h,hk,hx=>by
  have ih := @jz env r x
  show List.lookup x ((if(k==ya0&&env.scope.kind == .function&&env.kindOf n==some .cell)=true then(n,ycP) else(n,k))::_)=_
  cases hxn:x==n with
  |true=>
   have e:x=n:=yej hxn
   subst e
   simp only[ya4,hxn]at h
   cases h
   rw[if_pos (by rw[hk,hx];rfl)]
   simp only[ya4,hxn]
  |false=>
   simp only[ya4,hxn]at h
   by_cases hc:(k==ya0&&env.scope.kind == .function&&env.kindOf n==some .cell)=true
   ·rw[if_pos hc];simp only[ya4,hxn];exact ih h hk hx
   ·rw[if_neg hc];simp only[ya4,hxn];exact ih h hk hx
theorem zT {env:yaN}:∀{names:List (Str×ycR)}{x:Str}{q:ycR},(names.map λ(n,k)=>if(k==ya0&&env.scope.kind == .function&&env.kindOf n==some .cell) then(n,ycP) else(n,k)).lookup x=some q ->
  q=.cell\/q=.free->(∀y∈names,y.2 ≠ .cell)->∃k,(x,k)∈names/\k=.free
 | [],_,_,h,_,_=>by simp at h
 | (n,k)::r,x,q,h,hq,hc=>by
  have ih := @zT env r x q
  have h':List.lookup x ((if(k==ya0&&env.scope.kind == .function&&env.kindOf n==some .cell)=true then(n,ycP) else(n,k))::(r.map λ(n,k)=>if(k==ya0&&env.scope.kind == .function&&env.kindOf n==some .cell) then(n,ycP) else(n,k)))=some q:=h
  have hr:∀y∈r,y.2 ≠ .cell:=λy hy=>hc y (mM _ hy)
  by_cases hcd:(k==ya0&&env.scope.kind == .function&&env.kindOf n==some .cell)=true
  ·rw [if_pos hcd]at h'
   cases hxn:x==n with
   |true=>
    have e:x=n:=yej hxn
    subst e
    refine⟨k,mS_,?_⟩
    rw[yan,yan]at hcd
    exact yej hcd.1.1
   |false=>
    simp only[ya4,hxn]at h'
    obtain⟨k',m,e⟩:=ih h' hq hr
    exact⟨k',mM _ m,e⟩
  ·rw [if_neg hcd]at h'
   cases hxn:x==n with
   |true=>
    have e:x=n:=yej hxn
    subst e
    simp only[ya4,hxn]at h'
    cases h'
    rcases hq with rfl|rfl
    ·exact absurd rfl (hc (x,.cell) mS_)
    ·exact⟨.free,mS_,rfl⟩
   |false=>
    simp only[ya4,hxn]at h'
    obtain⟨k',m,e⟩:=ih h' hq hr
    exact⟨k',mM _ m,e⟩
def qv(nt:Nat)(fr:List Nat)(σ:St):St:=yak nt none++fr.map λj=>(σ[j]?).join
def qlQ (X:Cx) (tg:Expr) (ifs:List Expr) (elt:Expr) (scope:Scope) (N':List Str) (wi:TI) (nt:Nat) (fr:List Nat):TE:=λσ H Q=>wi σ H λJ H1=>∀acc fp cl C s₀ H₀ pn,H1 acc=none ->
 ∃(g:TG)(tt:TT)(te:TE),PG (qU X scope N' fp cl C s₀ H₀ pn) tg g/\PF (qU X scope N' fp cl C s₀ H₀ pn) ifs tt/\PE (qU X scope N' fp cl C s₀ H₀ pn) elt te /\
 ∃W:Nat->Nat->St->Hp->Prop,(∃m,W 0 m (qv nt fr σ) (upd H1 acc (.lst []))) /\
 ∀ i m σ' H',W i m σ' H'->(J.stop i H'/\Q (.ref acc) H')\/(J.go i H'/\∀x H'',J.yld i H' x H''->g x σ' H'' λσ2 H2=>tt σ2 H2 λb H3=>
  if b=true then te σ2 H3 λy H4=>∃ys,H4 acc=some (.lst ys)/\ys.length<yas/\∃m',m'<m/\W (i+1) m' σ2 (upd H4 acc (.lst (ys++[y])))else ∃m',m'<m/\W (i+1) m' σ2 H3)
section
variable{X:Cx}{tg iter elt:Expr}{ifs:List Expr}{scope:Scope}{pos:Pos}{wi:TI}{N':List Str}{nt:Nat}{fr:List Nat}
theorem vt {prog:yaj} {w:World} {A:yam} {R:yds->yab->Prop} {s:yab} {it acc:Value} {env:yaN} (I:Nat->yab->Prop)
  (turn : ∀n s,I n s->wpAny (model prog w) A (ybk it) (λr sQ=>match r with
   |none=>R (.ok .next) sQ
   | some v=>wpAny (model prog w) A (ycq tg it v) (λ_ s1'=>wpAny (model prog w) A (ydq tg env v) (λ_ sV=>
     wpAny (model prog w) A (forIn ifs true λc r=>if r=true then do let ok <-isTrue c env (eval c env);pure (ybu ok)else pure (ybu r)) (λok sK=>
      if ok=true then wpAny (model prog w) A (eval elt env) (λx sJ=>
       wpAny (model prog w) A (call (.builtin "list.append") [acc,x]) (λ_ sY=>∃m,m<n/\I m sY) (λ_ _=>False) sJ) (λ_ _=>False) sK
      else ∃m,m<n/\I m sK) (λ_ _=>False) sV) (λ_ _=>False) s1') (λ_ _=>False) sQ) (λ_ _=>False) s)
  (n:Nat) (h:I n s):ybz (model prog w) A (.compLoop (.ListComp elt [⟨tg,iter,ifs,0⟩] scope pos) 0 it acc env) R s:=by
 refine codeAny_loop rfl I (λn s hI=>?_) n h
 show wpAny _ A ((compTurn (.ListComp elt [⟨tg,iter,ifs,0⟩] scope pos) 0 it acc env).onRaise (λx=>do ydu x env;theTreesLotGoes x)) _ _ s
 refine wpAny_noted ?_
 rw[compTurn_list]
 refine yaa (yeX (yaa (ya3 (turn n s hI) (λr sQ h₁=>?_) λ_ _ h'=>h'.elim)))
 cases r with
 |none=>exact yac h₁
 | some v=>
  refine yaa (ya3 h₁ (λ_ s1' hK'=>?_) λ_ _ h'=>h'.elim)
  refine yaa (ya3 hK' (λ_ sV hV=>yaa (ya3 hV (λok sK hJ=>?_) λ_ _ h'=>h'.elim)) λ_ _ h'=>h'.elim)
  cases ok with
  |false=>exact yac ⟨rfl,hJ⟩
  |true=>
   exact yaa (yaa (ya3 hJ (λx sJ hX=>yaa (ya3 hX (λ_ sY hG=>yac (yac ⟨rfl,hG⟩)) λ_ _ h'=>h'.elim)) λ_ _ h'=>h'.elim))
theorem wx {pins:List (Addr×Obj)} {σ:St} {H:Hp} {s:yab} {h₁:Heap} {tk:Nat} {fp:List Addr} {cl:List (Str×Addr)} (S:jy X scope N' nt fr) (I:Inv X pins σ H s) (hfp:∀b∈fp,qaN X pins H b)
  (hex:∀b∈fp,∃o,s.heap.get? b=some o) (cl1:∀n a,cl.lookup n=some a->X.env.cells.lookup n=some a) (cl2:∀y∈scope.names,y.2=.free->∃a,cl.lookup y.1=some a)
  (hns:∃m,h₁.Ns s.heap.objs.size m) (old:∀b o,s.heap.get? b=some o->h₁.get? b=some o) :
  Inv (qU X scope N' fp cl s.heap.objs.size s H (X.pn++pins)) [] (qv nt fr σ) H {s with heap:=h₁,toks:=tk}:=by
 have stkB:∀b∈frs X.stack,b=X.env.locals\/b∈X.fs:=λb hb=>List.mem_cons.mp (I.stkSub b hb)
 have hC:∀b o,s.heap.get? b=some o->b≠s.heap.objs.size:=λb o e=>yar (yaf e)
 obtain⟨m,hn⟩:=hns
 refine ⟨⟨I.ok.mod,S.kind,I.ok.glob,I.ok.blt,yag _,λx y c h1 h2=>I.ok.inj x y c (cl1 x c h1) (cl1 y c h2),λx hx=>?_,λx c hx=>?_,I.ok.hd,I.ok.frames,.inl rfl,λb hb=>⟨?_,λx c hx=>(hfp b hb).2.2.2.2.1 x c (cl1 x c hx)⟩,I.bs,yaF I.ok.bsz I.sz,λb o e hb=>?_,λb hb hb2=>?_,I.stack,I.stkFree⟩,
  rfl,I.bare,Un.kept old,⟨m,hn,λi x v h1 h2 h3=>?_⟩,λx c hx=>?_,I.hok.fresh (yag _),λx c hx=>I.freeC x c (cl1 x c hx),λp hp=>?_,I.hok.kept old,?_⟩
 ·have hx':∃k,(x,k)∈scope.names/\k=.free:=by
   rcases hx with hx|hx
   ·exact zT (env:=X.env) (q:=.cell) hx (.inl rfl) S.nocell
   ·exact zT (env:=X.env) (q:=.free) hx (.inr rfl) S.nocell
  obtain⟨k,m,rfl⟩:=hx'
  exact cl2 (x,.free) m rfl
 ·have hx':false=true:=hx
  cases hx'
 ·obtain⟨o,e⟩:=hex b hb
  exact hC b o e
 ·obtain⟨f0,f1,f2,f3,f4,f5⟩:=hfp b hb
  rcases f3 with z|z
  ·exact I.ok.noex b o e z
  ·exact absurd (yau (yaf e) (yaF I.ok.bsz z)) (ybp _)
 ·obtain⟨f0,f1,f2,f3,f4,f5⟩:=hfp b hb
  rcases stkB b hb2 with z|z
  ·exact f1 z
  ·exact f2 z
 ·-- names
  have hi:nt<=i:=by
   apply ych
   intro hlt
   unfold qv at h2
   rw[List.getElem?_append_left (by simpa using hlt),List.getElem?_replicate]at h2
   split at h2<;>cases h2
  have h2':(fr.map λj=>(σ[j]?).join)[i-nt]? = some (some v):=by
   unfold qv at h2
   rw[List.getElem?_append_right (by simpa using hi),ya7]at h2
   exact h2
  rw[gM_]at h2'
  cases ej:fr[i-nt]? with
  |none=>rw[ej]at h2';cases h2'
  | some j=>
   rw[ej]at h2'
   have hσ:(σ[j]?).join=some v:=by simpa using h2'
   have hσ':σ[j]? = some (some v):=by
    cases e:σ[j]? with
    |none=>rw[e]at hσ;cases hσ
    |some o=>
     rw[e]at hσ
     have:o=some v:=hσ
     rw[this]
   obtain⟨y,hy1,hy2,hy3⟩:=S.slot (i-nt) j ej
   have hii:nt+(i-nt)=i:=by omega
   rw[hii]at hy1
   have exy:y=x:=by
    have h1':N'[i]? = some x:=h1
    rw[h1']at hy1
    exact(yaJ hy1).symm
   subst exy
   have hmem:(y,ya0)∈scope.names:=yaQ hy3
   have hcellk:X.env.kindOf y=some .cell:=S.frees (y,.free) hmem rfl
   obtain⟨m0,hn0,hl0⟩:=I.loc
   obtain⟨u,ru,lk⟩:=hl0 j y v hy2 hσ' (.inr (.inl hcellk))
   refine⟨u,ru,.inr ⟨.inl (jz hy3 I.ok.kind hcellk),?_⟩⟩
   rcases lk with⟨k1,_⟩|⟨_,c,e,z⟩
   ·rw[hcellk]at k1;cases k1
   ·obtain⟨a,ea⟩:=cl2 (y,.free) hmem rfl
    have ea':=cl1 y a ea
    rw[e]at ea'
    cases ea'
    obtain⟨o,ho,hd⟩:=z
    exact⟨c,ea,o,old _ _ ho,hd⟩
 ·obtain⟨v,o,ho,hd⟩:=I.cell x c (cl1 x c hx)
  exact⟨v,o,old _ _ ho,hd⟩
 ·have hp':p∈X.pn++pins:=by
   rcases mA_.mp (show p∈(X.pn++pins)++[]from hp)with z|z
   ·exact z
   ·cases z
  obtain⟨e,n,ne,nf,d⟩:=I.pin p hp'
  refine⟨old _ _ e,n,hC _ _ e,λz=>?_,d⟩
  rcases stkB p.1 z with z|z
  ·exact ne z
  ·exact nf z
 ·show(qv nt fr σ).length=N'.length
  unfold qv
  rw[lA_,ya7,lM_,S.len]
theorem qcs {pins:List (Addr×Obj)} {σ σ':St} {H H':Hp} {s s':yab} {h':Heap} {fp:List Addr} {cl:List (Str×Addr)} (I:Inv X pins σ H s) (hfp:∀b∈fp,qaN X pins H b)
  (J:Inv (qU X scope N' fp cl s.heap.objs.size s H (X.pn++pins)) [] σ' H' s') (sb:ya6 s.heap.objs.size s'.heap h'):Inv X pins σ H' {s' with heap:=h' }:=by
 have hC:H' s.heap.objs.size=none:=J.free
 have u:=J.base
 have big:∀b o,s.heap.get? b=some o->b≠s.heap.objs.size:=λb o e=>yar (yaf e)
 have get':∀b,b≠s.heap.objs.size->h'.get? b=s'.heap.get? b:=λb hb=>sb.2 b hb
 have u2:Un (frs X.stack) fp H H' s.heap h' :=
  ⟨λb o e n hb hx=>(get' b (big b o e)).trans (u.keep b o e n hb hx),λb o e n hb hx=>by
   obtain⟨sl,q⟩:=u.slot b o e n hb hx
   exact⟨sl,(get' b (big b o e)).trans q⟩,u.free,λb o e hx=>by
   obtain⟨o',q⟩:=u.there b o e hx
   exact⟨o',(get' b (big b o e)).trans q⟩,u.tups,u.frzs,u.tbls⟩
 refine I.call' (s':={s' with heap:=h' }) (ch:=fp) J.os u2 (λb o e=>?_) J.bare (λb hb=>?_)
 ·refine(J.hok b o e).stay (λc v hc q=>?_) (λ_ q=>q) λ_ _ q=>q
  refine(get' c ?_).trans q
  rintro rfl
  rcases hc with hc|hc
  ·rw[<-hc,hC]at e;cases e
  ·rw[hC]at hc;cases hc
 ·obtain⟨f0,f1,f2,f3,f4,f5⟩:=hfp b hb
  exact⟨f3,f1,f4,f5⟩
theorem qhV (hc:X.calm=true) (hi:PI X tg iter wi) (S:jy X scope N' nt fr)
  (hs:∀x,ybP iter X.env x=pure x:=by intro _;rfl):PE X (.ListComp elt [⟨tg,iter,ifs,0⟩] scope pos) (qlQ X tg ifs elt scope N' wi nt fr):=by
 intro pins s σ H Q I hw
 obtain⟨cl,hcl,cl1,cl2⟩:=ua (env:=X.env) (scope:=scope) (λy hy hf=>I.ok.has y.1 (.inl (S.frees y hy hf)))
 rw[eval_ListComp]
 refine yd6 (use:=none) rfl hs hcl S.kind S.names (thn (hi pins s σ H _ I hw) λv s1 h1=>thn h1 λitv s2 h2=>?_)
 obtain⟨it,fp,tn,J,H2,e,I2,T,st2,f2,hR⟩:=h2
 subst e
 have hacc:H2 s2.heap.objs.size=none:=I2.hok.fresh (yag _)
 refine yaM (yeS S.nocell (by intro y hy;simp at hy) (λh₁ hns1 hsb1=>?_) S.kind)
 dsimp only at hns1 hsb1 |-
 have I3:Inv X pins σ (upd H2 s2.heap.objs.size (.lst [])) {s2 with heap:=s2.heap.push {cls:=.type "list",dict:=none,data:=.seq ([]:List Value).toArray} } :=
  I2.lnew (t':=s2.toks) (its:=[]) .nil (ya5 _)
 generalize hs3:({s2 with heap:=s2.heap.push {cls:=.type "list",dict:=none,data:=.seq ([]:List Value).toArray} }:yab)=s3 at I3
 have hh3:s2.heap.push {cls:=.type "list",dict:=none,data:=.seq ([]:List Value).toArray}=s3.heap:=by rw[<-hs3]
 rw[hh3]at hns1 hsb1
 have old:∀b o,s3.heap.get? b=some o->h₁.get? b=some o:=λb o q=>hsb1.extBut b o (yar (yaf q)) (Heap.get?_push_of_some _ q)
 have objs2:∀b∈fp,∃o,s2.heap.get? b=some o:=λb hb=>by
  obtain⟨o,q,_⟩:=T.obj 0 _ st2 b hb
  exact⟨o,q⟩
 have keep23:∀b o,s2.heap.get? b=some o->s3.heap.get? b=some o:=λb o q=>by rw[<-hh3];exact Heap.get?_push_of_some _ q
 have fpne:∀b∈fp,b≠s2.heap.objs.size:=λb hb=>by
  obtain⟨o,q⟩:=objs2 b hb
  exact yar (yaf q)
 have f3:∀b∈fp,qaN X pins (upd H2 s2.heap.objs.size (.lst [])) b:=λb hb=>⟨by rw[qh (fpne b hb)];exact(f2 b hb).1,(f2 b hb).2⟩
 have J0:Inv (qU X scope N' fp cl s3.heap.objs.size s3 (upd H2 s2.heap.objs.size (.lst [])) (X.pn++pins)) [] (qv nt fr σ) (upd H2 s2.heap.objs.size (.lst [])) {s3 with heap:=h₁,toks:=s3.toks} :=
  wx S I3 f3 (λb hb=>(objs2 b hb).imp λo q=>keep23 b o q) cl1 cl2 ⟨_,hns1⟩ old
 obtain⟨g,tt,te,hg,hf,he,W,⟨m0,w0⟩,turn⟩:=hR s2.heap.objs.size fp cl s3.heap.objs.size s3 (upd H2 s2.heap.objs.size (.lst [])) (X.pn++pins) hacc
 have T0:tn 0 h₁:=T.keep 0 _ _ st2 λb hb o q=>old b o (keep23 b o q)
 have s3e:∀tk:Nat,({s2 with heap:=h₁,toks:=tk}:yab)={s3 with heap:=h₁,toks:=tk}:=λtk=>by rw[<-hs3]
 have loop:∀tk:Nat,ybz (model X.prog X.w) X.A (.compLoop (.ListComp elt [⟨tg,iter,ifs,0⟩] scope pos) 0 (.ref it) (.ref s2.heap.objs.size) (yeR scope cl s3.heap.objs.size X.env))
   (yf0 (model X.prog X.w) X.A X.xe none (EP X pins σ Q) (.ref s2.heap.objs.size) s3.heap.objs.size) {s3 with heap:=h₁,toks:=tk}:=λtk=>by
  have stat:∀{H':Hp},(∀b∈fp,H' b=none)->∀b∈fp,qaN (qU X scope N' fp cl s3.heap.objs.size s3 (upd H2 s2.heap.objs.size (.lst [])) (X.pn++pins)) [] H' b:=λ{H'} hn b hb=>by
   obtain⟨o,q⟩:=objs2 b hb
   have hbC:b≠s3.heap.objs.size:=yar (yaf (keep23 b o q))
   refine⟨hn b hb,hbC,λz=>?_,.inl hb,λx c hx=>(f2 b hb).2.2.2.2.1 x c (cl1 x c hx),λp hp=>?_⟩
   ·rcases List.mem_cons.mp (I2.stkSub b z)with z|z
    ·exact(f2 b hb).2.1 z
    ·exact(f2 b hb).2.2.1 z
   ·have hp':p∈X.pn++pins:=by
     rcases mA_.mp (show p∈(X.pn++pins)++[]from hp)with z|z
     ·exact z
     ·cases z
    exact(f2 b hb).2.2.2.2.2 p hp'
  have fr0:∀b∈fp,upd H2 s2.heap.objs.size (.lst []) b=none:=λb hb=>(f3 b hb).1
  refine vt (λn s'=>∃i σ' H',Inv (qU X scope N' fp cl s3.heap.objs.size s3 (upd H2 s2.heap.objs.size (.lst [])) (X.pn++pins)) [] σ' H' s'/\tn i s'.heap/\(∀b∈fp,H' b=none)/\W i n σ' H') ?_ m0
   ⟨0,qv nt fr σ,_,J0.tok tk,T0,fr0,w0⟩
  rintro n s4 ⟨i,σ4,H4,J4,st4,fr4,w4⟩
  rcases turn i n σ4 H4 w4 with⟨stop,qn⟩|⟨go,step⟩
  ·refine thn (T.done (qU X scope N' fp cl s3.heap.objs.size s3 (upd H2 s2.heap.objs.size (.lst [])) (X.pn++pins)) rfl rfl rfl hc i [] s4 σ4 H4 _ J4 (stat fr4) st4 stop) λr s5 ⟨hr,J5⟩=>?_
   subst hr
   obtain⟨m5,n5,_⟩:=J5.loc
   refine⟨m5,n5,λh' sb=>⟨.ref s2.heap.objs.size,H4,qcs I3 f3 J5 sb,rfl,qn⟩⟩
  ·refine thn (T.item (qU X scope N' fp cl s3.heap.objs.size s3 (upd H2 s2.heap.objs.size (.lst [])) (X.pn++pins)) rfl rfl rfl hc i [] s4 σ4 H4 _ J4 (stat fr4) st4 go) λr s5 ⟨u,hr,h5⟩=>?_
   subst hr
   refine thn h5 λ_ s6 ⟨x,H6,J6,r6,y6,st6,fr6⟩=>?_
   have J6':=J6.pinned (stat fr6) (T.obj _ _ st6)
   have again:∀{σ7:St}{H7:Hp}{s7:yab},Inv (qU X scope N' fp cl s3.heap.objs.size s3 (upd H2 s2.heap.objs.size (.lst [])) (X.pn++pins)) ([]++wm fp s6.heap) σ7 H7 s7->(∃m',m'<n/\W (i+1) m' σ7 H7) ->
     ∃m,m<n/\∃i σ' H',Inv (qU X scope N' fp cl s3.heap.objs.size s3 (upd H2 s2.heap.objs.size (.lst [])) (X.pn++pins)) [] σ' H' s7/\tn i s7.heap/\(∀b∈fp,H' b=none)/\W i m σ' H':=λ{σ7 H7 s7} I7 hm=>by
    obtain⟨m',hm,w7⟩:=hm
    refine⟨m',hm,i+1,σ7,H7,I7.unpinned,T.keep _ _ _ st6 λb hb o q=>(I7.pin (b,o) (mr_ _ (mr_ _ (jq hb q)))).1,λb hb=>?_,w7⟩
    obtain⟨o,q,d⟩:=T.obj _ _ st6 b hb
    exact(I7.pin (b,o) (mr_ _ (mr_ _ (jq hb q)))).2.1
   refine thn (hg _ s6 σ4 H6 x u _ J6' r6 (step x H6 y6)) λ_ s7 ⟨σ7,H7,J7,q7⟩=>?_
   refine thn (hf _ s7 σ7 H7 _ J7 q7) λok s8 ⟨H8,J8,q8⟩=>?_
   cases ok with
   |false=>
    rw[if_neg yal]at q8 |-
    exact again J8 q8
   |true=>
    rw[if_pos rfl]at q8 |-
    refine thn (he _ s8 σ7 H8 _ J8 q8) λz s9 ⟨y,H9,J9,r9,ys,hys,hz,hm⟩=>?_
    refine thn (vi _ s9 σ7 H9 (.ref s2.heap.objs.size) [y] (.ref s2.heap.objs.size) [z] (λ_ H'=>H'=upd H9 s2.heap.objs.size (.lst (ys++[y]))) J9 rfl (.cons r9 .nil) ⟨_,ys,y,rfl,rfl,hys,hz,rfl⟩) λ_ s10 ⟨_,H10,J10,_,e10⟩=>?_
    subst e10
    exact again J10 hm
 have zf:∀tk:Nat,ybz (model X.prog X.w) X.A (.compStart (.ListComp elt [⟨tg,iter,ifs,0⟩] scope pos) 0 (.ref it) (.ref s2.heap.objs.size) (yeR scope cl s3.heap.objs.size X.env))
   (yf0 (model X.prog X.w) X.A X.xe none (EP X pins σ Q) (.ref s2.heap.objs.size) s3.heap.objs.size) {s3 with heap:=h₁,toks:=tk}:=λtk=>
  yet (loop tk) (T.self X.A 0 _ _ _ T0 (loop tk))
 have fin:=zf (s2.toks+([]:List (Str×Value)).length)
 rw[<-s3e]at fin
 rw[<-hh3]at fin
 rw[hh3]at fin |-
 exact fin
end
structure qgP (K:Fr0) (A:Addr->Prop) (H:Hp) (ds:List D) (J:It):Prop where
 go:∀H' i d,Ext A H H'->ds[i]? = some d->J.go i H'
 yl:∀H' i d x H'',Ext A H H'->ds[i]? = some d->J.yld i H' x H''->zK H' H''/\Is K A H'' d x
 stop:∀H',Ext A H H'->J.stop ds.length H'
def CnT(c:Fc)(σ:St)(H:Hp)(a:Addr):Prop:=Cn c σ a/\(H a).isSome=true
def WpI (K:Fr0) (c:Fc) (σ:St) (H:Hp) (Q:It->Hp->Prop):R (List D×Env)->Prop
 |.ok (ds,Z)=>∀J H',Rep K c Z σ H'->qgP K (CnT c σ H') H' ds J->Gr c.O σ H H'->Q J H'
 |.exc x Z=>∀H',Rep K c Z σ H'->Gr c.O σ H H'->c.E x H'
 |.bad=>False
def DI(X:Cx)(c:Fc)(tg it:Expr)(f:M (List D)):Prop:=∃w,PI X tg it w/\∀Z σ H Q,Rep X.K c Z σ H->WpI X.K c σ H Q (f Z)->w σ H Q
section
variable{X:Cx}{c:Fc}{tg a b e:Expr}{pos:Pos}
def qnr(K:Fr0)(tl:TE):TI:=λσ H R=>tl σ H λx H1=>(∃a,x=.ref a/\(∃xs,SqL K H1 a xs)/\R (Itl K a) H1)\/(∃a,x=.ref a/\(∃xs,SqT K H1 a xs)/\R (Itt K a) H1)
theorem qj8 {tl:TE} (hl:PE X e tl):PI X tg e (qnr X.K tl):=by
 intro pins s σ H R I h
 refine thn (hl pins s σ H _ I h) λv s1 ⟨x,H1,I1,r1,q1⟩=>?_
 rcases q1 with⟨a,e,⟨xs,hq⟩,q⟩|⟨a,e,⟨xs,hq⟩,q⟩
 ·subst e
  cases r1
  obtain⟨its,rv,p,hz⟩:=I1.list hq
  refine ybQ p.isList ?_
  refine⟨s1.heap.objs.size,[s1.heap.objs.size],_,_,H1,rfl,I1.kept (t':=s1.toks) λb o e=>Heap.get?_push_of_some _ e,qdL a _,⟨_,Heap.get?_push_size _ rfl,rfl,rfl⟩,λb hb=>?_,q⟩
  have e:b=s1.heap.objs.size:=by simpa using hb
  subst e
  exact I1.fpOk (yag _) (I1.hok.fresh (yag _))
 ·subst e
  cases r1
  obtain⟨its,rv,p,hz⟩:=I1.tuple hq
  refine wpAny_pyIter_tuple (show s1.heap.IsTuple a its.toArray from p) ?_
  refine⟨s1.heap.objs.size,[s1.heap.objs.size],_,_,H1,rfl,I1.kept (t':=s1.toks) λb o e=>Heap.get?_push_of_some _ e,qc8 a _,⟨_,Heap.get?_push_size _ rfl,rfl,rfl⟩,λb hb=>?_,q⟩
  have e:b=s1.heap.objs.size:=by simpa using hb
  subst e
  exact I1.fpOk (yag _) (I1.hok.fresh (yag _))
def qlg:D->Option (List D)
 |.tup ds=>some ds
 |.lst ds=>some ds
 |.fz ns=>some (ns.map .int)
 |_=>none
theorem SqL.inj {K:Fr0} {H:Hp} {a:Addr} {xs ys:List V} (h:H a=some (.lst xs)) (q:SqL K H a ys) (hk:∀o,K.lookup a=some o->False):ys=xs:=by
 rcases q with(q|⟨o,q⟩)|⟨o,_,_,q,_⟩
 ·rw[h]at q;cases q;rfl
 ·rw[h]at q;cases q
 ·exact(hk o q).elim
theorem wZ {K:Fr0} {A:Addr->Prop} {H:Hp}:∀ns:List Int,IsL K A H (ns.map .int) (ns.map V.int)
 | []=>rfl
 |n::ns=>⟨.int n,ns.map V.int,rfl,rfl,wZ ns⟩
theorem qed {K:Fr0} {A:Addr->Prop} {H:Hp} {ds:List D} {xs:List V} {a:Addr} (hs:∀H',Ext A H H'->SqL K H' a xs) (il:IsL K A H ds xs):qgP K A H ds (Itl K a) where
 go:=λH' i d ex hd=>by
  obtain⟨x,h1,h2⟩:=il.get hd
  exact⟨xs,x,hs H' ex,h1⟩
 yl:=λH' i d x H'' ex hd y=>by
  obtain⟨e,y⟩:=y
  subst e
  obtain⟨x',h1,h2⟩:=il.get hd
  have h3:=y xs (hs _ ex)
  rw[h1]at h3
  cases h3
  exact⟨zK.refl _,Is.ext ex (λ_ h _=>h) h2⟩
 stop:=λH' ex=>⟨xs,hs H' ex,by rw[il.length];exact yag _⟩
theorem qj9 {K:Fr0} {A:Addr->Prop} {H:Hp} {ds:List D} {xs:List V} {a:Addr} (hs:qbO K H a xs) (il:IsL K A H ds xs):qgP K A H ds (Itt K a) where
 go:=λH' i d ex hd=>by
  obtain⟨x,h1,h2⟩:=il.get hd
  exact⟨xs,x,(hs.elim (λh => .inl (ex.tup _ _ h)) .inr:qbO K H' a xs).sq,h1⟩
 yl:=λH' i d x H'' ex hd y=>by
  obtain⟨e,y⟩:=y
  subst e
  obtain⟨x',h1,h2⟩:=il.get hd
  have h3:=y xs (hs.elim (λh => .inl (ex.tup _ _ h)) .inr:qbO K _ a xs).sq
  rw[h1]at h3
  cases h3
  exact⟨zK.refl _,Is.ext ex (λ_ h _=>h) h2⟩
 stop:=λH' ex=>⟨xs,(hs.elim (λh => .inl (ex.tup _ _ h)) .inr:qbO K H' a xs).sq,by rw[il.length];exact yag _⟩
def wy(f:M D):M (List D):=bnd f λd=>lift (qlg d)
theorem u5 {K:Fr0} {σ:St} {H:Hp} {Q:It->Hp->Prop} {o:Option (List D)} {Z:Env} (h:WpI K c σ H Q (lift o Z)):∃ds,o=some ds/\∀J H',Rep K c Z σ H'->qgP K (CnT c σ H') H' ds J->Gr c.O σ H H'->Q J H':=by
 cases o with
 |none=>exact h.elim
 |some d=>exact⟨d,rfl,h⟩
theorem WpI.gr {K:Fr0} {σ:St} {H H1:Hp} {Q:It->Hp->Prop}:∀{r:R (List D×Env)},WpI K c σ H Q r->Gr c.O σ H H1->WpI K c σ H1 Q r
 |.ok (d,Z),h,g=>λv H' hr hi hg=>h v H' hr hi (g.trans hg)
 |.exc x Z,h,g=>λH' hr hg=>h H' hr (g.trans hg)
 |.bad,h,_=>h
theorem Wp.bndI {K:Fr0} {σ:St} {H:Hp} {Q:It->Hp->Prop} {f:M D} {k:D->M (List D)} {Z:Env} {Q':VK} (h:WpI K c σ H Q (Sk.bnd f k Z)) (hQ:∀d Z' v H',Rep K c Z' σ H'->Is K (Cn c σ) H' d v->Gr c.O σ H H'->WpI K c σ H' Q (k d Z')->Q' v H'):Wp K c σ H Q' (f Z):=by
 unfold Sk.bnd at h
 cases e:f Z with
 |ok p=>rw[e]at h;exact λv H' hr hi hg=>hQ p.1 p.2 v H' hr hi hg (h.gr hg)
 |exc x Z'=>rw[e]at h;exact h
 |bad=>rw[e]at h;exact h
theorem WpL.bndI {K:Fr0} {σ:St} {H:Hp} {Q:It->Hp->Prop} {f:M (List D)} {k:List D->M (List D)} {Z:Env} {Q':List V->Hp->Prop} (h:WpI K c σ H Q (Sk.bnd f k Z)) (hQ:∀d Z' v H',Rep K c Z' σ H'->IsL K (Cn c σ) H' d v->Gr c.O σ H H'->WpI K c σ H' Q (k d Z')->Q' v H'):WpL K c σ H Q' (f Z):=by
 unfold Sk.bnd at h
 cases e:f Z with
 |ok p=>rw[e]at h;exact λv H' hr hi hg=>hQ p.1 p.2 v H' hr hi hg (h.gr hg)
 |exc x Z'=>rw[e]at h;exact h
 |bad=>rw[e]at h;exact h
theorem Is.tr{K:Fr0}{A:Addr->Prop}{H:Hp}{d:D}{v:V}(h:Is K A H d v):Is K (λa=>A a/\(H a).isSome=true) H d v:=Is.ext Ext.refl (λa h1 h2=>⟨h1,h2⟩) h
theorem wz {f:M D} (h:DE X c e f):DI X c tg e (wy f):=by
 obtain⟨t,p,w⟩:=h
 refine⟨_,qj8 p,λZ σ H Q r h=>w Z σ H _ r (Wp.bndI h λd Z1 v H1 r1 i1 g1 h1=>?_)⟩
 obtain⟨ds,e,h2⟩:=u5 h1
 have i2:Is X.K (CnT c σ H1) H1 d v:=i1.tr
 cases d<;>simp only[qlg]at e<;>try (cases e;done)
 ·cases e
  obtain⟨a,xs,rfl,ta,il⟩:=i2
  exact .inr ⟨a,rfl,⟨xs,ta.sq⟩,h2 _ H1 r1 (qj9 ta il) .refl⟩
 ·cases e
  obtain⟨a,xs,rfl,hA,ta,il⟩:=i2
  exact .inl ⟨a,rfl,⟨xs,.inl (.inl ta)⟩,h2 _ H1 r1 (qed (λH' ex => .inl (.inl (ex.at_ _ _ hA ta))) il) .refl⟩
 ·cases e
  obtain⟨a,rfl,ta⟩:=i2
  exact .inl ⟨a,rfl,⟨_,ta.sq⟩,h2 _ H1 r1 (qed (λH' ex=>(ta.elim (λ⟨o,h⟩ => .inl ⟨o,ex.frz _ _ _ h⟩) .inr:qjV X.K H' a _).sq) (wZ _)) .refl⟩
def v6(lo:Int)(n:Nat):List D:=(yat n).map λi => .int (lo+(i:Nat))
theorem qgQ {K:Fr0} {A:Addr->Prop} {H:Hp} (lo:Int) (n:Nat):qgP K A H (v6 lo n) (Itr lo n) where
 go:=λH' i d ex hd=>by
  have:i<(v6 lo n).length:=(gI_.mp hd).1
  show i<n
  simpa [v6] using this
 yl := λH' i d x H'' ex hd y=>by
  obtain⟨e,y⟩:=y
  subst e
  subst y
  refine⟨zK.refl _,?_⟩
  unfold v6 at hd
  rw[gM_]at hd
  cases e2:(yat n)[i]? with
  |none=>rw[e2]at hd;cases hd
  | some j=>
   rw[e2]at hd
   have hj:j=i:=by
    have:=(gI_.mp e2).2
    simpa using this.symm
   subst hj
   cases hd
   rfl
 stop:=λH' ex=>by show n<=(v6 lo n).length;simp[v6]
def qfL:List D->Option (List D)
 | [.int j]=>if decide (-(2 ^ 62)<=j)&&decide (j<2 ^ 62)then some (v6 0 j.toNat)else none
 |_=>none
def jd(f:M (List D)):M (List D):=bnd f λds=>lift (qfL ds)
theorem jA {f:M (List D)} {p:Pos} (hg:Gl X "range") (hm:X.mg "range"=none) (ha:DA X c [a] f) (hs:yad [a] X.env=[(false,eval a X.env)]:=by rfl):DI X c tg (.Call (.Name "range" p) [a] [] pos) (jd f):=by
 obtain⟨t,p,w⟩:=ha
 refine⟨_,qdM hg hm p hs,λZ σ H Q r h=>w Z σ H _ r (WpL.bndI h λds Z1 vs H1 r1 i1 g1 h1=>?_)⟩
 obtain⟨es,e,h2⟩:=u5 h1
 unfold qfL at e
 split at e
 ·rename_i j
  obtain⟨v,rfl,e2⟩:=IsL.inv1 i1
  cases e2
  by_cases hb:(decide (-(2 ^ 62)<=j)&&decide (j<2 ^ 62))=true
  ·rw[if_pos hb]at e
   cases e
   rw[yan]at hb
   exact⟨j,rfl,of_decide_eq_true hb.1,of_decide_eq_true hb.2,h2 _ H1 r1 (qgQ 0 _) .refl⟩
  ·rw[if_neg hb]at e
   cases e
 ·cases e
def yf (g:D->Env->Option Env) (b:MS):List D->MS
 | [],Z => .ok (.nx Z)
 | d::ds,Z=>match g d Z with
  |none => .bad
  |some Z1=>match b Z1 with
   |.ok (.nx Z2)=>yf g b ds Z2
   |.ok (.ct Z2)=>yf g b ds Z2
   |.ok (.bk Z2) => .ok (.nx Z2)
   |.ok (.rt r Z2) => .ok (.rt r Z2)
   |.exc x Z2 => .exc x Z2
   |.bad => .bad
def qbR(f:M (List D))(g:D->Env->Option Env)(b:MS):MS:=sbnd f λds=>yf g b ds
theorem WpI.sbnd {K:Fr0} {σ:St} {H:Hp} {D':qc7} {f:M (List D)} {k:List D->MS} {Z:Env} {Q':It->Hp->Prop} (h:WpS K c σ H D' (Sk.sbnd f k Z))
  (hQ:∀ds Z' J H',Rep K c Z' σ H'->qgP K (CnT c σ H') H' ds J->Gr c.O σ H H'->WpS K c σ H' D' (k ds Z')->Q' J H'):WpI K c σ H Q' (f Z):=by
 unfold Sk.sbnd at h
 cases e:f Z with
 |ok p=>rw[e]at h;exact λv H' hr hi hg=>hQ p.1 p.2 v H' hr hi hg (h.gr hg.s)
 |exc x Z'=>rw[e]at h;exact λH' hr hg=>h σ H' hr hg.s
 |bad=>rw[e]at h;exact h
theorem GrS.extT{σ σ':St}{H H':Hp}(g:GrS c.O σ H σ' H'):Ext (CnT c σ H) H H':=⟨g.ext.tup,g.ext.frz,λb o hb h=>g.ext.at_ b o hb.1.2 h⟩
theorem GrS.cnT{σ σ':St}{H H':Hp}(g:GrS c.O σ H σ' H'){a:Addr}(h:CnT c σ H a):Cn c σ' a:=⟨h.1.1,g.cl a h.1.2 h.2⟩
theorem ux{α:Type}{l:List α}{i:Nat}(h:i<l.length):l.drop i=l[i]::l.drop (i+1):=List.drop_eq_getElem_cons h
theorem vv {it:Expr} {body:List Stmt} {f:M (List D)} {g:D->Env->Option Env} {b:MS} (hp:ye8 (model X.prog X.w) X.A X.env X.xe) (hc:X.calm=true) (hi:DI X c tg it f) (hg:DG X c tg g) (hb:DSs X c body b)
  (hs:∀x,ybP it X.env x=pure x:=by intro _;rfl):DS X c (.For tg it body [] pos) (qbR f g b):=by
 obtain⟨wi,pi,wI⟩:=hi
 obtain⟨tg',pg,wg⟩:=hg
 obtain⟨tb,pb,wb⟩:=hb
 refine⟨_,qjB hp hc pi pg pb hs,λZ σ H D' r h=>wI Z σ H _ r (WpI.sbnd h λds Z1 J H1 r1 iok g1 h1=>?_)⟩
 refine⟨λi m σ' H'=>m=ds.length-i/\i<=ds.length/\∃Z',Rep X.K c Z' σ' H'/\GrS c.O σ H1 σ' H'/\WpS X.K c σ' H' D' (yf g b (ds.drop i) Z'),⟨ds.length,by simp,ya5 _,Z1,r1,.refl,by simpa using h1⟩,?_⟩
 rintro i m σ' H' ⟨rfl,hi,Z',r',gs,w⟩
 by_cases hlt:i<ds.length
 ·refine .inr ⟨iok.go H' i ds[i] gs.extT (by simp[hlt]),λσ2 H2=>∃Z2,Rep X.K c Z2 σ2 H2/\GrS c.O σ H1 σ2 H2/\WpS X.K c σ2 H2 D' (yf g b (ds.drop (i+1)) Z2),λσ2 H2 n=>⟨ds.length-(i+1),by omega,rfl,hlt,n⟩,λx H'' y=>?_⟩
  obtain⟨sm,ix⟩:=iok.yl H' i ds[i] x H'' gs.extT (by simp[hlt]) y
  rw[ux hlt]at w
  unfold yf at w
  have gs2:GrS c.O σ H1 σ' H'':=gs.trans (Gr.of_same sm).s
  have ix2:Is X.K (Cn c σ') H'' ds[i] x:=Is.ext Ext.refl (λa ha _=>gs2.cnT ha) ix
  cases e1:g ds[i] Z' with
  |none=>simp only[e1]at w;exact w.elim
  | some Z2=>
   simp only[e1]at w
   refine wg Z' σ' H'' ds[i] x Z2 _ (r'.same sm) ix2 e1 λσ2 r2 g2 _=>wb Z2 σ2 H'' _ r2 ?_
   have w2:=w.gr ((Gr.of_same sm).s.trans g2)
   have gs3:GrS c.O σ H1 σ2 H'':=gs2.trans g2
   cases e2:b Z2 with
   |ok fl=>
    cases fl with
    |nx Z3=>simp only[e2]at w2;exact λσ3 H3 r3 g3=>⟨Z3,r3,gs3.trans g3,w2.gr g3⟩
    |ct Z3=>simp only[e2]at w2;exact λσ3 H3 r3 g3=>⟨Z3,r3,gs3.trans g3,w2.gr g3⟩
    |bk Z3=>simp only[e2]at w2;exact w2
    |rt d Z3=>simp only[e2]at w2;exact w2
   |exc x Z3=>simp only[e2]at w2;exact w2
   |bad=>simp only[e2]at w2;exact w2
 ·have hie:i=ds.length:=by omega
  subst hie
  rw[ycK (yag _)]at w
  exact .inl ⟨iok.stop H' gs.extT,w σ' H' r' .refl⟩
end
def cin (B0:Addr->Prop) (H1:Hp) (O':List Nat) (Io':Addr->Prop) (acc:Addr) (S':Nat->Option (Option V)):Fc where
 O:=O'
 P:=O'
 B:=λa=>B0 a/\a≠acc
 H0:=upd H1 acc (.lst [])
 Io:=λa=>Io' a\/a=acc
 E:=λ_ _=>False
 S:=S'
def qX (g:D->Env->Option Env) (t:M Bool) (e:M D):List D->List D->Env->R (List D×Env)
 | [],acc,Z => .ok (acc,Z)
 | d :: ds,acc,Z=>match g d Z with
  |none => .bad
  | some Z1=>match t Z1 with
   |.ok (true,Z2)=>match e Z2 with
    |.ok (y,Z3)=>if qD (acc.length+1)then qX g t e ds (acc++[y]) Z3 else .bad
    |_ => .bad
   |.ok (false,Z2)=>qX g t e ds acc Z2
   |_ => .bad
def zL(nt:Nat)(fr:List Nat)(Z:Env):Env:=yak nt none++fr.map λj=>(Z[j]?).join
def qjb (fo:Option (Nat×Nat)) (Ze Z:Env):Env:=match fo with
 |none=>Z
 |some (i,j)=>Z.set j (Ze[i]?).join
def zP (nt:Nat) (fr:List Nat) (fo:Option (Nat×Nat)) (f:M (List D)) (g:D->Env->Option Env) (t:M Bool) (e:M D):M D:=bnd f λds Z=>match qX g t e ds [] (zL nt fr Z) with
 |.ok (ys,Ze) => .ok (.lst ys,qjb fo Ze Z)
 |_ => .bad
def DF(X:Cx)(c:Fc)(ifs:List Expr)(f:M Bool):Prop:=∃t,PF X ifs t/\∀Z σ H Q,Rep X.K c Z σ H->WpB X.K c σ H Q (f Z)->t σ H Q
def foO (fo:Option (Nat×Nat)):List Nat:=match fo with
 |none=>[]
 |some (i,_)=>[i]
section
variable{X:Cx}{c:Fc}{tg a b e:Expr}{pos:Pos}
theorem wA:DF X c [] (ret true):=⟨_,qj6,λZ σ H Q r h=>h H r .refl⟩
theorem qee {f:M Bool} (h:DT X c e f):DF X c [e] f:=by
 obtain⟨t,p,w⟩:=h
 exact⟨_,qj7 p,w⟩
theorem WpI.bnd {K:Fr0} {σ:St} {H:Hp} {Q:VK} {f:M (List D)} {k:List D->M D} {Z:Env} {Q':It->Hp->Prop} (h:Wp K c σ H Q (Sk.bnd f k Z))
  (hQ:∀ds Z' J H',Rep K c Z' σ H'->qgP K (CnT c σ H') H' ds J->Gr c.O σ H H'->Wp K c σ H' Q (k ds Z')->Q' J H'):WpI K c σ H Q' (f Z):=by
 unfold Sk.bnd at h
 cases e:f Z with
 |ok p=>rw[e]at h;exact λv H' hr hi hg=>hQ p.1 p.2 v H' hr hi hg (h.gr hg)
 |exc x Z'=>rw[e]at h;exact h
 |bad=>rw[e]at h;exact h
theorem Rep.grow {K:Fr0} {B0:Addr->Prop} {H1:Hp} {O':List Nat} {Io':Addr->Prop} {acc:Addr} {S':Nat->Option (Option V)} {Z:Env} {σ:St} {H:Hp} {xs ys:List V} (r:Rep K (cin B0 H1 O' Io' acc S') Z σ H) (h:H acc=some (.lst xs)) (ho:∀j∈O',σ[j]? ≠ some (some (.ref acc))) :
  Rep K (cin B0 H1 O' Io' acc S') Z σ (upd H acc (.lst ys)):=by
 have ext:Ext (λa=>a≠acc) H (upd H acc (.lst ys)):=⟨λb zs hb=>by rw[qh (uW hb h (by intro z;cases z))];exact hb,λb o u hb=>by rw[qh (uW hb h (by intro z;cases z))];exact hb,λb o hb hq=>by rw[qh hb];exact hq⟩
 have cnext:Ext (Cn (cin B0 H1 O' Io' acc S') σ) H (upd H acc (.lst ys)):=⟨ext.tup,ext.frz,λb o hb hq=>ext.at_ b o hb.1.2 hq⟩
 refine⟨r.len,λi d hd=>?_,λj hj v hv=>?_,r.inj,r.b0,λb o hb hio=>?_,λb hb=>?_,r.pO,r.ps⟩
 ·obtain ⟨v,h1,h2⟩:=r.val i d hd
  refine⟨v,h1,?_⟩
  rcases h2 with⟨hi,ds,a,zs,h3,h5,h6,h7⟩|⟨hi,h3⟩
  ·subst h5
   have ne:a≠acc:=λe=>ho i hi (by rw[h1,e])
   exact .inl ⟨hi,ds,a,zs,h3,rfl,by rw[qh ne];exact h6,IsL.ext cnext (λ_ h _=>h) h7⟩
  ·exact .inr ⟨hi,Is.ext cnext (λ_ h _=>h) h3⟩
 ·obtain⟨a,zs,h1,h2,h3⟩:=r.own j hj v hv
  subst h1
  have ne:a≠acc:=λe=>ho j hj (by rw[hv,e])
  exact⟨a,zs,rfl,by rw[qh ne];exact h2,h3⟩
 ·have ne:b≠acc:=λe=>hio (.inr e)
  rw[qh ne]
  exact r.kp b o hb hio
 ·by_cases e:b=acc
  ·subst e;rw[qk]at hb;cases hb
  ·rw[qh e]at hb;exact r.dm b hb
theorem vx {α:Type} {o:Option (Option α)} {a:α} (h:o.join=some a):o=some (some a):=by
 cases o with
 |none=>cases h
 |some x=>have:x=some a:=h;rw[this]
def qhW (c:Fc) (nt:Nat) (fr:List Nat) (fo:Option (Nat×Nat)):Prop:=match fo with
 |none=>∀j∈fr,j ∉ c.O
 |some (i,j)=>j∈c.O/\nt<=i/\fr[i-nt]? = some j/\∀k j',fr[k]? = some j'->nt+k≠i->j' ∉ c.O
def qaL (σ:St) (fo:Option (Nat×Nat)) (a:Addr):Prop:=match fo with
 |none=>False
 |some (_,j)=>σ[j]? = some (some (.ref a))
theorem uy {nt:Nat} {fr:List Nat} {σ:St} {k j:Nat} (h:fr[k]? = some j):(qv nt fr σ)[nt+k]? = some (σ[j]?).join:=by
 unfold qv
 rw[List.getElem?_append_right (by simp),ya7,gM_,show nt+k-nt=k by omega,h]
 rfl
theorem qdg {nt:Nat} {fr:List Nat} {Z:Env} {i:Nat} {d:D} (hd:(zL nt fr Z)[i]? = some (some d)):∃k j,i=nt+k/\fr[k]? = some j/\Z[j]? = some (some d):=by
 have hi:nt<=i:=by
  apply ych
  intro hlt
  unfold zL at hd
  rw[List.getElem?_append_left (by simpa using hlt),List.getElem?_replicate]at hd
  split at hd<;>cases hd
 unfold zL at hd
 rw[List.getElem?_append_right (by simpa using hi),ya7,gM_]at hd
 cases ej:fr[i-nt]? with
 |none=>rw[ej]at hd;cases hd
 |some j=>
  rw[ej]at hd
  exact⟨i-nt,j,by omega,ej,vx (by simpa using hd)⟩
theorem jr {nt:Nat} {fr:List Nat} {σ:St} {i:Nat} {d:V} (hd:(qv nt fr σ)[i]? = some (some d)):∃k j,i=nt+k/\fr[k]? = some j/\σ[j]? = some (some d):=by
 have hi:nt<=i:=by
  apply ych
  intro hlt
  unfold qv at hd
  rw[List.getElem?_append_left (by simpa using hlt),List.getElem?_replicate]at hd
  split at hd<;>cases hd
 unfold qv at hd
 rw[List.getElem?_append_right (by simpa using hi),ya7,gM_]at hd
 cases ej:fr[i-nt]? with
 |none=>rw[ej]at hd;cases hd
 |some j=>
  rw[ej]at hd
  exact⟨i-nt,j,by omega,ej,vx (by simpa using hd)⟩
theorem Rep.entry {K:Fr0} {nt:Nat} {fr:List Nat} {fo:Option (Nat×Nat)} {acc:Addr} {Z:Env} {σ:St} {H:Hp} (r:Rep K c Z σ H) (hn:H acc=none) (hfo:qhW c nt fr fo) :
  Rep K (cin (Cn c σ) H (foO fo) (qaL σ fo) acc λj=>(qv nt fr σ)[j]?) (zL nt fr Z) (qv nt fr σ) (upd H acc (.lst [])):=by
 have sm:zK H (upd H acc (.lst [])):=qx hn _
 have ownI:∀i∈foO fo,∀v,(qv nt fr σ)[i]? = some (some v)->∃j,fo=some (i,j)/\j∈c.O/\σ[j]? = some (some v):=λi hi v hv=>by
  cases fo with
  |none=>cases hi
  |some p=>
   obtain⟨i',j'⟩:=p
   have e:i=i':=by simpa [foO] using hi
   subst e
   obtain⟨h1,h2,h3,h4⟩:=hfo
   obtain⟨k,j,e1,e2,e3⟩:=jr hv
   have hk:k=i-nt:=by omega
   subst hk
   rw[h3]at e2
   cases e2
   exact⟨j',rfl,h1,e3⟩
 have clI:∀a,Cl c.O σ a->Cl (foO fo) (qv nt fr σ) a:=λa ha i hi e=>by
  obtain⟨j,_,hj,e2⟩:=ownI i hi _ e
  exact ha j hj e2
 refine⟨by simp[zL,qv],λi d hd=>?_,λi hi v hv=>?_,λi j a hi hj h1 h2=>?_,⟨λa ha=>?_,λq P pos eP=>?_⟩,λb o hb hio=>?_,λb hb=>?_,λ_ h=>h,λ_ _=>rfl⟩
 ·obtain ⟨k,j,e1,e2,e3⟩:=qdg hd
  subst e1
  by_cases hO:nt+k∈foO fo
  ·obtain ⟨v,hv⟩:∃v,σ[j]? = some (some v):=by
    obtain⟨v,h1,_⟩:=r.val j d e3
    exact⟨v,h1⟩
   have hc:(qv nt fr σ)[nt+k]? = some (some v):=by rw[uy e2,hv];rfl
   obtain⟨j',f1,f2,f3⟩:=ownI _ hO v hc
   subst f1
   obtain⟨g1,g2,g3,g4⟩:=hfo
   rw[show nt+k-nt=k by omega,e2]at g3
   cases g3
   obtain⟨ds,a,xs,h1,h3,h4,h5⟩:=r.getO g1 e3
   rw[hv]at h3
   cases h3
   exact⟨.ref a,hc,.inl ⟨hO,ds,a,xs,h1,rfl,sm _ _ h4,IsL.ext (Ext.of_same sm) (λb hb hs=>⟨⟨hb,λe=>by subst e;rw[hn]at hs;cases hs⟩,clI b hb.2⟩) h5⟩⟩
  ·have hj:j ∉ c.O:=by
    cases fo with
    |none=>exact hfo j (ycg e2)
    |some p=>
     obtain⟨i',j'⟩:=p
     exact hfo.2.2.2 k j e2 (λe=>hO (by simp[foO,e]))
   obtain⟨v,h1,h2⟩:=r.get hj e3
   refine⟨v,by rw[uy e2,h1];rfl,.inr ⟨hO,?_⟩⟩
   refine Is.ext (Ext.of_same sm) (λa ha hs=>⟨⟨ha,λe=>?_⟩,clI a ha.2⟩) h2
   subst e;rw[hn]at hs;cases hs
 ·obtain⟨j,f1,f2,f3⟩:=ownI i hi v hv
  obtain⟨a,xs,h1,h2,h3⟩:=r.own j f2 v f3
  subst h1 f1
  exact⟨a,xs,rfl,sm _ _ h2,.inr ⟨hi,.inl f3⟩⟩
 ·cases fo with
  |none=>cases hi
  |some p=>
   obtain⟨i',j'⟩:=p
   have e:i=i':=by simpa [foO,cin] using hi
   have e2:j=i':=by simpa [foO,cin] using hj
   rw[e,e2]
 ·have ha':upd H acc (.lst []) a=none:=ha
  by_cases e:a=acc
  ·subst e;rw[qk]at ha';cases ha'
  ·rw[qh e]at ha';exact⟨r.new ha',e⟩
 ·have hP:=(r.tb q P pos eP).1
  refine⟨sm _ _ hP,λz=>?_⟩
  rcases z with z|z
  ·cases fo with
   |none=>exact z
   |some p=>
    obtain⟨b,xs,e1,e2,_⟩:=r.own _ hfo.1 _ z
    cases e1
    rw[hP]at e2;cases e2
  ·rw[z,hn]at hP;cases hP
 ·exact hb
 ·exact hb
theorem Rep.leave {K:Fr0} {nt:Nat} {fr:List Nat} {fo:Option (Nat×Nat)} {acc:Addr} {Z Ze:Env} {σ σe:St} {H H':Hp} (r:Rep K c Z σ H) (hn:H acc=none) (hfo:qhW c nt fr fo) (hf:∀i j,fo=some (i,j)->σe[i]? = (qv nt fr σ)[i]?)
  (q:Rep K (cin (Cn c σ) H (foO fo) (qaL σ fo) acc λj=>(qv nt fr σ)[j]?) Ze σe H'):Rep K c (qjb fo Ze Z) σ H'/\Gr c.O σ H H':=by
 have kp:∀b o,H b=some o->¬qaL σ fo b->H' b=some o:=λb o hb hio=>q.kp b o (by show upd H acc (.lst []) b=some o;rw[qh (qq hb hn)];exact hb) λz=>z.elim hio λe=>absurd e (qq hb hn)
 have clean:∀b,Cl c.O σ b->¬qaL σ fo b:=λb hb hio=>by
  cases fo with
  |none=>exact hio
  |some p=>exact hb p.2 hfo.1 hio
 have dom:∀b,H' b=none->H b=none:=λb hb=>by
  have:=q.dm b hb
  by_cases e:b=acc
  ·subst e;exact hn
  ·have this:upd H acc (.lst []) b=none:=this
   rw[qh e]at this;exact this
 have notT:∀b xs,H b=some (.tup xs)->¬qaL σ fo b:=λb xs hb hio=>by
  cases fo with
  |none=>exact hio
  |some p=>
   obtain⟨a,ys,e1,e2,_⟩:=r.own p.2 hfo.1 _ hio
   cases e1;rw[hb]at e2;cases e2
 have notF:∀b o u,H b=some (.frz o u)->¬qaL σ fo b:=λb o u hb hio=>by
  cases fo with
  |none=>exact hio
  |some p=>
   obtain⟨a,ys,e1,e2,_⟩:=r.own p.2 hfo.1 _ hio
   cases e1;rw[hb]at e2;cases e2
 have gr:Gr c.O σ H H':=⟨⟨λb xs hb=>kp b _ hb (notT b xs hb),λb o u hb=>kp b _ hb (notF b o u hb),λb o hc hb=>kp b o hb (clean b hc)⟩,dom⟩
 refine⟨⟨?_,λk d hd=>?_,λj hj v hv=>?_,r.inj,r.b0,λb o hb hio=>?_,λb hb=>r.dm b (dom b hb),r.pO,r.ps⟩,gr⟩
 ·cases fo with
  |none=>exact r.len
  |some p=>show(Z.set _ _).length=_;rw[lS_];exact r.len
 ·-- an old slot,or the one that came qjb
  have oldSlot:Z[k]? = some (some d)->(∀i,fo≠some (i,k))->∃v,σ[k]? = some (some v)/\((k∈c.O/\∃ds a xs,d=.lst ds/\v=.ref a/\H' a=some (.lst xs)/\IsL K (Cn c σ) H' ds xs)\/(k ∉ c.O/\Is K (Cn c σ) H' d v)):=λhk hne=>by
   obtain⟨v,h1,h2⟩:=r.val k d hk
   refine⟨v,h1,?_⟩
   rcases h2 with⟨hi,ds,a,xs,h3,h5,h6,h7⟩|⟨hi,h3⟩
   ·subst h5
    refine .inl ⟨hi,ds,a,xs,h3,rfl,kp a _ h6 (λhio=>?_),gr.isL h7⟩
    cases fo with
    |none=>exact hio
    |some p=>
     obtain⟨i',j'⟩:=p
     have e:=r.inj k j' a hi hfo.1 h1 hio
     exact hne i' (by rw[e])
   ·exact .inr ⟨hi,gr.is h3⟩
  cases fo with
  |none=>exact oldSlot hd (λi e=>by cases e)
  | some p=>
   obtain⟨i',j'⟩:=p
   have hd':(Z.set j' (Ze[i']?).join)[k]? = some (some d):=hd
   by_cases e:k=j'
   ·subst e
    have hl:k<Z.length:=by
     have:=(gI_.mp hd').1
     rwa [lS_]at this
    rw[List.getElem?_set_self hl]at hd'
    have he:Ze[i']? = some (some d):=vx (yaJ hd')
    obtain⟨ds,a,xs,h1,h3,h4,h5⟩:=q.getO (show i'∈foO (some (i',k)) by simp[foO]) he
    have h3':=hf i' k rfl
    rw[h3]at h3'
    obtain⟨k2,j2,e1,e2,e3⟩:=jr h3'.symm
    have hk2:k2=i'-nt:=by omega
    subst hk2
    rw[hfo.2.2.1]at e2
    cases e2
    exact⟨.ref a,e3,.inl ⟨hfo.1,ds,a,xs,h1,rfl,h4,IsL.ext Ext.refl (λb hb _=>hb.1.1) h5⟩⟩
   ·rw[qV e]at hd'
    exact oldSlot hd' (λi e2=>e (by cases e2;rfl))
 ·obtain ⟨a,xs,h1,h2,h3⟩:=r.own j hj v hv
  subst h1
  by_cases hio:qaL σ fo a
  ·cases fo with
   |none=>exact hio.elim
   | some p=>
    obtain⟨i',j'⟩:=p
    have hc:(qv nt fr σ)[i']? = some (some (.ref a)):=by
     have:=uy (σ:=σ) (nt:=nt) hfo.2.2.1
     rw[show nt+(i'-nt)=i' by have:=hfo.2.1;omega]at this
     rw[this]
     have hio':σ[j']? = some (some (.ref a)):=hio
     rw[hio'];rfl
    have h3':=hf i' j' rfl
    rw[hc]at h3'
    obtain⟨a',ys,e1,e2,_⟩:=q.own i' (by simp[foO,cin]) _ h3'
    cases e1
    exact⟨a,ys,rfl,e2,h3⟩
  ·exact⟨a,xs,rfl,kp a _ h2 hio,h3⟩
 ·by_cases hio2:qaL σ fo b
  ·cases fo with
   |none=>exact hio2.elim
   |some p=>
    obtain⟨a,ys,e1,e2,e3⟩:=r.own p.2 hfo.1 _ hio2
    cases e1
    rcases e3 with e3|e3
    ·rw[hb]at e3;cases e3
    ·exact absurd e3.2 hio
  ·exact kp b o (r.kp b o hb hio) hio2
theorem yT {it elt:Expr} {ifs:List Expr} {scope:Scope} {N':List Str} {nt:Nat} {fr:List Nat} {fo:Option (Nat×Nat)} {f:M (List D)} {g:D->Env->Option Env} {t:M Bool} {k:M D} (hc:X.calm=true) (hi:DI X c tg it f) (S:jy X scope N' nt fr)
  (hfo:qhW c nt fr fo)
  (hb:∀fp cl C s₀ H₀ pn B0 H1 Io' acc S',DG (qU X scope N' fp cl C s₀ H₀ pn) (cin B0 H1 (foO fo) Io' acc S') tg g/\DF (qU X scope N' fp cl C s₀ H₀ pn) (cin B0 H1 (foO fo) Io' acc S') ifs t/\DE (qU X scope N' fp cl C s₀ H₀ pn) (cin B0 H1 (foO fo) Io' acc S') elt k)
  (hs:∀x,ybP it X.env x=pure x:=by intro _;rfl):DE X c (.ListComp elt [⟨tg,it,ifs,0⟩] scope pos) (zP nt fr fo f g t k):=by
 obtain⟨wi,pi,wI⟩:=hi
 refine⟨_,qhV hc pi S hs,λZ σ H Q r h=>wI Z σ H _ r (WpI.bnd h λds Z1 J H1 r1 iok g1 h1=>?_)⟩
 intro acc fp cl C s₀ H₀ pn hn
 obtain⟨⟨tg',pg,wg⟩,⟨tt,pt,wt⟩,⟨te,pe,we⟩⟩:=hb fp cl C s₀ H₀ pn (Cn c σ) H1 (qaL σ fo) acc λj=>(qv nt fr σ)[j]?
 refine⟨tg',tt,te,pg,pt,pe,?_⟩
 cases ew:qX g t k ds [] (zL nt fr Z1) with
 |exc x Z'=>rw[ew]at h1;exact h1.elim
 |bad=>rw[ew]at h1;exact h1.elim
 | ok p =>
  rw[ew]at h1
  obtain⟨ys,Ze⟩:=p
  have h1:∀v H',Rep X.K c (qjb fo Ze Z1) σ H'->Is X.K (Cn c σ) H' (.lst ys) v->Gr c.O σ H1 H'->Q v H':=h1
  have accO:∀j∈foO fo,(qv nt fr σ)[j]? ≠ some (some (.ref acc)):=λj hj e=>by
   have r0:=r1.entry (acc:=acc) hn hfo
   cases fo with
   |none=>cases hj
   |some p=>
    obtain⟨i',j'⟩:=p
    have e2:j=i':=by simpa [foO] using hj
    subst e2
    obtain⟨k2,j2,e1,e2,e3⟩:=jr e
    have hk2:k2=j-nt:=by omega
    subst hk2
    rw[hfo.2.2.1]at e2
    cases e2
    obtain⟨a,us,e4,e5,_⟩:=r1.own j' hfo.1 _ e3
    cases e4;rw[hn]at e5;cases e5
  refine ⟨λi m σ' H'=>m=ds.length-i/\i<=ds.length/\∃Z' zs xs,Rep X.K (cin (Cn c σ) H1 (foO fo) (qaL σ fo) acc λj=>(qv nt fr σ)[j]?) Z' σ' H'/\(∀j∈foO fo,σ'[j]? = (qv nt fr σ)[j]?)/\H' acc=some (.lst xs)/\IsL X.K (Cn (cin (Cn c σ) H1 (foO fo) (qaL σ fo) acc λj=>(qv nt fr σ)[j]?) σ') H' zs xs/\qX g t k (ds.drop i) zs Z'=.ok (ys,Ze),
   ⟨ds.length,by simp,ya5 _,zL nt fr Z1,[],[],r1.entry hn hfo,λ_ _=>rfl,qk,rfl,by simpa using ew⟩,?_⟩
  rintro i m σ' H' ⟨rfl,hi,Z',zs,xs,r',so,ha,iz,w⟩
  obtain⟨_,gr⟩:=r1.leave hn hfo (λi j e=>so i (by rw[e];simp[foO])) r'
  have ex:Ext (CnT c σ H1) H1 H':=⟨gr.ext.tup,gr.ext.frz,λb o hb hq=>gr.ext.at_ b o hb.1.2 hq⟩
  have accC:∀τ:St,(∀j∈foO fo,τ[j]? = (qv nt fr σ)[j]?)->Cl (foO fo) τ acc:=λτ hτ j hj e=>accO j hj (by rw[<-hτ j hj];exact e)
  by_cases hlt:i<ds.length
  ·refine .inr ⟨iok.go H' i ds[i] ex (by simp[hlt]),λx H'' y=>?_⟩
   obtain⟨sm,ix⟩:=iok.yl H' i ds[i] x H'' ex (by simp[hlt]) y
   rw[ux hlt]at w
   unfold qX at w
   have ix2:Is X.K (Cn (cin (Cn c σ) H1 (foO fo) (qaL σ fo) acc λj=>(qv nt fr σ)[j]?) σ') H'' ds[i] x:=Is.ext Ext.refl (λa ha _=>⟨⟨ha.1,λe=>by
    have:=ha.2
    rw [e,hn]at this;cases this⟩,λj hj e=>by
     rw[so j hj]at e
     cases fo with
     |none=>cases hj
     |some p=>
      obtain⟨i',j'⟩:=p
      have e2:j=i':=by simpa [foO,cin] using hj
      subst e2
      obtain⟨k2,j2,e1,e2,e3⟩:=jr e
      have hk2:k2=j-nt:=by omega
      subst hk2
      rw[hfo.2.2.1]at e2
      cases e2
      exact ha.1.2 j' hfo.1 e3⟩) ix
   cases e1:g ds[i] Z' with
   |none=>simp only[e1]at w;cases w
   | some Z2=>
    simp only[e1]at w
    refine wg Z' σ' H'' ds[i] x Z2 _ (r'.same sm) ix2 e1 λσ2 r2 g2 o2=>?_
    have so2:∀j∈foO fo,σ2[j]? = (qv nt fr σ)[j]? := λj hj=>(o2 j hj).trans (so j hj)
    have ha2:H'' acc=some (.lst xs):=sm _ _ ha
    have iz2:=g2.isL (IsL.ext (Ext.of_same sm) (λ_ h _=>h) iz)
    cases e2:t Z2 with
    |exc x Z3=>simp only[e2]at w;cases w
    |bad=>simp only[e2]at w;cases w
    | ok p2=>
     obtain⟨bb,Z3⟩:=p2
     refine wt Z2 σ2 H'' _ r2 ?_
     rw[e2]
     intro H3 r3 g3
     have ha3:H3 acc=some (.lst xs):=g3.ext.at_ _ _ (accC σ2 so2) ha2
     have iz3:=g3.isL iz2
     cases bb with
     |false=>
      rw[if_neg yal]
      simp only[e2]at w
      exact⟨ds.length-(i+1),by omega,rfl,hlt,Z3,zs,xs,r3,so2,ha3,iz3,w⟩
     | true=>
      rw[if_pos rfl]
      simp only[e2]at w
      cases e3:k Z3 with
      |exc x Z4=>simp only[e3]at w;cases w
      |bad=>simp only[e3]at w;cases w
      | ok p3=>
       obtain⟨d4,Z4⟩:=p3
       simp only[e3]at w
       refine we Z3 σ2 H3 _ r3 ?_
       rw[e3]
       intro y4 H4 r4 i4 g4
       have ha4:H4 acc=some (.lst xs):=g4.ext.at_ _ _ (accC σ2 so2) ha3
       have hsz:qD (zs.length+1)=true:=by
        cases e5:qD (zs.length+1) with
        |true=>rfl
        |false=>rw[e5]at w;simp at w
       rw[if_pos hsz]at w
       have hsz':zs.length+1<=yas:=of_decide_eq_true hsz
       have r5:=r4.grow (ys:=xs++[y4]) ha4 (λj hj e=>accC σ2 so2 j hj e)
       have ext5:Ext (Cn (cin (Cn c σ) H1 (foO fo) (qaL σ fo) acc λj=>(qv nt fr σ)[j]?) σ2) H4 (upd H4 acc (.lst (xs++[y4]))):=⟨λb us hb=>by rw[qh (uW hb ha4 (by intro z;cases z))];exact hb,λb o u hb=>by rw[qh (uW hb ha4 (by intro z;cases z))];exact hb,λb o hb hq=>by rw[qh hb.1.2];exact hq⟩
       refine⟨xs,ha4,by rw[iz3.length];omega,ds.length-(i+1),by omega,rfl,hlt,Z4,zs++[d4],xs++[y4],r5,so2,qk,?_,w⟩
       exact IsL.append (IsL.ext ext5 (λ_ h _=>h) (g4.isL iz3)) (IsL.one (Is.ext ext5 (λ_ h _=>h) i4))
  ·have hie:i=ds.length:=by omega
   subst hie
   rw[ycK (yag _)]at w
   unfold qX at w
   cases w
   obtain⟨r6,g6⟩:=r1.leave hn hfo (λi j e=>so i (by rw[e];simp[foO])) r'
   exact .inl ⟨iok.stop H' ex,h1 _ H' r6 ⟨acc,xs,rfl,r1.new hn,ha,IsL.ext Ext.refl (λa ha hs=>ha.1.1) iz⟩ g6⟩
end
theorem Rep.io {K:Fr0} {c:Fc} {Z:Env} {σ:St} {H H':Hp} {i:Nat} {a:Addr} {bs:List D} {xs:List V} (r:Rep K c Z σ H) (hi:i∈c.O) (hs:σ[i]? = some (some (.ref a))) (kp:∀b o,b≠a->H b=some o->H' b=some o)
  (ha:H' a=some (.lst xs)) (him:True) (il:IsL K (Cn c σ) H' bs xs) (dm:∀b,H' b=none->H b=none):Rep K c (Z.set i (some (.lst bs))) σ H'/\Gr c.O σ H H':=by
 obtain⟨a',xs0,e0,h0,hown⟩:=r.own i hi _ hs
 cases e0
 have gr:Gr c.O σ H H':=⟨⟨λb us hb=>kp b _ (uW hb h0 (by intro z;cases z)) hb,λb o u hb=>kp b _ (uW hb h0 (by intro z;cases z)) hb,λb o hc hb=>kp b o (λe=>hc i hi (by rw[hs,e])) hb⟩,dm⟩
 refine⟨⟨by rw[lS_];exact r.len,λk d hk=>?_,λj hj v hv=>?_,r.inj,r.b0,λb o hb hio=>?_,λb hb=>r.dm b (dm b hb),r.pO,r.ps⟩,gr⟩
 ·by_cases e:k=i
  ·subst e
   have hl:k<Z.length:=by
    have:=(gI_.mp hk).1
    rwa [lS_]at this
   rw[List.getElem?_set_self hl]at hk
   cases hk
   exact⟨.ref a,hs,.inl ⟨hi,bs,a,xs,rfl,rfl,ha,il⟩⟩
  ·rw [qV e]at hk
   obtain⟨v,h1,h2⟩:=r.val k d hk
   refine⟨v,h1,?_⟩
   rcases h2 with⟨hk2,ds,b,ys,h3,h5,h6,h7⟩|⟨hk2,h3⟩
   ·subst h5
    have ne:b≠a:=λe2=>e (r.inj k i a hk2 hi (by rw[h1,e2]) hs)
    exact .inl ⟨hk2,ds,b,ys,h3,rfl,kp b _ ne h6,gr.isL h7⟩
   ·exact .inr ⟨hk2,gr.is h3⟩
 ·obtain⟨b,ys,h1,h2,h3⟩:=r.own j hj v hv
  subst h1
  by_cases e:b=a
  ·subst e;exact⟨b,xs,rfl,ha,h3⟩
  ·exact⟨b,ys,rfl,kp b _ e h2,h3⟩
 ·have ne:b≠a:=λe=>by
   subst e
   rcases hown with z|z
   ·rw[hb]at z;cases z
   ·exact hio z.2
  exact kp b o ne (r.kp b o hb hio)
def zc (i:Nat) (Z:Env):Option (List D):=match Z[i]? with
 |some (some (.lst ds))=>some ds
 |_=>none
theorem qef {i:Nat} {Z:Env} {ds:List D} (h:zc i Z=some ds):Z[i]? = some (some (.lst ds)):=by
 unfold zc at h
 split at h
 ·rename_i e;cases h;exact e
 ·cases h
theorem Rep.getLO {K:Fr0} {c:Fc} {Z:Env} {σ:St} {H:Hp} (r:Rep K c Z σ H) {i:Nat} {ds:List D} (hi:i∈c.O) (h:zc i Z=some ds) :
  ∃a xs,True/\σ[i]? = some (some (.ref a))/\H a=some (.lst xs)/\IsL K (Cn c σ) H ds xs:=by
 obtain⟨ds',a,xs,h1,h3,h4,h5⟩:=r.getO hi (qef h)
 cases h1
 exact⟨a,xs,trivial,h3,h4,h5⟩
theorem jb{H:Hp}{a b:Addr}{o u:HO}(h:b≠a)(hb:H b=some o):upd H a u b=some o:=by rw[qh h];exact hb
theorem qeg {H:Hp} {a b:Addr} {u:HO} (h:upd H a u b=none):H b=none:=by
 by_cases e:b=a
 ·subst e;rw[qk]at h;cases h
 ·rw[qh e]at h;exact h
section
variable{X:Cx}{c:Fc}{a b e:Expr}{pos:Pos}
def qZ (i:Nat) (f:M D):M D:=λZ=>match zc i Z with
 |none => .bad
 |some _=>(bnd f λd Z=>match zc i Z with
  |some ds=>if imm d&&qD (ds.length+1)then .ok (.non,Z.set i (some (.lst (ds++[d]))))else .bad
  |none => .bad) Z
theorem vy {i:Nat} {x:Str} {p1 apos:Pos} {f:M D} (he:DE X c e f) (ho:i∈c.O:=by exact of_decide_eq_true rfl) (hN:X.N[i]? = some x:=by rfl) (hv:Vis X.env.scope x:=by first|exact ybn rfl|exact yaY (ybn rfl)|exact yaY (yaY rfl)) (hd:(x==("__debug__":Str))=false:=by decide) (hcd:(x==("__classdict__":Str))=false:=by decide)
  (hbase:ydE (.Name x p1) "append" X.env (eval (.Name x p1) X.env)=eval (.Name x p1) X.env:=by rfl)
  (hfew:((yaI pos (yad [e] X.env)).all (λx => !x.1)&&(yfZ pos (yes [] X.env)).all (λx=>x.1.isSome)
   && decide ([e].length+([]:List ycY).length+(if([]:List ycY).isEmpty then 0 else 1)<30))=true:=by rfl)
  (hline:(apos.endLine==pos.line)=true:=by rfl) (hs:yad [e] X.env=(false,eval e X.env)::yad [] X.env:=by rfl) (hplain:(yaI pos (yad [] X.env)).any (·.1)=false:=by rfl) :
  DE X c (.Call (.Attribute (.Name x p1) "append" apos) [e] [] pos) (qZ i f):=by
 obtain⟨t,p,w⟩:=he
 refine⟨_,qlJ PySem.F.plainAttrs_list PySem.F.slot_list_append PySem.F.type_list_append vi (y7 hN hv hd hcd) (jc p uN hs) hbase hfew hline hs hplain,λZ σ H Q r h=>?_⟩
 unfold qZ at h
 cases e0:zc i Z with
 |none=>rw[e0]at h;exact h.elim
 | some ds0=>
  simp only[e0]at h
  obtain⟨l,xs0,_,hl,hH,_⟩:=r.getLO ho e0
  refine⟨.ref l,hl,.inl ⟨rfl,xs0,.inl (.inl hH)⟩,w Z σ H _ r (Wp.bnd h λd Z1 v H1 r1 i1 g1 h1=>?_)⟩
  cases e1:zc i Z1 with
  |none=>simp only[e1]at h1;exact h1.elim
  | some ds=>
   simp only[e1]at h1
   by_cases hb:(imm d&&qD (ds.length+1))=true
   ·rw [if_pos hb]at h1
    rw[yan]at hb
    obtain⟨l',xs,him,hl',hH',il⟩:=r1.getLO ho e1
    rw[hl]at hl'
    cases hl'
    have hsz:ds.length+1<=yas:=of_decide_eq_true hb.2
    have ext:Ext (Cn c σ) H1 (upd H1 l (.lst (xs++[v]))):=⟨λb us hb=>jb (uW hb hH' (by intro z;cases z)) hb,λb o u hb=>jb (uW hb hH' (by intro z;cases z)) hb,λb o hb hq=>jb (λe=>hb.2 i ho (by rw[hl,e])) hq⟩
    obtain ⟨r2,g2⟩:=r1.io (H':=upd H1 l (.lst (xs++[v]))) (bs:=ds++[d]) ho hl (λb o hb ho=>jb hb ho) qk trivial
     (IsL.append (IsL.ext ext (λ_ h _=>h) il) (IsL.one (Is.ext ext (λ_ h _=>h) i1))) (λb hb=>qeg hb)
    exact⟨l,xs,v,rfl,rfl,hH',by rw[il.length];omega,h1 _ _ r2 rfl g2⟩
   ·rw[if_neg hb]at h1;exact h1.elim
def qfM (i:Nat) (k f:M D):MS:=sbnd f λd Z=>match zc i Z with
 |none => .bad
 | some _=>(sbnd k λj Z=>match j,zc i Z with
  |.int n,some ds=>match ixN ds.length n with
   |some q=>if imm d then .ok (.nx (Z.set i (some (.lst (ds.set q d)))))else .bad
   |none => .bad
  |_,_ => .bad) Z
theorem qhX {i:Nat} {x:Str} {p1 p2:Pos} {ke:Expr} {f k:M D} (he:DE X c e f) (hk:DE X c ke k) (ho:i∈c.O:=by exact of_decide_eq_true rfl) (hN:X.N[i]? = some x:=by rfl) (hv:Vis X.env.scope x:=by first|exact ybn rfl|exact yaY (ybn rfl)|exact yaY (yaY rfl)) (hd:(x==("__debug__":Str))=false:=by decide) (hcd:(x==("__classdict__":Str))=false:=by decide)
  (ha:∀v,ydq (.Subscript (.Name x p1) ke p2) X.env v=(do
   let ov <-ycX [v] (eval (.Name x p1) X.env)
   let iv <-ycX [v,ov] (eval ke X.env)
   standAt p2
   ycX [v,ov,iv] (setItem ov iv v)
   release [v,ov,iv] []):=by intro _;rfl)
  (hs:ycM [.Subscript (.Name x p1) ke p2] e pos.line X.env=pure false:=by rfl) (hw:ycN [.Subscript (.Name x p1) ke p2] e X.env=pure none:=by rfl) (h1:(ybs [.Subscript (.Name x p1) ke p2] X.env).map (·.2)=[ydq (.Subscript (.Name x p1) ke p2) X.env]:=by rfl) :
  DS X c (.Assign [.Subscript (.Name x p1) ke p2] e pos) (qfM i k f):=by
 obtain⟨t,p,w⟩:=he
 obtain⟨tk,pk,wk⟩:=hk
 refine⟨_,qgE p (qjw (y7 hN hv hd hcd) pk qfz ha) hs hw h1,λZ σ H D r h=>w Z σ H _ r (Wp.sbnd h λd Z1 v H1 r1 i1 g1 h1=>?_)⟩
 cases e0:zc i Z1 with
 |none=>simp only[e0]at h1;exact h1.elim
 | some ds0=>
  simp only[e0]at h1
  obtain⟨l,xs0,_,hl,hH,_⟩:=r1.getLO ho e0
  refine⟨.ref l,hl,wk Z1 σ H1 _ r1 (Wp.sbnd h1 λj Z2 u H2 r2 i2 g2 h2=>?_)⟩
  cases j with
  | int n=>
   cases e1:zc i Z2 with
   |none=>simp only[e1]at h2;exact h2.elim
   | some ds=>
    simp only[e1]at h2
    cases e2:ixN ds.length n with
    |none=>simp only[e2]at h2;exact h2.elim
    | some q=>
     simp only[e2]at h2
     by_cases hb:imm d=true
     ·rw [if_pos hb]at h2
      obtain⟨l',xs,him,hl',hH',il⟩:=r2.getLO ho e1
      rw[hl]at hl'
      cases hl'
      cases i2
      have i3:=g2.is i1
      have ext:Ext (Cn c σ) H2 (upd H2 l (.lst (xs.set q v))):=⟨λb us hb=>jb (uW hb hH' (by intro z;cases z)) hb,λb o u hb=>jb (uW hb hH' (by intro z;cases z)) hb,λb o hb hq=>jb (λe=>hb.2 i ho (by rw[hl,e])) hq⟩
      obtain ⟨r3,g3⟩:=r2.io (H':=upd H2 l (.lst (xs.set q v))) (bs:=ds.set q d) ho hl (λb o hb ho=>jb hb ho) qk trivial
       (IsL.set (Is.ext ext (λ_ h _=>h) i3) q (IsL.ext ext (λ_ h _=>h) il)) (λb hb=>qeg hb)
      exact⟨l,xs,n,q,rfl,rfl,hH',by rw[il.length];exact e2,h2 σ _ r3 g3.s⟩
     ·rw[if_neg hb]at h2;exact h2.elim
  |_=>exact h2.elim
structure qfN (K:Fr0) (c:Fc) (Z:Env) (σ:St) (H:Hp) (a:Addr):Prop where
 val:∀i d v,Z[i]? = some (some d)->i ∉ c.O->σ[i]? = some (some v)->Is K (λb=>Cn c σ b/\b≠a) H d v
 cont:∀i ds b xs,Z[i]? = some (some (.lst ds))->i∈c.O->σ[i]? = some (some (.ref b))->H b=some (.lst xs)->IsL K (Cn c σ) H ds xs->IsL K (λb=>Cn c σ b/\b≠a) H ds xs
 own:∀j∈c.O,σ[j]? ≠ some (some (.ref a))
 new:c.H0 a=none
theorem Is.fresh{K:Fr0}{A:Addr->Prop}{H:Hp}{d:D}{v:V}{a:Addr}(h:Is K A H d v)(hn:H a=none):Is K (λb=>A b/\b≠a) H d v:=Is.ext Ext.refl (λb h1 h2=>⟨h1,λe=>by rw[e,hn]at h2;cases h2⟩) h
theorem Rep.apart {K:Fr0} {Z:Env} {σ:St} {H:Hp} {a:Addr} {o:HO} (r:Rep K c Z σ H) (hn:H a=none):qfN K c Z σ (upd H a o) a where
 val:=λi d v h1 h2 h3=>by
  obtain⟨w,h4,h5⟩:=r.get h2 h1
  rw[h3]at h4
  cases h4
  exact Is.ext (Ext.of_same (qx hn _)) (λ_ h _=>h) (h5.fresh hn)
 cont:=λi ds b xs h1 h2 h3 h4 _=>by
  obtain⟨ds',a',ys,e1,e2,e3,e4⟩:=r.getO h2 h1
  cases e1
  rw[h3]at e2
  cases e2
  have:=qx hn o _ _ e3
  rw[h4]at this
  cases this
  exact IsL.ext (Ext.of_same (qx hn _)) (λb hb hs=>⟨hb,λe=>by rw[e,hn]at hs;cases hs⟩) e4
 own:=λj hj e=>(r.new hn).2 j hj e
 new:=r.dm a hn
theorem Rep.apart_same {K:Fr0} {Z:Env} {σ:St} {H H':Hp} {a:Addr} (r:Rep K c Z σ H) (hn:H a=none) (sm:zK H H'):qfN K c Z σ H' a where
 val:=λi d v h1 h2 h3=>by
  obtain⟨w,h4,h5⟩:=r.get h2 h1
  rw[h3]at h4
  cases h4
  exact Is.ext (Ext.of_same sm) (λ_ h _=>h) (h5.fresh hn)
 cont:=λi ds b xs h1 h2 h3 h4 _=>by
  obtain⟨ds',a',ys,e1,e2,e3,e4⟩:=r.getO h2 h1
  cases e1
  rw[h3]at e2
  cases e2
  have:=sm _ _ e3
  rw[h4]at this
  cases this
  exact IsL.ext (Ext.of_same sm) (λb hb hs=>⟨hb,λe=>by rw[e,hn]at hs;cases hs⟩) e4
 own:=λj hj e=>(r.new hn).2 j hj e
 new:=r.dm a hn
def WpN (K:Fr0) (c:Fc) (σ:St) (H:Hp) (Q:VK):R (List D×Env)->Prop
 |.ok (ds,Z)=>∀a xs H',H a=none->Rep K c Z σ H'->qfN K c Z σ H' a->H' a=some (.lst xs)->True->IsL K (λb=>Cn c σ b/\b≠a) H' ds xs->Gr c.O σ H H'->Q (.ref a) H'
 |.exc x Z=>∀H',Rep K c Z σ H'->Gr c.O σ H H'->c.E x H'
 |.bad=>False
def DN(X:Cx)(c:Fc)(e:Expr)(f:M (List D)):Prop:=∃t,PE X e t/\∀Z σ H Q,Rep X.K c Z σ H->WpN X.K c σ H Q (f Z)->t σ H Q
theorem WpN.gr {K:Fr0} {σ:St} {H H1:Hp} {Q:VK}:∀{r:R (List D×Env)},WpN K c σ H Q r->Gr c.O σ H H1->WpN K c σ H1 Q r
 |.ok (d,Z),h,g=>λa xs H' hn h1 h2 h3 h4 h5 hg=>h a xs H' (g.dom a hn) h1 h2 h3 h4 h5 (g.trans hg)
 |.exc x Z,h,g=>λH' hr hg=>h H' hr (g.trans hg)
 |.bad,h,_=>h
theorem WpL.bndN {K:Fr0} {σ:St} {H:Hp} {Q:VK} {f:M (List D)} {k:List D->M (List D)} {Z:Env} {Q':List V->Hp->Prop} (h:WpN K c σ H Q (Sk.bnd f k Z)) (hQ:∀d Z' v H',Rep K c Z' σ H'->IsL K (Cn c σ) H' d v->Gr c.O σ H H'->WpN K c σ H' Q (k d Z')->Q' v H'):WpL K c σ H Q' (f Z):=by
 unfold Sk.bnd at h
 cases e:f Z with
 |ok p=>rw[e]at h;exact λv H' hr hi hg=>hQ p.1 p.2 v H' hr hi hg (h.gr hg)
 |exc x Z'=>rw[e]at h;exact h
 |bad=>rw[e]at h;exact h
def qhY(f:M (List D)):M (List D):=bnd f λds=>lift (if immL ds&&qD ds.length then some ds else none)
theorem qgR {es:List Expr} {f:M (List D)} (h:DA X c es f):DN X c (.List es pos) (qhY f):=by
 obtain⟨t,p,w⟩:=h
 refine⟨_,qgG p,λZ σ H Q r h=>w Z σ H _ r (WpL.bndN h λds Z1 vs H1 r1 i1 g1 h1=>?_)⟩
 by_cases hb:(immL ds&&qD ds.length)=true
 ·rw[if_pos hb]at h1
  rw[yan]at hb
  refine⟨by rw[i1.length];exact of_decide_eq_true hb.2,λp hp=>?_⟩
  exact h1 p vs _ hp (r1.laid hp _) (r1.apart hp) qk trivial (IsL.ext (Ext.of_same (qx hp _)) (λb h hs=>⟨h,λe=>by rw[e,hp]at hs;cases hs⟩) i1) (.of_same (qx hp _))
 ·rw[if_neg hb]at h1;exact h1.elim
theorem Cl.setO {O:List Nat} {σ:St} {i:Nat} {a b:Addr} (h:Cl O σ b) (hb:b≠a):Cl O (σ.set i (some (.ref a))) b:=λj hj e=>by
 by_cases hji:j=i
 ·subst hji
  have hl:j<σ.length:=by
   have:=(gI_.mp e).1
   rwa [lS_]at this
  rw[List.getElem?_set_self hl]at e
  cases e
  exact hb rfl
 ·rw[qV hji]at e
  exact h j hj e
theorem Rep.setO {K:Fr0} {Z:Env} {σ:St} {H:Hp} {i:Nat} {a:Addr} {ds:List D} {xs:List V} (r:Rep K c Z σ H) (hi:i∈c.O) (hP:i ∉ c.P) (ap:qfN K c Z σ H a) (ha:H a=some (.lst xs)) (him:True) (il:IsL K (λb=>Cn c σ b/\b≠a) H ds xs) :
  Rep K c (Z.set i (some (.lst ds))) (σ.set i (some (.ref a))) H where
 len:=by rw[lS_,lS_];exact r.len
 val := λj e hj=>by
  by_cases e1:j=i
  ·subst e1
   have hl:j<Z.length:=by
    have:=(gI_.mp hj).1
    rwa [lS_]at this
   rw[List.getElem?_set_self hl]at hj
   cases hj
   exact⟨.ref a,List.getElem?_set_self (by rw[<-r.len];exact hl),.inl ⟨hi,ds,a,xs,rfl,rfl,ha,IsL.ext Ext.refl (λb hb _=>⟨hb.1.1,hb.1.2.setO hb.2⟩) il⟩⟩
  ·rw [qV e1]at hj
   obtain⟨w,h1,h2⟩:=r.val j e hj
   refine⟨w,by rw[qV e1];exact h1,?_⟩
   rcases h2 with⟨g1,ds',b',xs',g3,g5,g6,g7⟩|⟨h3,h4⟩
   ·subst g3 g5
    exact .inl ⟨g1,ds',b',xs',rfl,rfl,g6,IsL.ext Ext.refl (λb hb _=>⟨hb.1.1,hb.1.2.setO hb.2⟩) (ap.cont j ds' b' xs' hj g1 h1 g6 g7)⟩
   ·exact .inr ⟨h3,Is.ext Ext.refl (λb hb _=>⟨hb.1.1,hb.1.2.setO hb.2⟩) (ap.val j e w hj h3 h1)⟩
 own := λj hj w h=>by
  by_cases e1:j=i
  ·subst e1
   have hl:j<σ.length:=by
    have:=(gI_.mp h).1
    rwa [lS_]at this
   rw[List.getElem?_set_self hl]at h
   cases h
   exact⟨a,xs,rfl,ha,.inl ap.new⟩
  ·rw[qV e1]at h
   exact r.own j hj w h
 inj := λj k b hj hk h1 h2=>by
  by_cases e1:j=i
  ·by_cases e2:k=i
   ·rw[e1,e2]
   ·subst e1
    have hl:j<σ.length:=by
     have:=(gI_.mp h1).1
     rwa [lS_]at this
    rw[List.getElem?_set_self hl]at h1
    cases h1
    rw[qV e2]at h2
    exact absurd h2 (ap.own k hk)
  ·by_cases e2:k=i
   ·subst e2
    have hl:k<σ.length:=by
     have:=(gI_.mp h2).1
     rwa [lS_]at this
    rw[List.getElem?_set_self hl]at h2
    cases h2
    rw[qV e1]at h1
    exact absurd h1 (ap.own j hj)
   ·rw[qV e1]at h1
    rw[qV e2]at h2
    exact r.inj j k b hj hk h1 h2
 b0:=r.b0
 kp:=r.kp
 dm:=r.dm
 pO:=r.pO
 ps:=λj hj=>by
  have e:j≠i:=λe=>hP (e▸hj)
  rw[qV e];exact r.ps j hj
def yr(i:Nat)(f:M (List D)):MS:=sbnd f λds Z => .ok (.nx (Z.set i (some (.lst ds))))
theorem w5 {i:Nat} {x:Str} {pos':Pos} {f:M (List D)} (hN:X.N.Nodup) (he:DN X c e f) (ho:i∈c.O:=by exact of_decide_eq_true rfl) (hP:i ∉ c.P:=by exact of_decide_eq_false rfl) (hi:X.N[i]? = some x:=by rfl) (hx:Loc X.env.scope x:=by first|exact ybn rfl|exact yaY rfl) (hs:ydp e (some (.Name x pos')) pos.line X.env=pure false:=by rfl) (hf:X.fn x=true\/X.env.scope.names.lookup x=some .local:=by first|exact .inl rfl|exact .inr rfl|assumption) :
  DS X c (.Assign [.Name x pos'] e pos) (yr i f):=by
 obtain⟨t,p,w⟩:=he
 refine⟨_,qdK hN hi hx p hs hf,λZ σ H D r h=>w Z σ H _ r ?_⟩
 unfold yr sbnd at h
 cases ef:f Z with
 |bad=>rw[ef]at h;exact h
 |exc z Z'=>rw[ef]at h;exact λH' hr hg=>h σ H' hr hg.s
 |ok q=>
  rw[ef]at h
  intro a xs H' hn r' ap ha him il g'
  exact h _ H' (r'.setO ho hP ap ha him il) ⟨g'.ext,λb hb hs=>hb.setO (λe=>by rw[e,hn]at hs;exact absurd hs (by simp)),g'.dom⟩
def qka (i:Nat):M D:=λZ=>match zc i Z with
 |some ds => .ok (.int ds.length,Z)
 |none => .bad
def qeh (i:Nat):M D:=λZ=>match zc i Z with
 |some ds => .ok (.tup ds,Z)
 |none => .bad
theorem qhZ {i:Nat} {x:Str} {p p1:Pos} (hg:Gl X "tuple") (hm:X.mg "tuple"=none) (hb:yaB "tuple"=some (.type "tuple"):=by first|rfl|exact PySem.boot_tuple) (ho:i∈c.O:=by exact of_decide_eq_true rfl) (hN:X.N[i]? = some x:=by rfl) (hv:Vis X.env.scope x:=by first|exact ybn rfl|exact yaY (ybn rfl)|exact yaY (yaY rfl)) (hd:(x==("__debug__":Str))=false:=by decide) (hcd:(x==("__classdict__":Str))=false:=by decide) :
  DE X c (.Call (.Name "tuple" p) [.Name x p1] [] pos) (qeh i):=by
 refine⟨_,qdW wV hg hm hb (jc (y7 hN hv hd hcd) uN),λZ σ H Q r h=>?_⟩
 unfold qeh at h
 cases e0:zc i Z with
 |none=>simp only[e0]at h;exact h.elim
 |some ds=>
  simp only[e0]at h
  obtain⟨l,xs,him,hl,hH,il⟩:=r.getLO ho e0
  refine⟨.ref l,hl,l,xs,rfl,.inl ⟨.inl (.inl hH),λp hp=>h _ _ (r.laid hp _) ⟨p,xs,rfl,.inl qk,?_⟩ (.of_same (qx hp _))⟩⟩
  exact IsL.ext (Ext.of_same (qx hp _)) (λ_ h _=>h) il
def qkb (i:Nat) (g:M D):M D:=λZ=>match zc i Z with
 |none => .bad
 | some _=>(bnd g λk Z=>match k,zc i Z with
  |.int n,some ds=>match atI ds n with
   |some d => .ok (d,Z)
   |none => .bad
  |_,_ => .bad) Z
theorem qkc {i:Nat} {x:Str} {p1:Pos} {g:M D} (hb:DE X c b g) (hs:qbL b:=by intro _ _;rfl) (ho:i∈c.O:=by exact of_decide_eq_true rfl) (hN:X.N[i]? = some x:=by rfl) (hv:Vis X.env.scope x:=by first|exact ybn rfl|exact yaY (ybn rfl)|exact yaY (yaY rfl)) (hd:(x==("__debug__":Str))=false:=by decide) (hcd:(x==("__classdict__":Str))=false:=by decide) :
  DE X c (.Subscript (.Name x p1) b pos) (qkb i g):=by
 obtain⟨tb,pb,wb⟩:=hb
 refine⟨_,qjN qdZ (y7 hN hv hd hcd) pb hs,λZ σ H Q r h=>?_⟩
 unfold qkb at h
 cases e0:zc i Z with
 |none=>simp only[e0]at h;exact h.elim
 | some ds0=>
  simp only[e0]at h
  obtain⟨l,xs0,_,hl,hH,_⟩:=r.getLO ho e0
  refine⟨.ref l,hl,wb Z σ H _ r (Wp.bnd h λk Z1 v H1 r1 i1 g1 h1=>?_)⟩
  cases k with
  | int n=>
   cases e1:zc i Z1 with
   |none=>simp only[e1]at h1;exact h1.elim
   | some ds=>
    simp only[e1]at h1
    cases e2:atI ds n with
    |none=>simp only[e2]at h1;exact h1.elim
    |some d=>
     simp only[e2]at h1
     obtain⟨l',xs,him,hl',hH',il⟩:=r1.getLO ho e1
     rw[hl]at hl'
     cases hl'
     cases i1
     obtain⟨w,h3,h4⟩:=il.atI e2
     exact⟨l,xs,n,w,rfl,rfl,.inl (.inl hH'),h3,h1 w H1 r1 h4 .refl⟩
  |_=>exact h1.elim
end
def cfn (O P:List Nat) (A:Addr->Prop) (H:Hp) (Io:Addr->Prop) (E:Exn->Hp->Prop) (S:Nat->Option (Option V)):Fc where
 O:=O
 P:=P
 B:=λa=>A a\/H a=none
 H0:=H
 Io:=Io
 E:=E
 S:=S
def jm(n:Nat)(ds:List D):Env:=ds.map some++yak (n-ds.length) none
def spD (K:Fr0) (F:List D->R D):Sp:=λvs H Q _=>∃ds A,IsL K A H ds vs/\wW K H/\match F ds with
 |.ok d=>∀v H',zK H H'->Is K (λa=>A a\/H a=none) H' d v->Q v H'
 |_=>False
def qgS (K:Fr0) (F:List D->List D->R (D×List D)):Sp:=λvs H Q _=>∃(bs ds:List D)(A:Addr->Prop)(a:Addr)(xs vs':List V),vs=.ref a::vs'/\H a=some (.lst xs)/\wW K H/\IsL K A H bs xs/\¬A a/\IsL K A H ds vs'/\match F bs ds with
 |.ok (d,bs')=>∀v H' xs',(∀b o,b≠a->H b=some o->H' b=some o)->(∀b,H' b=none->H b=none)->H' a=some (.lst xs')->True->IsL K (λb=>A b\/H b=none) H' bs' xs'->Is K (λb=>A b\/H b=none) H' d v->Q v H'
 |_=>False
def dfn (n p:Nat) (body:MS) (ds:List D):R D:=if ds.length=p then match body (jm n ds) with
 |.ok (.rt d _) => .ok d
 |.ok (.nx _) => .ok .non
 |_ => .bad else .bad
def w6 (n p:Nat) (body:MS) (bs ds:List D):R (D×List D):=if ds.length+1=p then match body (jm n (.lst bs::ds)) with
 |.ok (.rt d Z)=>match zc 0 Z with
  |some bs' => .ok (d,bs')
  |none => .bad
 |.ok (.nx Z)=>match zc 0 Z with
  |some bs' => .ok (.non,bs')
  |none => .bad
 |_ => .bad else .bad
theorem ub {N:List Str} {vs:List V} {i:Nat} {v:V} (h:(zf N vs)[i]? = some (some v)):vs[i]? = some v:=by
 unfold zf at h
 by_cases hi:i<vs.length
 ·rw[List.getElem?_append_left (by simpa using hi),gM_]at h
  cases e:vs[i]? with
  |none=>rw[e]at h;cases h
  |some w=>rw[e]at h;cases h;rfl
 ·rw[List.getElem?_append_right (by simpa using hi),List.getElem?_replicate]at h
  split at h<;>cases h
theorem u6 {N:List Str} {vs:List V} {i:Nat} {v:V} (h:vs[i]? = some v):(zf N vs)[i]? = some (some v):=by
 unfold zf
 have hi:i<vs.length:=(gI_.mp h).1
 rw[List.getElem?_append_left (by simpa using hi),gM_,h];rfl
theorem qa3 {n:Nat} {ds:List D} {i:Nat} {d:D} (h:(jm n ds)[i]? = some (some d)):ds[i]? = some d:=by
 unfold jm at h
 by_cases hi:i<ds.length
 ·rw[List.getElem?_append_left (by simpa using hi),gM_]at h
  cases e:ds[i]? with
  |none=>rw[e]at h;cases h
  |some w=>rw[e]at h;cases h;rfl
 ·rw[List.getElem?_append_right (by simpa using hi),List.getElem?_replicate]at h
  split at h<;>cases h
theorem vz {K:Fr0} {N:List Str} {O:List Nat} {A:Addr->Prop} {H:Hp} {E:Exn->Hp->Prop} {ds:List D} {vs:List V} (il:IsL K A H ds vs) (tb:wW K H) (hO:∀i∈O,ds.length<=i) :
  Rep K (cfn O [] A H (λ_=>False) E λ_=>none) (jm N.length ds) (zf N vs) H where
 len:=by unfold jm zf;simp[il.length]
 val:=λi d h=>by
  have h1:=qa3 h
  obtain⟨v,h2,h3⟩:=il.get h1
  have hi:i ∉ O:=λz=>by
   have:=(gI_.mp h1).1
   have:=hO i z
   omega
  refine⟨v,u6 h2,.inr ⟨hi,Is.ext Ext.refl (λa ha _=>⟨.inl ha,λj hj e=>?_⟩) h3⟩⟩
  have:=(gI_.mp (ub e)).1
  have:=hO j hj
  rw[il.length]at *
  omega
 own:=λj hj v h=>by
  have:=(gI_.mp (ub h)).1
  have:=hO j hj
  rw[il.length]at *
  omega
 inj:=λi j a hi hj h1 h2=>by
  have:=(gI_.mp (ub h1)).1
  have:=hO i hi
  rw[il.length]at *
  omega
 b0:=⟨λa h => .inr h,tb⟩
 kp:=λb o h _=>h
 dm:=λb h=>h
 pO:=λj hj=>by cases hj
 ps:=λj hj=>by cases hj
section
variable{P:yaj}{w:World}{K:yah}{mg:Str->Option Value}{base:Heap}
theorem je {x qual:Str} {st:Stmt} {f:Addr} {fd:yaL} {N ps:List Str} {k:Nat} {O:List Nat} {body:MS} (F:Fun K x qual st f fd) (S:qu N ps (qd st)) (hO:∀i∈O,ps.length<=i)
  (hb:∀(cdv:Value)(A:yam)(outer:List yaN)(s:yab)(H:Hp)(E:XK)(B:Addr->Prop),yc k (A.deeper (ybd qual (qd st) s.heap.objs.size f cdv)) ->
   DSs (qfg CX0 P w K mg base N qual (qd st) f cdv A outer s H E).nox (cfn O [] B H (λ_=>False) (λ_ _=>False) λ_=>none) (qt st) body) :
  uq P w K mg base CX0 (k+1) f fd ps (spD K (dfn N.length ps.length body)):=by
 refine F.ok S (λvs H Q E h=>?_) (λcdv A outer s H vs Q E hr h=>?_)
 ·obtain⟨ds,B,il,_,h⟩:=h
  unfold dfn at h
  by_cases e:ds.length=ps.length
  ·rw[il.length];exact e
  ·rw[if_neg e]at h;exact h.elim
 ·obtain ⟨ds,B,il,tb,h⟩:=h
  obtain⟨t,p,wt⟩:=hb cdv A outer s H E B hr
  refine⟨t,p,?_⟩
  unfold dfn at h
  by_cases e:ds.length=ps.length
  ·rw [if_pos e]at h
   refine wt (jm N.length ds) (zf N vs) H _ (vz il tb (λi hi=>by rw[e];exact hO i hi)) ?_
   have same:∀{Z:Env}{σ:St}{H':Hp},Rep K (cfn O [] B H (λ_=>False) (λ_ _=>False) λ_=>none) Z σ H'->zK H H':=λr b o hb=>r.kp b o hb λz=>z
   cases eb:body (jm N.length ds) with
   |bad=>rw[eb]at h;exact h.elim
   |exc z Z=>rw[eb]at h;exact h.elim
   |ok fl=>
    rw[eb]at h
    cases fl with
    |nx Z=>exact λσ' H' r' _=>h .non H' (same r') rfl
    |rt d Z=>exact λv σ' H' r' i' _=>h v H' (same r') i'
    |bk Z=>exact h.elim
    |ct Z=>exact h.elim
  ·rw[if_neg e]at h;exact h.elim
theorem qkd {x qual:Str} {st:Stmt} {f:Addr} {fd:yaL} {N ps:List Str} {k:Nat} {O:List Nat} {body:MS} (F:Fun K x qual st f fd) (S:qu N ps (qd st)) (hO:∀i∈O,i=0\/ps.length<=i) (h0:0∈O)
  (hb:∀(cdv:Value)(A:yam)(outer:List yaN)(s:yab)(H:Hp)(E:XK)(B Io:Addr->Prop)(S:Nat->Option (Option V)),yc k (A.deeper (ybd qual (qd st) s.heap.objs.size f cdv)) ->
   DSs (qfg CX0 P w K mg base N qual (qd st) f cdv A outer s H E).nox (cfn O [0] B H Io (λ_ _=>False) S) (qt st) body) :
  uq P w K mg base CX0 (k+1) f fd ps (qgS K (w6 N.length ps.length body)):=by
 refine F.ok S (λvs H Q E h=>?_) (λcdv A outer s H vs Q E hr h=>?_)
 ·obtain⟨bs,ds,B,a,xs,vs',rfl,ha,him,ib,nA,il,h⟩:=h
  unfold w6 at h
  by_cases e:ds.length+1=ps.length
  ·rw[lC_,il.length];exact e
  ·rw[if_neg e]at h;exact h.elim
 ·obtain ⟨bs,ds,B,a,xs,vs',rfl,ha,him,ib,nA,il,h⟩:=h
  obtain⟨t,p,wt⟩:=hb cdv A outer s H E B (λb=>b=a) (λj=>(zf N (.ref a::vs'))[j]?) hr
  refine⟨t,p,?_⟩
  unfold w6 at h
  by_cases e:ds.length+1=ps.length
  ·rw [if_pos e]at h
   have only:∀j∈O,∀v,(zf N (.ref a::vs'))[j]? = some (some v)->j=0/\v=.ref a:=λj hj v hv=>by
    have h1:=ub hv
    rcases hO j hj with z|z
    ·subst z;cases h1;exact⟨rfl,rfl⟩
    ·have:=(gI_.mp h1).1
     rw[lC_,il.length]at this
     omega
   have r0:Rep K (cfn O [0] B H (λb=>b=a) (λ_ _=>False) λj=>(zf N (.ref a::vs'))[j]?) (jm N.length (.lst bs::ds)) (zf N (.ref a::vs')) H:=by
    refine⟨by unfold jm zf;simp[il.length],λi d hd=>?_,λj hj v hv=>?_,λi j b hi hj h1 h2=>?_,⟨λb hb => .inr hb,λq P pos eP=>⟨(him q P pos eP).1,λz=>by have:=(him q P pos eP).1;rw[z,ha]at this;cases this⟩⟩,λb o hb _=>hb,λb hb=>hb,λj hj=>?_,λ_ _=>rfl⟩
    ·have h1:=qa3 hd
     cases i with
     |zero=>
      cases h1
      exact⟨.ref a,u6 rfl,.inl ⟨h0,bs,a,xs,rfl,rfl,ha,IsL.ext Ext.refl (λb hb _=>⟨.inl hb,λj hj e2=>by obtain⟨_,e3⟩:=only j hj _ e2;cases e3;exact nA hb⟩) ib⟩⟩
     | succ i=>
      have h1':ds[i]? = some d:=by simpa using h1
      obtain⟨v,h2,h3⟩:=il.get h1'
      have hi:i+1 ∉ O:=λz=>by
       have h4:=(gI_.mp h1').1
       rcases hO _ z with q|q
       ·cases q
       ·omega
      refine⟨v,u6 (by simpa using h2),.inr ⟨hi,Is.ext Ext.refl (λb hb _=>⟨.inl hb,λj hj e2=>?_⟩) h3⟩⟩
      obtain⟨_,e3⟩:=only j hj _ e2
      cases e3
      exact nA hb
    ·obtain⟨rfl,rfl⟩:=only j hj v hv
     exact⟨a,xs,rfl,ha,.inr ⟨by simp[cfn],rfl⟩⟩
    ·rw[(only i hi _ h1).1,(only j hj _ h2).1]
    ·have:j=0:=by simpa [cfn] using hj
     rw[this];exact h0
   refine wt _ _ H _ r0 ?_
   have fin:∀{Z:Env}{σ:St}{H':Hp}{bs':List D},Rep K (cfn O [0] B H (λb=>b=a) (λ_ _=>False) λj=>(zf N (.ref a::vs'))[j]?) Z σ H'->zc 0 Z=some bs' ->
     ∃xs',H' a=some (.lst xs')/\True/\IsL K (λb=>B b\/H b=none) H' bs' xs':=λ{Z σ H' bs'} r e1=>by
    obtain⟨l,ys,h1,h2,h3,h4⟩:=r.getLO h0 e1
    have h5:=r.ps 0 (by simp[cfn])
    have h6:(cfn O [0] B H (λb=>b=a) (λ_ _=>False) λj=>(zf N (.ref a::vs'))[j]?).S 0=some (some (.ref a)):=u6 rfl
    rw[h2,h6]at h5
    cases h5
    exact⟨ys,h3,h1,IsL.ext Ext.refl (λb hb _=>hb.1) h4⟩
   have kps:∀{Z:Env}{σ:St}{H':Hp},Rep K (cfn O [0] B H (λb=>b=a) (λ_ _=>False) λj=>(zf N (.ref a::vs'))[j]?) Z σ H'->∀b o,b≠a->H b=some o->H' b=some o:=λr b o hb ho=>r.kp b o ho hb
   cases eb:body (jm N.length (.lst bs::ds)) with
   |bad=>rw[eb]at h;exact h.elim
   |exc z Z=>rw[eb]at h;exact h.elim
   | ok fl=>
    rw[eb]at h
    cases fl with
    | nx Z=>
     cases eg:zc 0 Z with
     |none=>simp only[eg]at h
     | some bs'=>
      simp only[eg]at h
      exact λσ' H' r' _=>by
       obtain⟨xs',h1,h2,h3⟩:=fin r' eg
       exact h .non H' xs' (kps r') (λb hb=>r'.dm b hb) h1 h2 h3 rfl
    | rt d Z=>
     cases eg:zc 0 Z with
     |none=>simp only[eg]at h
     | some bs'=>
      simp only[eg]at h
      exact λv σ' H' r' i' _=>by
       obtain⟨xs',h1,h2,h3⟩:=fin r' eg
       exact h v H' xs' (kps r') (λb hb=>r'.dm b hb) h1 h2 h3 i'
    |bk Z=>exact h.elim
    |ct Z=>exact h.elim
  ·rw[if_neg e]at h;exact h.elim
end
section
variable{X:Cx}{c:Fc}{a b e:Expr}{pos:Pos}
def qr (F:List D->R D) (g:M (List D)):M D:=bnd g λds Z=>match F ds with
 |.ok d => .ok (d,Z)
 |_ => .bad
theorem qh0 {k:Nat} {f:Addr} {fd:yaL} {ps:List Str} {F:List D->R D} {x:Str} {p:Pos} {es:List Expr} {g:M (List D)} (G:uq X.prog X.w X.K X.mg X.base CX0 k f fd ps (spD X.K F)) (hr:yc k X.A) (hg:Gl X x) (hm:X.mg x=some (.ref f)) (hk:yaq X.K (.ref f)=true) (hb:yt X.K fd ps [])
  (ha:DA X c (e::es) g) (hd:(x==("__debug__":Str))=false:=by decide) (he:yad (e::es) X.env=(false,eval e X.env)::yad es X.env:=by rfl) (hpl:(yaI pos (yad es X.env)).any (·.1)=false:=by rfl):DE X c (.Call (.Name x p) (e::es) [] pos) (qr F g):=by
 obtain⟨t,pa,w⟩:=ha
 refine⟨_,ve G hr hg hm hk hb .nil qhK pa hd he hpl,λZ σ H Q r h=>w Z σ H _ r (WpL.bnd h λds Z1 vs H1 r1 i1 g1 h1=>?_)⟩
 rw[yaK]
 refine⟨ds,Cn c σ,i1,r1.tb,?_⟩
 cases ef:F ds with
 |bad=>simp only[ef]at h1;exact h1.elim
 |exc z Z'=>simp only[ef]at h1;exact h1.elim
 |ok d=>
  simp only[ef]at h1
  exact λv H' sm i=>h1 v H' (r1.same sm) (Is.ext Ext.refl (λa ha _=>ha.elim id r1.new) i) (.of_same sm)
def qL (F:List D->List D->R (D×List D)) (i:Nat) (g:M (List D)):M D:=λZ=>match zc i Z with
 |none => .bad
 | some _=>(bnd g λds Z=>match zc i Z with
  |none => .bad
  |some bs=>match F bs ds with
   |.ok (d,bs') => .ok (d,Z.set i (some (.lst bs')))
   |_ => .bad) Z
theorem qei {k i:Nat} {f:Addr} {fd:yaL} {ps:List Str} {F:List D->List D->R (D×List D)} {x y:Str} {p p1:Pos} {es:List Expr} {g:M (List D)} (G:uq X.prog X.w X.K X.mg X.base CX0 k f fd ps (qgS X.K F)) (hr:yc k X.A) (hg:Gl X x) (hm:X.mg x=some (.ref f)) (hk:yaq X.K (.ref f)=true) (hb:yt X.K fd ps [])
  (ha:DA X c es g) (ho:i∈c.O:=by exact of_decide_eq_true rfl) (hN:X.N[i]? = some y:=by rfl) (hv:Vis X.env.scope y:=by first|exact ybn rfl|exact yaY (ybn rfl)|exact yaY (yaY rfl)) (hdy:(y==("__debug__":Str))=false:=by decide) (hcd:(y==("__classdict__":Str))=false:=by decide)
  (hd:(x==("__debug__":Str))=false:=by decide) (he:yad (.Name y p1::es) X.env=(false,eval (.Name y p1) X.env)::yad es X.env:=by rfl) (hpl:(yaI pos (yad es X.env)).any (·.1)=false:=by rfl):DE X c (.Call (.Name x p) (.Name y p1::es) [] pos) (qL F i g):=by
 obtain⟨t,pa,w⟩:=ha
 refine⟨_,ve G hr hg hm hk hb .nil qhK (jc (y7 hN hv hdy hcd) pa he) hd he hpl,λZ σ H Q r h=>?_⟩
 unfold qL at h
 cases e0:zc i Z with
 |none=>simp only[e0]at h;exact h.elim
 | some ds0=>
  simp only[e0]at h
  obtain⟨l,xs0,_,hl,hH,_⟩:=r.getLO ho e0
  refine⟨.ref l,hl,w Z σ H _ r (WpL.bnd h λds Z1 vs H1 r1 i1 g1 h1=>?_)⟩
  show qgS X.K F (.ref l::vs++[]) H1 Q E0
  rw[yaK]
  cases e1:zc i Z1 with
  |none=>simp only[e1]at h1;exact h1.elim
  | some bs=>
   simp only[e1]at h1
   obtain⟨l',xs,him,hl',hH',il⟩:=r1.getLO ho e1
   rw[hl]at hl'
   cases hl'
   refine⟨bs,ds,Cn c σ,l,xs,vs,rfl,hH',r1.tb,il,λhc=>hc.2 i ho hl,i1,?_⟩
   cases ef:F bs ds with
   |bad=>simp only[ef]at h1;exact h1.elim
   |exc z Z'=>simp only[ef]at h1;exact h1.elim
   |ok q=>
    obtain⟨d,bs'⟩:=q
    simp only[ef]at h1
    intro v H' xs' kp dm ha2 him2 il2 i2
    obtain⟨r2,g2⟩:=r1.io (bs:=bs') ho hl kp ha2 him2 (IsL.ext Ext.refl (λa ha _=>ha.elim id r1.new) il2) dm
    exact h1 v H' r2 (Is.ext Ext.refl (λa ha _=>ha.elim id r1.new) i2) g2
end
def qfO:Key->PyData
 |.inl i => .int i
 |.inr x => .str x
mutual
def zB:D->PyData
 |.non => .none
 |.bl b => .bool b
 |.int i => .int i
 |.str x => .str x
 |.tup ds => .tuple (toPDs ds)
 |.lst ds => .list (toPDs ds)
 |.dic kvs => .dict (kvs.map λp=>(qfO p.1,.int p.2))
 |.fz ns => .list (ns.map .int)
 |.exc _ => .dict [(.int (2 ^ 2000),.none)]
def toPDs:List D->List PyData
 | []=>[]
 |d::ds=>zB d::toPDs ds
end
mutual
def noL:D->Bool
 |.tup ds=>noLs ds
 |.lst _=>false
 |.fz _=>false
 |_=>true
def noLs:List D->Bool
 | []=>true
 |d::ds=>noL d&&noLs ds
end
mutual
def noX:D->Bool
 |.tup ds=>noXs ds
 |.lst ds=>noXs ds
 |.exc _=>false
 |_=>true
def noXs:List D->Bool
 | []=>true
 |d::ds=>noX d&&noXs ds
end
mutual
theorem qgT:∀{d:D},(zB d).showable=true->noX d=true
 |.non,_=>rfl
 |.bl _,_=>rfl
 |.int _,_=>rfl
 |.str _,_=>rfl
 |.tup ds,h=>by unfold noX;exact noXs_sh (by simpa [zB,yc9] using h)
 |.lst ds,h=>by unfold noX;exact noXs_sh (by simpa [zB,yc9] using h)
 |.dic _,_=>rfl
 |.fz _,_=>rfl
 |.exc _,h=>by
  have e:(PyData.dict [(.int (2 ^ 2000),.none)]).showable=false:=by decide +kernel
  rw[show zB (.exc _)=PyData.dict [(.int (2 ^ 2000),.none)]from rfl,e]at h
  cases h
theorem noXs_sh:∀{ds:List D},yb4 (toPDs ds)=true->noXs ds=true
 | [],_=>rfl
 |d::ds,h=>by
  have h':(zB d).showable=true/\yb4 (toPDs ds)=true:=by simpa [toPDs,yb4] using h
  unfold noXs
  rw[qgT h'.1,noXs_sh h'.2];rfl
end
mutual
theorem qej:∀{d:D},(zB d).canLay0=true->noX d=true
 |.non,_=>rfl
 |.bl _,_=>rfl
 |.int _,_=>rfl
 |.str _,_=>rfl
 |.tup ds,h=>by unfold noX;exact noXs_lay (by simpa [zB,ycB] using h)
 |.lst ds,h=>by unfold noX;exact noXs_lay (by simpa [zB,ycB] using h)
 |.dic _,_=>rfl
 |.fz _,_=>rfl
 |.exc _,h=>by simp[zB,ycB]at h
theorem noXs_lay:∀{ds:List D},ydN (toPDs ds)=true->noXs ds=true
 | [],_=>rfl
 |d::ds,h=>by
  have h':(zB d).canLay0=true/\ydN (toPDs ds)=true:=by simpa [toPDs,ydN] using h
  unfold noXs
  rw[qej h'.1,noXs_lay h'.2];rfl
end
theorem uc {h:Heap}:∀{ns:List Int}{us:List Value},qO (ns.map V.int) us->∃as,yf1 h us (ns.map .int) as
 | [],us,r=>by
  rw[ycv]at r;cases r;exact⟨[],.nil⟩
 | n::ns,us,r=>by
  rw[mC_]at r
  cases r with
  |cons r1 r2=>
   obtain⟨t,e⟩:=r1
   subst e
   obtain⟨as,q⟩:=uc (ns:=ns) r2
   exact⟨[]++as,.cons (.int n t) q⟩
theorem qbS{α:Type}{x:α}{l l':List α}(h1:x ∉ l)(h2:x ∉ l'):x ∉ l++l':=λh=>(mA_.mp h).elim h1 h2
theorem vA {P:yaj} {w:World} {h:Heap}:∀{kvs:List (Key×Int)}{es:List DictEntry}{vs:List (Key×Value)},KV (kvs.map λp=>(p.1,V.int p.2)) vs->Pairs (wQ P w) es vs ->
  yf1 h (es.map (·.key)) ((kvs.map λp=>(qfO p.1,PyData.int p.2)).map (·.1)) []/\yf1 h (es.map (·.val)) ((kvs.map λp=>(qfO p.1,PyData.int p.2)).map (·.2)) []
 | [],es,vs,r,p=>by
  have r':KV ([]:List (Key×V)) vs:=r
  unfold KV at r'
  cases r'
  cases p
  exact⟨.nil,.nil⟩
 | (k,i)::kvs,es,vs,r,p=>by
  have r':KV ((k,V.int i)::kvs.map λp=>(p.1,V.int p.2)) vs:=r
  unfold KV at r'
  cases r' with
  | cons r1 r2=>
   cases p with
   | cons p1 p2 p3=>
    obtain⟨q1,q2⟩:=vA (h:=h) (kvs:=kvs) r2 p3
    obtain⟨e1,t,e2⟩:=r1
    have hk:∀{e:DictEntry}{kv:Key×Value},k=kv.1->(wQ P w).is kv.1 e.key=true->Reads h e.key (qfO k) []:=λ{e kv} hk hi=>by
     subst hk
     rcases qQ hi with⟨i,t,e1,e2⟩|⟨x,t,e1,e2⟩
     ·rw[e1,e2];exact .int i t
     ·rw[e1,e2];exact .str x t
    refine⟨.cons (as:=[]) (bs:=[]) (hk e1 p1) q1,.cons (as:=[]) (bs:=[]) ?_ q2⟩
    show Reads h _ (.int i) []
    dsimp only
    rw[p2,e2]
    exact .int i t
section
variable{X:Cx}{pins:List (Addr×Obj)}{σ:St}{H:Hp}{s:yab}{A:Addr->Prop}
mutual
theorem z6 (I:Inv X pins σ H s):∀{d:D}{v:V}{u:Value},noX d=true->Is X.K A H d v->zJ v u->∃as,Reads s.heap u (zB d) as/\(noL d=true->ydS ∉ as)
 |.non,_,_,_,h,r=>by cases h;cases r;exact⟨[],.none,by simp⟩
 |.bl b,_,_,_,h,r=>by cases h;cases r;exact⟨[],.bool b,by simp⟩
 |.int i,_,_,_,h,r=>by cases h;obtain⟨t,rfl⟩:=r;exact⟨[],.int i t,by simp⟩
 |.str x,_,_,_,h,r=>by cases h;obtain⟨t,rfl⟩:=r;exact⟨[],.str x t,by simp⟩
 |.tup ds,_,_,nx,⟨a,xs,hv,ta,il⟩,r=>by
  subst hv
  cases r
  obtain⟨its,rv,p,_⟩:=I.tuple ta.sq
  obtain⟨o,h1,h2,n,h3⟩:=p
  obtain⟨as,q,nl⟩:=readsL_of I (by simpa [noX] using nx) il rv
  exact⟨as,.tuple h1 h2 h3 (by simpa using q),λz=>nl (by simpa [noL] using z)⟩
 |.lst ds,_,_,nx,⟨a,xs,hv,_,ta,il⟩,r=>by
  subst hv
  cases r
  obtain⟨its,rv,p,_⟩:=I.list (SqL.of ta)
  obtain⟨o,h1,h2,n,h3⟩:=p.isList
  obtain⟨as,q,nl⟩:=readsL_of I (by simpa [noX] using nx) il rv
  exact⟨a::as,.list h1 h2 h3 (by simpa using q),λz=>by simp[noL]at z⟩
 |.dic kvs,_,_,_,⟨a,hv,_,ta⟩,r=>by
  subst hv
  cases r
  obtain⟨hz,hS,vs,rk,o,es,ep,h1,h2,h3,h4,h5,h6⟩:=(show jj X.prog X.w H s.heap a (.dK _)from I.hok a _ ta)
  obtain⟨q1,q2⟩:=vA (h:=s.heap) rk h5
  refine⟨_,Reads.dict (as:=[]) (bs:=[]) h1 h2.1 h3 q1 q2,λ_ hm=>?_⟩
  have:ydS=a:=by simpa using hm
  rw[<-this]at hS
  simp at hS
 |.exc _,_,_,nx,_,_=>by simp[noX]at nx
 |.fz ns,_,_,_,⟨a,hv,ta⟩,r=>by
  subst hv
  cases r
  obtain⟨its,rv,p,_⟩:=I.list ta.sq
  obtain⟨o,h1,h2,n,h3⟩:=p.isList
  obtain⟨as,q⟩:=uc rv
  exact⟨a::as,.list h1 h2 h3 (by simpa using q),λz=>by simp[noL]at z⟩
theorem readsL_of (I:Inv X pins σ H s):∀{ds:List D}{xs:List V}{us:List Value},noXs ds=true->IsL X.K A H ds xs->qO xs us->∃as,yf1 s.heap us (toPDs ds) as/\(noLs ds=true->ydS ∉ as)
 | [],_,_,_,h,r=>by cases h;cases r;exact⟨[],.nil,by simp⟩
 | d :: ds,_,_,nx,⟨x,ys,hx,h1,h2⟩,r=>by
  subst hx
  cases r with
  | cons r1 r2=>
   have nx':noX d=true/\noXs ds=true:=by simpa [noXs] using nx
   obtain⟨as,q1,n1⟩:=z6 I nx'.1 h1 r1
   obtain⟨bs,q2,n2⟩:=readsL_of I nx'.2 h2 r2
   exact ⟨as++bs,.cons q1 q2,λz=>by
    have z':noL d=true/\noLs ds=true:=by simpa [noLs] using z
    exact qbS (n1 z'.1) (n2 z'.2)⟩
end
end
def vB(d:D):Bool:=(zB d).showable&&decide ((zB d).shown.length<=yas)&&decide ((zB d).depth<=50)&&(!(zB d).hasDict||noL d)
def qke(K:Fr0):List V->Hp->VK->Prop:=λxs H Q=>∃v d A,xs=[v]/\Is K A H d v/\vB d=true/\Q (.str (zB d).shown) H
section
variable{X:Cx}
theorem js {k:Nat} (hr:yc k X.A):j8 X (.builtin "repr") (qke X.K):=by
 intro pins s σ H xs us Q I r h
 obtain⟨v,d,A,rfl,hi,ok,q⟩:=h
 obtain⟨u,rfl,ru⟩:=qO.one r
 unfold vB at ok
 simp only[yan,decide_eq_true_eq]at ok
 obtain⟨⟨⟨o1,o2⟩,o3⟩,o4⟩:=ok
 obtain⟨as,rd,nl⟩:=z6 I (qgT o1) hi ru
 have hun:=hr.un
 have big:∀a,u=.ref a->wpAny (model X.prog X.w) X.A (call (.builtin "repr") [u]) (EP X pins σ Q) X.xe s:=λa e=>by
  subst e
  refine repr_of_reads' rd o1 (λhd=>nl ?_) hr.gd (by omega) (λ_ _ e=>e) (λh' u tk hk=>⟨.str _,H,I.kept hk,⟨_,rfl⟩,q⟩) o2
  rw[hd]at o4
  simpa using o4
 cases d with
 |non=>cases hi;cases ru;exact PySem.P.repr_of_none ⟨.str _,H,I.tok _,⟨_,rfl⟩,q⟩
 |bl b=>cases hi;cases ru;exact PySem.P.repr_of_bool ⟨.str _,H,I.tok _,⟨s.toks,by cases b<;>rfl⟩,q⟩
 |int i=>
  cases hi;obtain⟨t,rfl⟩:=ru
  exact PySem.P.repr_of_int (of_decide_eq_true o1) ⟨.str _,H,I.tok _,⟨_,rfl⟩,q⟩
 |str x=>cases hi;obtain⟨t,rfl⟩:=ru;exact PySem.P.repr_of_str ⟨.str _,H,I.tok _,⟨_,rfl⟩,q⟩ o2
 |tup ds=>obtain⟨a,zs,rfl,_⟩:=hi;exact big a ru
 |lst ds=>obtain⟨a,zs,rfl,_⟩:=hi;exact big a ru
 |dic kvs=>obtain⟨a,rfl,_⟩:=hi;exact big a ru
 |fz ns=>obtain⟨a,rfl,_⟩:=hi;exact big a ru
 |exc C=>obtain⟨a,rfl,_⟩:=hi;exact big a ru
end
def zd:List D->Option D
 | [d]=>if vB d then some (.str (zB d).shown)else none
 |_=>none
theorem jt {K:Fr0}:wY K zd (qke K):=by
 intro A H xs d vs Q hn h e k
 unfold zd at e
 split at e
 ·rename_i d0
  obtain⟨v,rfl,e2⟩:=IsL.inv1 h
  obtain⟨e6,e7⟩:=zj e
  subst e7
  exact⟨v,d0,A,rfl,e2,e6,k _ H (zK.refl H) rfl⟩
 ·cases e
def qaM(d:D):Bool:=(zB d).canLay0&&decide ((zB d).depth<=50)
def qfi(K:Fr0)(neg:Bool):R2:=λx y H Q=>∃d e A,Is K A H d x/\Is K A H e y/\qaM d=true/\qaM e=true/\Q (.bl (if neg then !yci (zB d) (zB e)else yci (zB d) (zB e))) H
section
variable{X:Cx}
theorem uz {d:D} (h:qaM d=true):SeqAt.shaped (zB d)=true:=by
 unfold qaM at h
 unfold SeqAt.shaped
 simp only[yan,decide_eq_true_eq]at h |-
 exact⟨h.1,by omega⟩
theorem uR {d:D} (h:qaM d=true):noX d=true:=by
 unfold qaM at h
 rw[yan]at h
 exact qej h.1
theorem qkf {k:Nat} (hr:yc k X.A):OpR X (yaS .Eq) (qfi X.K false):=by
 intro pins s σ H x y v u Q I rx ry h
 obtain⟨d,e,A,h1,h2,o1,o2,q⟩:=h
 obtain⟨as,r1,_⟩:=z6 I (uR o1) h1 rx
 obtain⟨bs,r2,_⟩:=z6 I (uR o2) h2 ry
 exact yeu r1 r2 (uz o1) (uz o2) hr.units ⟨.bl _,H,I,rfl,by simpa using q⟩
theorem qkg {k:Nat} (hr:yc k X.A):OpR X (yaS .NotEq) (qfi X.K true):=by
 intro pins s σ H x y v u Q I rx ry h
 obtain⟨d,e,A,h1,h2,o1,o2,q⟩:=h
 obtain⟨as,r1,_⟩:=z6 I (uR o1) h1 rx
 obtain⟨bs,r2,_⟩:=z6 I (uR o2) h2 ry
 exact SeqAt.compareNe_shaped r1 r2 (uz o1) (uz o2) hr.units ⟨.bl _,H,I,rfl,by simpa using q⟩
end
def eqA(x y:D):Option D:=if qaM x&&qaM y then some (.bl (yci (zB x) (zB y)))else none
def neA(x y:D):Option D:=if qaM x&&qaM y then some (.bl (!yci (zB x) (zB y)))else none
theorem qh1 {K:Fr0}:OpS K eqA (qfi K false):=by
 intro A H x y d v u Q hn ix iy e k
 obtain⟨e1,e2⟩:=zj e
 rw[yan]at e1
 subst e2
 exact⟨x,y,A,ix,iy,e1.1,e1.2,k _ H (zK.refl H) rfl⟩
theorem qh2 {K:Fr0}:OpS K neA (qfi K true):=by
 intro A H x y d v u Q hn ix iy e k
 obtain⟨e1,e2⟩:=zj e
 rw[yan]at e1
 subst e2
 exact⟨x,y,A,ix,iy,e1.1,e1.2,k _ H (zK.refl H) rfl⟩
section
variable{X:Cx}{c:Fc}{a b e:Expr}{pos:Pos}
def qmB (i:Nat) (g:M D):M D:=λZ=>match zc i Z with
 |none => .bad
 |some _=>(bnd g λy Z=>match zc i Z with
  |none => .bad
  |some ds=>lift (neA (.lst ds) y) Z) Z
end
section
variable{prog:yaj}{w:World}{A:yam}{E:Value->yab->Prop}{s:yab}
theorem qh3 {it tu:Addr} {k:Nat} {arr:Array Value} {x:Value} {Q:Value->yab->Prop} (hI:s.heap.IsTupleIter it tu k) (hT:s.heap.IsTuple tu arr) (hx:arr[k]? = some x)
  (q:∀h',h'.IsTupleIter it tu (k+1)->ya6 it s.heap h'->Q x {s with heap:=h' }):wpAny (model prog w) A (yaA (.ref it)) Q E s:=by
 obtain⟨ob,e1,e2,e3⟩:=id hI
 obtain⟨ot,f1,_,m,f2⟩:=hT
 unfold yaA
 refine yaa (wpAny_callSpecial?_slot (name:=ybo "__next__") hI.typeIs ybN (yaR ybN hI.typeIs ydv ?_ (ydj _)))
 show wpAny (model prog w) _ (field (yae it) 0 >>= _) _ _ s
 refine yaa (yaD e1 e3 (x:=yae tu) rfl ?_)
 show wpAny (model prog w) _ (if(yae tu==yap)=true then _ else _) _ _ s
 rw[if_neg (show ¬((yae tu==yap)=true)from yal)]
 show wpAny (model prog w) _ (field (yae it) 1 >>= _) _ _ s
 refine yaa (yaD e1 e3 (x:=ycW k 0) rfl ?_)
 show wpAny (model prog w) _ (seqItems? (yae tu) >>= _) _ _ s
 refine yaa (ya8 f1 f2 ?_)
 simp only[ybl,hx]
 refine yaa (ya9 e1 e3 (by simp) (yac ⟨x,rfl,yac (q _ ?_ (yaG ..))⟩))
 exact⟨_,Heap.get?_update_self _ e1 (yb8 (ybi e3 _)),(ydO ..).trans e2,by rw[ybi e3];simp[ya2]⟩
theorem qh4 {it tu:Addr} {k:Nat} {arr:Array Value} {Q:Value->yab->Prop} (hh:A.handled=none) (hI:s.heap.IsTupleIter it tu k) (hT:s.heap.IsTuple tu arr) (hx:arr[k]? = none)
  (q:∀h' e,Heap.ExtBut it s.heap h'->(∃o,h'.get? e=some o/\o.cls=.type "StopIteration")->E (.ref e) {s with heap:=h' }):wpAny (model prog w) A (yaA (.ref it)) Q E s:=by
 obtain⟨ob,e1,e2,e3⟩:=id hI
 obtain⟨ot,f1,_,m,f2⟩:=hT
 unfold yaA
 refine yaa (wpAny_callSpecial?_slot (name:=ybo "__next__") hI.typeIs ybN (yaR ybN hI.typeIs ydv ?_ (ydj _)))
 show wpAny (model prog w) _ (field (yae it) 0 >>= _) _ _ s
 refine yaa (yaD e1 e3 (x:=yae tu) rfl ?_)
 show wpAny (model prog w) _ (if(yae tu==yap)=true then _ else _) _ _ s
 rw[if_neg (show ¬((yae tu==yap)=true)from yal)]
 show wpAny (model prog w) _ (field (yae it) 1 >>= _) _ _ s
 refine yaa (yaD e1 e3 (x:=ycW k 0) rfl ?_)
 show wpAny (model prog w) _ (seqItems? (yae tu) >>= _) _ _ s
 refine yaa (ya8 f1 f2 ?_)
 simp only[ybl,hx]
 refine yaa (yb0 (yaa (ya9 e1 e3 (by simp) ?_)))
 show wpAny (model prog w) _ (yfl (yaP "StopIteration") [] >>= _) _ _ _
 refine yaa ?_
 simp only[yfl,yf2]
 refine yaa (yaM ?_ (by size_fits))
 refine yaa (m:=yb9 _ _) (yev (a:=yap) (by first|rfl|(simp only[yb9];rfl)) ?_)
 refine yaM ?_ (by size_fits)
 simp only[yf3]
 refine yaa (yeZ ?_)
 first|rw[show A.in1.handled=none from hh]|rw[hh]
 exact yaa (yac (yfX (q _ _ (((yaG ..).extBut.push _).push _) ⟨_,Heap.get?_push_size _ rfl,rfl⟩)))
end
theorem u7 {prog:yaj} {w:World} {A:yam} (hh:A.handled=none) (it tu:Addr) (hne:tu≠it) (arr:Array Value) :
  Draws prog w A it [it,tu] arr.size (λi x=>arr[i]? = some x) (λi h=>h.IsTupleIter it tu i/\h.IsTuple tu arr) where
 live:=λi h st=>by obtain⟨⟨o,e,_⟩,_⟩:=st;exact⟨o,e⟩
 frame:=λi h h' st k=>by
  obtain⟨h1,o,e,r⟩:=st
  exact⟨h1.at λo q=>k it (by simp) o q,o,k tu (by simp) o e,r⟩
 item:=λi s Q E hi st q=>qh3 st.1 st.2 (Array.getElem?_eq_getElem hi) λh' h1 sb=>q _ h' s.toks (Array.getElem?_eq_getElem hi) ⟨h1,by
  obtain⟨o,e,r⟩:=st.2
  exact⟨o,sb.extBut _ _ hne e,r⟩⟩ sb
 done:=λs Q E st q=>qh4 hh st.1 st.2 (Array.getElem?_eq_none (yag _)) q
structure ZAp (z TI TO i1 i2:Addr) (fp1 fp2:List Addr):Prop where
 zTI:z≠TI
 zTO:z≠TO
 zi1:z≠i1
 zi2:z≠i2
 IO:TI≠TO
 Ii1:TI≠i1
 Ii2:TI≠i2
 Oi1:TO≠i1
 Oi2:TO≠i2
 ii:i1≠i2
 z1:z ∉ fp1
 z2:z ∉ fp2
 O1:TO ∉ fp1
 O2:TO ∉ fp2
 i21:i2 ∉ fp1
 i12:i1 ∉ fp2
section
variable{prog:yaj}{w:World}{A:yam}{E:Value->yab->Prop}{s:yab}{z TI TO i1 i2:Addr}{fp1 fp2:List Addr}{n1 n2 k:Nat}{P1 P2:Nat->Value->Prop}{S1 S2:Nat->Heap->Prop}
theorem zb{fp:List Addr}{a:Addr}{h h':Heap}(sb:ya6 a h h')(ha:a ∉ fp):∀b∈fp,∀o,h.get? b=some o->h'.get? b=some o:=λb hb o e=>sb.extBut _ _ (λq=>ha (q▸hb)) e
theorem qkh (D1:Draws prog w A i1 fp1 n1 P1 S1) (D2:Draws prog w A i2 fp2 n2 P2 S2) (ap:ZAp z TI TO i1 i2 fp1 fp2) {p q:Value} (zz:IsZip s.heap z TI TO .none) (zI:ybj s.heap TI (.ref i1) (.ref i2)) (zO:ybj s.heap TO p q)
  (t1:S1 k s.heap) (t2:S2 k s.heap) (l1:k<n1) (l2:k<n2) {Q:Value->yab->Prop}
  (fin:∀x y h' tk,P1 k x->P2 k y->IsZip h' z TI TO (ya2 s.heap.objs.size)->ybj h' TO x y->S1 (k+1) h'->S2 (k+1) h'->ybj h' s.heap.objs.size x y ->
   (∀c o,c≠z->c≠TO->c≠i1->c≠i2->s.heap.get? c=some o->h'.get? c=some o)->Q (.ref s.heap.objs.size) {s with heap:=h',toks:=tk}) :
  wpAny (model prog w) A (yba.«zip.__next__» ⟨[.ref z],[]⟩) (λr s'=>∃v,r=.done (.ret v)/\Q v s') E s:=by
 show wpAny (model prog w) A (field (yae z) 2 >>= _) _ _ _
 refine yaa (yaD zz rfl (x:=ybb false) rfl ?_)
 show wpAny (model prog w) A (field (yae z) 3 >>= _) _ _ _
 refine yaa (yaD zz rfl (x:=yae TI) rfl (yaa (ya8 zI rfl ?_)))
 show wpAny (model prog w) A (yaE (yae z) >>= _) _ _ _
 refine yaa ?_
 unfold yaE
 refine yaa (yaD zz rfl (x:=yap) rfl (yac ?_))
 simp only[if_true]
 refine yaa (yb0 (yaa (yaD zz rfl (x:=yae TO) rfl (yaa (ybr zz (by simp) λh1 zz1 b1=>?_)))))
 replace zz1:IsZip h1 z TI TO .ellipsis:=zz1
 refine yaa ?_
 simp only[List.zipIdx_cons,List.zipIdx_nil,ycr,ydk]
 refine yaa (yaa (ycQ ?_))
 show wpAny (model prog w) A (yaA (yae i1) >>= _) _ _ _
 refine yaa (D1.item k _ _ _ l1 (D1.frame _ _ _ t1 (zb b1 ap.z1)) λx h2 tk2 px u1 b2=>yac ?_)
 have zO2:ybj h2 TO p q:=b2.extBut _ _ ap.Oi1 (b1.extBut _ _ ap.zTO.symm zO)
 refine yaa (ya8 zO2 rfl (yaa (yda zO2 λh3 zO3 b3=>?_)))
 replace zO3:ybj h3 TO x q:=zO3
 refine yaa (yew (yac (yaa (yaa (ycQ ?_)))))
 show wpAny (model prog w) A (yaA (yae i2) >>= _) _ _ _
 have t2':S2 k h3:=D2.frame _ _ _ (D2.frame _ _ _ (D2.frame _ _ _ t2 (zb b1 ap.z2)) (zb b2 ap.i12)) (zb b3 ap.O2)
 refine yaa (D2.item k _ _ _ l2 t2' λy h4 tk4 py u2 b4=>yac ?_)
 have zO4:ybj h4 TO x q:=b4.extBut _ _ ap.Oi2 zO3
 refine yaa (ya8 zO4 rfl (yaa (yda zO4 λh5 zO5 b5=>?_)))
 replace zO5:ybj h5 TO x y:=zO5
 refine yaa (yew (yac (yac (yaa (ya8 zO5 rfl (yaa (ydl ?_)))))))
 have sz:h5.objs.size=s.heap.objs.size:=by rw[b5.1,b4.1,b3.1,b2.1,b1.1]
 have zz5:IsZip h5 z TI TO .ellipsis:=b5.extBut _ _ ap.zTO (b4.extBut _ _ ap.zi2 (b3.extBut _ _ ap.zTO (b2.extBut _ _ ap.zi1 zz1)))
 have keep5:∀c o,c≠z->c≠TO->c≠i1->c≠i2->s.heap.get? c=some o->h5.get? c=some o:=λc o c1 c2 c3 c4 e=>b5.extBut _ _ c2 (b4.extBut _ _ c4 (b3.extBut _ _ c2 (b2.extBut _ _ c3 (b1.extBut _ _ c1 e))))
 have v1:S1 (k+1) h5:=D1.frame _ _ _ (D1.frame _ _ _ (D1.frame _ _ _ u1 (zb b3 ap.O1)) (zb b4 ap.i21)) (zb b5 ap.O1)
 have v2:S2 (k+1) h5:=D2.frame _ _ _ u2 (zb b5 ap.O2)
 have lz:z<h5.objs.size:=yaf zz5
 show wpAny (model prog w) A (ycw (yae z) (yae h5.objs.size) >>= _) _ _ _
 refine yaa ?_
 unfold ycw
 have zz6:IsZip (h5.push {cls:=.type "tuple",data:=.seq #[x,y]}) z TI TO .ellipsis:=Heap.get?_push_of_some _ zz5
 refine yaa (ybr zz6 (by simp) λh7 zz7 b7=>?_)
 replace zz7:IsZip h7 z TI TO (ya2 h5.objs.size):=zz7
 refine ybr zz7 (by simp) λh8 zz8 b8=>?_
 replace zz8:IsZip h8 z TI TO (ya2 h5.objs.size):=zz8
 have up:∀c o,c≠z->h5.get? c=some o->h8.get? c=some o:=λc o c1 e=>b8.extBut _ _ c1 (b7.extBut _ _ c1 (Heap.get?_push_of_some _ e))
 have new8:ybj h8 h5.objs.size x y:=b8.extBut _ _ (ybI lz) (b7.extBut _ _ (ybI lz) (Heap.get?_push_size _ rfl))
 rw[sz]at zz8 new8
 refine yac ⟨_,rfl,?_⟩
 show Q (yae h5.objs.size) _
 rw[sz]
 exact fin x y h8 tk4 px py zz8 (up _ _ ap.zTO.symm zO5) (D1.frame _ _ _ v1 λb hb o e=>up b o (λq=>ap.z1 (q▸hb)) e) (D2.frame _ _ _ v2 λb hb o e=>up b o (λq=>ap.z2 (q▸hb)) e) new8 λc o c1 c2 c3 c4 e=>up c o c1 (keep5 c o c1 c2 c3 c4 e)
theorem qfP (hh:A.handled=none) (D1:Draws prog w A i1 fp1 n1 P1 S1) (D2:Draws prog w A i2 fp2 n2 P2 S2) (ap:ZAp z TI TO i1 i2 fp1 fp2) {p q:Value} (zz:IsZip s.heap z TI TO .none) (zI:ybj s.heap TI (.ref i1) (.ref i2)) (zO:ybj s.heap TO p q)
  (t1:S1 k s.heap) (t2:S2 k s.heap) (hk:k=min n1 n2) {Q:Fin->yab->Prop}
  (fin:∀h' tk e,(∀c o,c≠z->c≠TO->c≠i1->c≠i2->s.heap.get? c=some o->h'.get? c=some o)->(∃o,h'.get? e=some o/\o.cls=.type "StopIteration")->E (.ref e) {s with heap:=h',toks:=tk}) :
  wpAny (model prog w) A (yba.«zip.__next__» ⟨[.ref z],[]⟩) Q E s:=by
 show wpAny (model prog w) A (field (yae z) 2 >>= _) _ _ _
 refine yaa (yaD zz rfl (x:=ybb false) rfl ?_)
 show wpAny (model prog w) A (field (yae z) 3 >>= _) _ _ _
 refine yaa (yaD zz rfl (x:=yae TI) rfl (yaa (ya8 zI rfl ?_)))
 show wpAny (model prog w) A (yaE (yae z) >>= _) _ _ _
 refine yaa ?_
 unfold yaE
 refine yaa (yaD zz rfl (x:=yap) rfl (yac ?_))
 simp only[if_true]
 refine yaa (yb0 (yaa (yaD zz rfl (x:=yae TO) rfl (yaa (ybr zz (by simp) λh1 zz1 b1=>?_)))))
 replace zz1:IsZip h1 z TI TO .ellipsis:=zz1
 refine yaa ?_
 simp only[List.zipIdx_cons,List.zipIdx_nil,ycr,ydk]
 refine yaa (yaa (ycQ ?_))
 show wpAny (model prog w) A (yaA (yae i1) >>= _) _ _ _
 have t1':S1 k h1:=D1.frame _ _ _ t1 (zb b1 ap.z1)
 by_cases h12:n1<=n2
 ·have e1:k=n1:=by rw[hk];exact Nat.min_eq_left h12
  rw[e1]at t1'
  refine yaa (D1.done _ _ _ t1' λh2 e b2 he=>?_)
  obtain⟨oe,f1,f2⟩:=he
  have zz2:IsZip h2 z TI TO .ellipsis:=b2 _ _ ap.zi1 zz1
  have ez:e≠z:=λx=>by subst x;rw[zz2]at f1;cases f1;simp at f2
  refine ybr zz2 (by simp) λh3 _ b3=>?_
  exact fin h3 s.toks e (λc o c1 _ c3 _ x=>b3.extBut _ _ c1 (b2 _ _ c3 (b1.extBut _ _ c1 x))) ⟨oe,b3.extBut _ _ ez f1,f2⟩
 ·have e1:k=n2:=by rw[hk];exact Nat.min_eq_right (by omega)
  refine yaa (D1.item k _ _ _ (by omega) t1' λx h2 tk2 px u1 b2=>yac ?_)
  have zO2:ybj h2 TO p q:=b2.extBut _ _ ap.Oi1 (b1.extBut _ _ ap.zTO.symm zO)
  refine yaa (ya8 zO2 rfl (yaa (yda zO2 λh3 zO3 b3=>?_)))
  refine yaa (yew (yac (yaa (yaa (ycQ ?_)))))
  show wpAny (model prog w) A (yaA (yae i2) >>= _) _ _ _
  have t2':S2 k h3:=D2.frame _ _ _ (D2.frame _ _ _ (D2.frame _ _ _ t2 (zb b1 ap.z2)) (zb b2 ap.i12)) (zb b3 ap.O2)
  rw[e1]at t2'
  refine yaa (D2.done _ _ _ t2' λh4 e b4 he=>?_)
  obtain⟨oe,f1,f2⟩:=he
  have zz4:IsZip h4 z TI TO .ellipsis:=b4 _ _ ap.zi2 (b3.extBut _ _ ap.zTO (b2.extBut _ _ ap.zi1 zz1))
  have ez:e≠z:=λx=>by subst x;rw[zz4]at f1;cases f1;simp at f2
  refine ybr zz4 (by simp) λh5 _ b5=>?_
  exact fin h5 tk2 e (λc o c1 c2 c3 c4 x=>b5.extBut _ _ c1 (b4 _ _ c4 (b3.extBut _ _ c2 (b2.extBut _ _ c3 (b1.extBut _ _ c1 x))))) ⟨oe,b5.extBut _ _ ez f1,f2⟩
end
section
variable{X:Cx}{pins:List (Addr×Obj)}{σ:St}{H:Hp}{s:yab}{h':Heap}
theorem qh5 {ch:List Addr} {T:Addr} {o:HO} {t':Nat} (I:Inv X pins σ H s) (k:∀b u,b ∉ ch->s.heap.get? b=some u->h'.get? b=some u) (hf:∀b∈ch,qaN X pins H b) (hT:s.heap.objs.size<=T) (new:jj X.prog X.w (upd H T o) h' T o) :
  Inv X pins σ (upd H T o) {s with heap:=h',toks:=t' }:=by
 have hn:H T=none:=I.hok.fresh hT
 have nch:∀b u,H b=some u->b ∉ ch:=λb u e z=>by rw[(hf b z).1]at e;cases e
 refine I.step (g':=s.gens) (d':=s.drawn) (ch:=ch) (λb hb=>⟨(hf b hb).2.2.2.1,(hf b hb).2.1,(hf b hb).2.2.2.2.1,(hf b hb).2.2.2.2.2⟩) (λb u _ _ hc e _=>k b u hc e) (λb u _ _ hc e _=>⟨u.slots,k b u hc e⟩) (λb u hc e n=>?_)
  (λb u hc e=>⟨u,k b u hc e⟩) (λb xs e=>by rw[qh (qq e hn)];exact e) (λb u xs e=>by rw[qh (qq e hn)];exact e) (λb ps y e=>by rw[qh (qq e hn)];exact e) (λm hm=>?_) (λb u e=>?_) I.bare
 ·rw[qh (yar (yau (yaf e) hT))];exact n
 ·obtain⟨ob,es,ep,ho,r⟩:=hm
  exact⟨ob,es,ep,k _ ob (λz=>(hf _ z).2.1 rfl) ho,r⟩
 ·by_cases hb:b=T
  ·subst hb;rw[qk]at e;cases e;exact new
  ·rw[qh hb]at e
   refine(I.hok b u e).stay (λc v hc q=>k c v ?_ q) (λc q=>by rw[qh (qq q hn)];exact q) (λc xs q=>by rw[qh (qq q hn)];exact q) λc ob y q=>by rw[qh (qq q hn)];exact q
   rcases hc with z|z
   ·rw[z];exact nch b u e
   ·exact nch c _ z
theorem qh6 {ch:List Addr} {t':Nat} (I:Inv X pins σ H s) (k:∀b u,b ∉ ch->s.heap.get? b=some u->h'.get? b=some u) (hf:∀b∈ch,qaN X pins H b):Inv X pins σ H {s with heap:=h',toks:=t' }:=by
 have nch:∀b u,H b=some u->b ∉ ch:=λb u e z=>by rw[(hf b z).1]at e;cases e
 refine I.step (g':=s.gens) (d':=s.drawn) (ch:=ch) (λb hb=>⟨(hf b hb).2.2.2.1,(hf b hb).2.1,(hf b hb).2.2.2.2.1,(hf b hb).2.2.2.2.2⟩) (λb u _ _ hc e _=>k b u hc e) (λb u _ _ hc e _=>⟨u.slots,k b u hc e⟩) (λb u hc e n=>n)
  (λb u hc e=>⟨u,k b u hc e⟩) (λb xs e=>e) (λb u xs e=>e) (λ_ _ _ e=>e) (λm hm=>?_) (λb u e=>?_) I.bare
 ·obtain⟨ob,es,ep,ho,r⟩:=hm
  exact⟨ob,es,ep,k _ ob (λz=>(hf _ z).2.1 rfl) ho,r⟩
 ·refine(I.hok b u e).stay (λc v hc q=>k c v ?_ q) (λc q=>q) λc xs q=>q
  rcases hc with z|z
  ·rw[z];exact nch b u e
  ·exact nch c _ z
end
section
variable{X:Cx}{c:Fc}{a b e:Expr}{pos:Pos}{es:List Expr}{kk:Nat}{tp:Pos}
def qmC:List D->List D->List D
 |x::xs,y::ys => .tup [x,y]::qmC xs ys
 |_,_=>[]
def qlR:List D->Option (List D)
 | [.tup xs,.tup ys]=>some (qmC xs ys)
 |_=>none
def qmD(f:M (List D)):M (List D):=bnd f λds=>lift (qlR ds)
end
theorem w8:fillsNumberSlot (.type "tuple") "mul"=pure false:=by
 first|kernel_rfl|(unfold fillsNumberSlot;kernel_rfl)|decide +kernel
theorem qdh:seqRepeat? (.type "tuple")=pure (some (.builtin "tuple.__mul__")):=by
 first|kernel_rfl|(unfold seqRepeat?;kernel_rfl)|decide +kernel
theorem qa4 (a:Int) (t:Tok) (l:Addr) (dd:Option Addr) (items:Array Value) (n:Nat) (sl:Array (Option Value)) :
  Meets (yba.«int.__rmul__» ⟨[.int a t,.ref l],[]⟩) (λ_ R s=>s.heap.get? l=some {cls:=.type "tuple",dict:=dd,data:=.seq items n,slots:=sl}/\R (.ok (.ret .notImplemented)) s) :=
 .of_wp λprog w A R s h=>by
  obtain⟨hp,g,d,tk,os⟩:=s
  obtain⟨hl,h⟩:=h
  wp_walk using yb3 hl
  exact⟨_,rfl,h⟩
theorem qki (l:Addr) (dd:Option Addr) (items:Array Value) (n:Nat) (sl:Array (Option Value)) (k:Int) (t:Tok) (h0:¬items.isEmpty=true) (h1:¬(k==1)=true) (h2:¬k<=0) (h3:¬(decide (k < -(2 ^ 63))||decide (k >= 2 ^ 63))=true)
  (h4:¬(items.size:Int)*k>(2 ^ 63-1)/8) (h5:¬Builtin.Tuple.tupleTooMany ((items.size:Int)*k)=true) (h6:((yak k.toNat items).foldl (·++·) #[]).size<=yas) :
  Meets (yba.«tuple.__mul__» ⟨[.ref l,.int k t],[]⟩) (λ_ R s=>s.heap.get? l=some {cls:=.type "tuple",dict:=dd,data:=.seq items n,slots:=sl} /\
   R (.ok (.ret (.ref s.heap.objs.size))) {s with heap:=s.heap.push {cls:=.type "tuple",data:=.seq ((yak k.toNat items).foldl (·++·) #[])} }) :=
 .of_wp λprog w A R s h=>by
  obtain⟨hp,g,d,tk,os⟩:=s
  obtain⟨hl,h⟩:=h
  have f1:=AutoSeq1.idx_int
  have f2:=yd3
  have h01:¬(items.isEmpty||k==1)=true:=by simp only[yei,not_or];exact⟨h0,h1⟩
  have h02:¬(decide (k<=0)||items.isEmpty)=true:=by simp only[yei,decide_eq_true_eq,not_or];exact⟨h2,h0⟩
  wp_walk using yb3 hl
  rw[if_neg h3]
  wp_walk using yb3 hl
  rw[if_neg h4]
  wp_walk using yb3 hl
  exact⟨_,rfl,h⟩
section
variable{X:Cx}
def qkj(K:Fr0):R2:=λx y H Q=>∃a xs k,x=.ref a/\y=.int k/\SqT K H a xs/\xs≠[]/\2<=k/\xs.length*k.toNat<=yas/\∀p,H p=none->Q (.ref p) (upd H p (.tup (yak k.toNat xs).flatten))
theorem qh7:OpR X (ybq .Mult) (qkj X.K):=by
 intro pins s σ H x y v u Q I rx ry h
 obtain⟨a,xs,k,rfl,rfl,hx,hne,hk,hz,q⟩:=h
 cases rx
 obtain⟨t,rfl⟩:=ry
 obtain⟨its,r,p1,_⟩:=I.tuple hx
 obtain⟨⟨cls,dd,data,sl⟩,ho,hc,n,hd⟩:=id p1
 simp only at hc hd
 subst hc hd
 have hl:=r.length
 have hnew:yeQ (λx1 x2=>x1++x2) #[] (yak k.toNat its.toArray)=(yak k.toNat its).flatten.toArray:=by
  have:=vh its k.toNat []
  rw[ybf]at this
  exact this
 have hlen:(yak k.toNat its).flatten.length=k.toNat*its.length:=qbN its k.toNat
 have hsl:(yas:Nat)=16777216:=yaX
 have e0:¬its.toArray.isEmpty=true:=by
  intro e
  have:its=[]:=by simpa using e
  rw[this]at hl
  exact hne (List.length_eq_zero_iff.mp hl)
 have pos1:1<=its.length:=by
  cases its with
  |nil=>simp at e0
  |cons z zs=>simp
 have kk:((k.toNat:Nat):Int)=k:=Int.toNat_of_nonneg (by omega)
 have mm:(its.toArray.size:Int)*k=((its.length*k.toNat:Nat):Int):=by rw[sT_,Int.natCast_mul,kk]
 have zz:its.length*k.toNat<=yas:=by rw[<-hl];exact hz
 have kle:k.toNat<=its.length*k.toNat:=Nat.le_mul_of_pos_left _ pos1
 have T1:s.TypeIs (.ref a) "tuple":=⟨_,ho,rfl⟩
 refine ydU (T:="tuple") (U:="int") (by decide) T1 (λs'=>ydT s' k t) w8 F.fills_int_mul yc7 qdh F.slot_int_index.lookup
  (yc6 yc7 (ydT s k t) F.entry_int_rmul (yfI _ _) (qa4 k t a dd its.toArray n sl)
   ⟨ho,rfl,T1,yc6 F.slot_tuple_mul T1 F.entry_tuple_mul (F.args_tuple_mul_2 _ _) (qki a dd its.toArray n sl k t e0 (by simp;omega) (by omega) (by simp;omega) (by rw[mm];omega) ?_ (by rw[hnew,sT_,hlen,yfj];exact zz)) ⟨ho,?_⟩⟩)
 ·rw[mm]
  show ¬decide (((its.length*k.toNat:Nat):Int)>(yas:Int))=true
  rw[decide_eq_true_eq]
  omega
 ·rw[hnew]
  refine⟨.ref s.heap.objs.size,_,I.laid (t':=s.toks) (o:=.tup (yak k.toNat xs).flatten) (λb ob q=>Heap.get?_push_of_some _ q) (yag _) ?_,rfl,q _ (I.hok.fresh (yag _))⟩
  exact⟨by rw[qbN,yfj];exact hz,_,r.rep k.toNat,ye7 _ _⟩
def qkk(K:Fr0):R2:=λx y H Q=>(rI qjD (λi j => .int (i*j))) x y H Q\/(qkj K x y H Q\/qmx x y H Q)
theorem jf:OpR X (ybq .Mult) (qkk X.K):=OpR.or qjG (OpR.or qh7 qjT)
end
def z7:D->D->Option D
 |.int i,.int j=>if qd8 i j then some (.int (i*j))else none
 |.tup ds,.int k=>if(!ds.isEmpty&&decide (2<=k))&&qD (ds.length*k.toNat)then some (.tup (yak k.toNat ds).flatten)else none
 |.lst ds,.int k=>if(decide (-(2 ^ 62)<=k)&&decide (k<2 ^ 62))&&qD (ds.length*k.toNat)then some (.lst (yak k.toNat ds).flatten)else none
 |_,_=>none
theorem IsL.rep {K:Fr0} {A:Addr->Prop} {H:Hp} {ds:List D} {xs:List V} (h:IsL K A H ds xs):∀k:Nat,IsL K A H (yak k ds).flatten (yak k xs).flatten
 |0=>by simp[IsL]
 |k+1=>by
  rw[rS_,rS_,ybA,ybA]
  exact IsL.append h (IsL.rep h k)
theorem zC {K:Fr0}:OpS K z7 (qkk K):=by
 intro A H x y d v u Q hn ix iy e k
 cases x<;>cases y<;>simp only[z7]at e<;>try (cases e;done)
 ·rename_i i j
  obtain⟨e1,e2⟩:=zj e
  subst e2
  cases ix;cases iy
  exact .inl ⟨i,j,rfl,rfl,qfB e1,k _ H (zK.refl H) rfl⟩
 ·rename_i ds j
  obtain⟨a,xs,rfl,ta,il⟩:=ix
  cases iy
  obtain⟨e1,e2⟩:=zj e
  subst e2
  rw[yan,yan]at e1
  obtain⟨⟨e3,e4⟩,e5⟩:=e1
  refine .inr (.inl ⟨a,xs,j,rfl,rfl,ta.sq,λz=>?_,of_decide_eq_true e4,by rw[il.length];exact of_decide_eq_true e5,λp hp=>k _ _ (qx hp _) ⟨p,_,rfl,.inl qk,IsL.ext (Ext.of_same (qx hp _)) (λ_ h _=>h) (IsL.rep il _)⟩⟩)
  have:=il.length
  rw[z]at this
  have:ds=[]:=List.length_eq_zero_iff.mp this.symm
  rw[this]at e3
  simp at e3
 ·rename_i ds j
  obtain⟨a,xs,rfl,_,ta,il⟩:=ix
  cases iy
  obtain⟨e1,e2⟩:=zj e
  subst e2
  rw[yan,yan]at e1
  obtain⟨⟨e3,e4⟩,e5⟩:=e1
  have e3':=of_decide_eq_true e3
  have e4':=of_decide_eq_true e4
  refine .inr (.inr ⟨a,j,xs,rfl,rfl,ta,by omega,by omega,by rw[il.length];exact of_decide_eq_true e5,λp hp=>k _ _ (qx hp _) ⟨p,_,rfl,hn p hp,qk,IsL.ext (Ext.of_same (qx hp _)) (λ_ h _=>h) (IsL.rep il _)⟩⟩)
def qnQ:D->Option D
 |.int i=>some (.int (-i))
 |_=>none
def d1(F:D->Option D)(f:M D):M D:=bnd f λx=>lift (F x)
section
variable{X:Cx}{c:Fc}{a b e:Expr}{pos:Pos}
def qjc (i j:Nat) (f:M (List D)):MS:=sbnd f λds Z=>match ds with
 | [d,e] => .ok (.nx ((Z.set i (some d)).set j (some e)))
 |_ => .bad
theorem qkl {i j:Nat} {x y:Str} {f:M (List D)} {px py pt:Pos} {kt k2 pt2} (hN:X.N.Nodup) (ha:DA X c [a,b] f) (hw:ycN [.Tuple [.Name x px,.Name y py] kt pt] (.Tuple [a,b] k2 pt2) X.env=pure (some [x,y])) (hc:X.calm=true:=by rfl) (hi:X.N[i]? = some x:=by rfl) (hj:X.N[j]? = some y:=by rfl) (hij:i≠j:=by decide)
  (hx:X.env.scope.names.lookup x=some .local:=by rfl) (hy:X.env.scope.names.lookup y=some .local:=by rfl) (ho:i ∉ c.O:=by exact of_decide_eq_false rfl) (hp:j ∉ c.O:=by exact of_decide_eq_false rfl)
  (hs:ycM [.Tuple [.Name x px,.Name y py] kt pt] (.Tuple [a,b] k2 pt2) pos.line X.env=pure false:=by rfl) :
  DS X c (.Assign [.Tuple [.Name x px,.Name y py] kt pt] (.Tuple [a,b] k2 pt2) pos) (qjc i j f):=by
 obtain⟨t,p,w⟩:=ha
 refine⟨_,qjx hc hN hi hj hij hx hy p hw hs,λZ σ H D r h=>w Z σ H _ r (WpL.sbnd h λds Z1 vs H1 r1 i1 g1 h1=>?_)⟩
 match ds,i1,h1 with
 | [],_,h1=>exact h1.elim
 | [_],_,h1=>exact h1.elim
 | [d,e],i1,h1=>
  obtain⟨v,u,rfl,j1,j2⟩:=IsL.inv2 i1
  refine⟨v,u,rfl,h1 _ H1 ((r1.set ho j1).set hp ?_) ((GrS.set ho).trans (GrS.set hp))⟩
  exact(GrS.set (H:=H1) ho).is j2
 |_::_::_::_,_,h1=>exact h1.elim
mutual
def immF:D->Bool
 |.tup ds=>immFs ds
 |.lst _=>false
 |.dic _=>false
 |_=>true
def immFs:List D->Bool
 | []=>true
 |d::ds=>immF d&&immFs ds
end
mutual
theorem Is.immF {K:Fr0} {A B:Addr->Prop} {H:Hp}:∀{d:D}{v:V},immF d=true->Is K A H d v->Is K B H d v
 |.non,_,_,h=>h
 |.bl _,_,_,h=>h
 |.int _,_,_,h=>h
 |.str _,_,_,h=>h
 |.tup ds,_,i,⟨a,xs,hv,h,r⟩=>⟨a,xs,hv,h,IsL.immF (by simpa [Sk.immF] using i) r⟩
 |.lst _,_,i,_=>by simp[Sk.immF]at i
 |.dic _,_,i,_=>by simp[Sk.immF]at i
 |.fz _,_,_,h=>h
 |.exc _,_,_,h=>h
theorem IsL.immF {K:Fr0} {A B:Addr->Prop} {H:Hp}:∀{ds:List D}{xs:List V},immFs ds=true->IsL K A H ds xs->IsL K B H ds xs
 | [],_,_,h=>h
 |d::ds,_,i,⟨x,ys,hx,h,r⟩=>by
  have i':Sk.immF d=true/\immFs ds=true:=by simpa [immFs] using i
  exact⟨x,ys,hx,Is.immF i'.1 h,IsL.immF i'.2 r⟩
end
def yI (F:List D->R D) (g:M (List D)):M (List D):=bnd g λds Z=>if immFs ds then match F ds with
 |.ok (.lst bs)=>if immL bs then .ok (bs,Z)else .bad
 |_ => .bad else .bad
theorem qh8 {k:Nat} {f:Addr} {fd:yaL} {ps:List Str} {F:List D->R D} {x:Str} {p:Pos} {es:List Expr} {g:M (List D)} (G:uq X.prog X.w X.K X.mg X.base CX0 k f fd ps (spD X.K F)) (hr:yc k X.A) (hg:Gl X x) (hm:X.mg x=some (.ref f)) (hk:yaq X.K (.ref f)=true) (hb:yt X.K fd ps [])
  (ha:DA X c (e::es) g) (hd:(x==("__debug__":Str))=false:=by decide) (he:yad (e::es) X.env=(false,eval e X.env)::yad es X.env:=by rfl) (hpl:(yaI pos (yad es X.env)).any (·.1)=false:=by rfl):DN X c (.Call (.Name x p) (e::es) [] pos) (yI F g):=by
 obtain⟨t,pa,w⟩:=ha
 refine⟨_,ve G hr hg hm hk hb .nil qhK pa hd he hpl,λZ σ H Q r h=>w Z σ H _ r (WpL.bndN h λds Z1 vs H1 r1 i1 g1 h1=>?_)⟩
 rw[yaK]
 by_cases him:immFs ds=true
 ·rw [if_pos him]at h1
  refine⟨ds,λ_=>False,IsL.immF him i1,r1.tb,?_⟩
  cases ef:F ds with
  |bad=>simp only[ef]at h1;exact h1.elim
  |exc z Z'=>simp only[ef]at h1;exact h1.elim
  | ok d=>
   cases d with
   | lst bs=>
    simp only[ef]at h1
    by_cases hb2:immL bs=true
    ·rw[if_pos hb2]at h1
     intro v H' sm i
     obtain⟨a,xs,rfl,hA,ha2,il⟩:=i
     have hn:H1 a=none:=hA.elim yaW id
     exact h1 a xs H' hn (r1.same sm) (r1.apart_same hn sm) ha2 trivial (IsL.imm hb2 il) (.of_same sm)
    ·rw[if_neg hb2]at h1;exact h1.elim
   |_=>simp only[ef]at h1;exact h1.elim
 ·rw[if_neg him]at h1;exact h1.elim
end
structure qh9 (outer:Scope) (N:List Str) (scope:Scope) (N':List Str) (nt:Nat) (fr:List Nat):Prop where
 kind:scope.kind=.function
 nocell:∀y∈scope.names,y.2 ≠ .cell
 names:∀y∈scope.names,y.2=.local->scope.names.lookup y.1=some .local
 frees:∀y∈scope.names,y.2=.free->outer.names.lookup y.1=some .cell
 len:N'.length=nt+fr.length
 slots:∀p∈fr.zipIdx,N'[nt+p.2]? = N[p.1]? /\ ((N[p.1]?).bind λx=>scope.names.lookup x)=some .free
theorem qh9.ok {X:Cx} {outer:Scope} {N:List Str} {scope:Scope} {N':List Str} {nt:Nat} {fr:List Nat} (S:qh9 outer N scope N' nt fr) (h1:X.env.scope=outer) (h2:X.N=N):jy X scope N' nt fr:=by
 subst h1 h2
 refine⟨S.kind,S.nocell,S.names,S.frees,S.len,λi j h=>?_⟩
 have hm:(j,i)∈fr.zipIdx:=by
  rw[yeF]
  refine⟨i,?_⟩
  rw[List.getElem?_zipIdx,h]
  simp
 obtain⟨h3,h4⟩:=S.slots (j,i) hm
 cases e:X.N[j]? with
 |none=>
  have h4':((X.N[j]?).bind λx=>scope.names.lookup x)=some .free:=h4
  rw[e]at h4';cases h4'
 | some x=>
  have h4':((X.N[j]?).bind λx=>scope.names.lookup x)=some .free:=h4
  rw[e]at h4'
  exact ⟨x,by
    have h3':N'[nt+i]? = X.N[j]? := h3
    rw[h3',e],rfl,h4'⟩
structure ji (P:yaj) (w:World) (K:yah) (mg:Str->Option Value) (base:Heap) (k:Nat) (x:Str) (ps:List Str) (sp:Sp):Prop where
 ex:∃f fd,uq P w K mg base CX0 k f fd ps sp/\mg x=some (.ref f)/\yaq K (.ref f)=true/\yt K fd ps []
theorem qa5:yaB "len"=some (.builtin "len"):=by decide +kernel
theorem qkm:yaB "max"=some (.builtin "max"):=by decide +kernel
theorem qgU:yaB "min"=some (.builtin "min"):=by decide +kernel
theorem qkn:yaB "all"=some (.builtin "all"):=by decide +kernel
theorem qko:yaB "sum"=some (.builtin "sum"):=by decide +kernel
theorem qek:yaB "divmod"=some (.builtin "divmod"):=by decide +kernel
theorem uA:yaB "repr"=some (.builtin "repr"):=by decide +kernel
theorem qkp:yaB "int"=some (.type "int"):=by decide +kernel
theorem qia:yaB "bool"=some (.type "bool"):=by decide +kernel
theorem w9:yaB "tuple"=some (.type "tuple"):=by decide +kernel
theorem ql:yaB "isinstance"=some (.builtin "isinstance"):=by decide +kernel
def u8:MS:=λZ => .ok (.nx Z)
theorem zx{X:Cx}{c:Fc}:DSs X c [] u8:=qhM
theorem jB{X:Cx}:IxR X (λx y H Q=>qlF X.K x y H Q\/qlG X.K x y H Q):=qdZ.or qjO
theorem qib {c:Fc} {nt:Nat} {fr:List Nat} {i j:Nat} (h1:j∈c.O) (h2:nt<=i) (h3:fr[i-nt]? = some j) (h4:∀p∈fr.zipIdx,nt+p.2≠i->p.1 ∉ c.O):qhW c nt fr (some (i,j)) :=
 ⟨h1,h2,h3,λk j' h hk=>h4 (j',k) (by rw[yeF];exact⟨k,by rw[List.getElem?_zipIdx,h];simp⟩) hk⟩
def eqB (x y:D):Option D:=match sc2 x y with
 |some b=>some (.bl b)
 |none=>eqA x y
def neB (x y:D):Option D:=match sc2 x y with
 |some b=>some (.bl (!b))
 |none=>neA x y
theorem qa6{X:Cx}{k:Nat}(hr:yc k X.A):OpR X (yaS .Eq) (λx y H Q=>rEq x y H Q\/qfi X.K false x y H Q):=OpR.or qjH (qkf hr)
theorem qa7{X:Cx}{k:Nat}(hr:yc k X.A):OpR X (yaS .NotEq) (λx y H Q=>rNe x y H Q\/qfi X.K true x y H Q):=OpR.or qlz (qkg hr)
theorem yU {K:Fr0}:OpS K eqB (λx y H Q=>rEq x y H Q\/qfi K false x y H Q):=by
 intro A H x y d v u Q hn ix iy e k
 unfold eqB at e
 cases e1:sc2 x y with
 |some b=>simp only[e1]at e;exact .inl (qhO A H x y d v u Q hn ix iy (by unfold eqS;rw[e1];exact e) k)
 |none=>simp only[e1]at e;exact .inr (qh1 A H x y d v u Q hn ix iy e k)
theorem vC {K:Fr0}:OpS K neB (λx y H Q=>rNe x y H Q\/qfi K true x y H Q):=by
 intro A H x y d v u Q hn ix iy e k
 unfold neB at e
 cases e1:sc2 x y with
 |some b=>simp only[e1]at e;exact .inl (qhP A H x y d v u Q hn ix iy (by unfold neS;rw[e1];exact e) k)
 |none=>simp only[e1]at e;exact .inr (qh2 A H x y d v u Q hn ix iy e k)
end L2.Sk
namespace L2.Sk
section
variable{α β:Type}{Z:Env}{f g k:M D}{t u:M Bool}{l m:M (List D)}{p q r:MS}
theorem qic(a:α):ret a Z=.ok (a,Z):=rfl
theorem qel(o:Option α):lift o Z=match o with|some a => .ok (a,Z)|none => .bad:=by cases o<;>rfl
theorem qlS{f:M α}{k:α->M β}:bnd f k Z=match f Z with|.ok (a,Z')=>k a Z'|.exc x Z' => .exc x Z'|.bad => .bad:=rfl
theorem qmE(i:Nat):dv i Z=match Z[i]? with|some (some d) => .ok (d,Z)|_ => .bad:=rfl
theorem j4:qa f l Z=match f Z with|.ok (d,Z1)=>(match l Z1 with|.ok (ds,Z2) => .ok (d::ds,Z2)|.exc x Z' => .exc x Z'|.bad => .bad)|.exc x Z' => .exc x Z'|.bad => .bad:=by
 simp only[qa,bnd,sbnd]
 cases f Z with
 |ok z=>
  obtain⟨z1,Z1⟩:=z
  simp only[ret]
  cases l Z1 with
  |ok z=>obtain⟨z2,Z2⟩:=z;rfl
  |exc x Z'=>rfl
  |bad=>rfl
 |exc x Z'=>rfl
 |bad=>rfl
theorem qct:y0 l Z=match l Z with|.ok (ds,Z1)=>(if qD ds.length then .ok (.tup ds,Z1)else .bad)|.exc x Z' => .exc x Z'|.bad => .bad:=by
 simp only[y0,bnd,sbnd]
 cases l Z with
 |ok z=>
  obtain⟨z1,Z1⟩:=z
  cases h:qD z1.length<;>simp[h,lift,ret]
 |exc x Z'=>rfl
 |bad=>rfl
theorem qem:y8 l Z=match l Z with|.ok (ds,Z1)=>(if qD ds.length then .ok (.lst ds,Z1)else .bad)|.exc x Z' => .exc x Z'|.bad => .bad:=by
 simp only[y8,bnd,sbnd]
 cases l Z with
 |ok z=>
  obtain⟨z1,Z1⟩:=z
  cases h:qD z1.length<;>simp[h,lift,ret]
 |exc x Z'=>rfl
 |bad=>rfl
theorem qgV:qhY l Z=match l Z with|.ok (ds,Z1)=>(if immL ds&&qD ds.length then .ok (ds,Z1)else .bad)|.exc x Z' => .exc x Z'|.bad => .bad:=by
 simp only[qhY,bnd,sbnd]
 cases l Z with
 |ok z=>
  obtain⟨z1,Z1⟩:=z
  cases h:(immL z1&&qD z1.length)<;>simp[h,lift,ret]
 |exc x Z'=>rfl
 |bad=>rfl
theorem qlT (F:D->D->Option D):d2 F f g Z=match f Z with|.ok (x,Z1)=>(match g Z1 with|.ok (y,Z2)=>(match F x y with|some d => .ok (d,Z2)|none => .bad)|.exc x Z' => .exc x Z'|.bad => .bad)|.exc x Z' => .exc x Z'|.bad => .bad:=by
 simp only[d2,bnd,sbnd]
 cases f Z with
 |ok z=>
  obtain⟨z1,Z1⟩:=z
  dsimp only <;>
  cases g Z1 with
  |ok z=>obtain⟨z2,Z2⟩:=z;(dsimp only;cases F z1 z2<;>rfl)
  |exc x Z'=>rfl
  |bad=>rfl
 |exc x Z'=>rfl
 |bad=>rfl
theorem qmF (F:D->Option D):d1 F f Z=match f Z with|.ok (x,Z1)=>(match F x with|some d => .ok (d,Z1)|none => .bad)|.exc x Z' => .exc x Z'|.bad => .bad:=by
 simp only[d1,bnd,sbnd]
 cases f Z with
 |ok z=>
  obtain⟨z1,Z1⟩:=z
  (dsimp only;cases F z1<;>rfl)
 |exc x Z'=>rfl
 |bad=>rfl
theorem vE (F:List D->Option D):qF F l Z=match l Z with|.ok (xs,Z1)=>(match F xs with|some d => .ok (d,Z1)|none => .bad)|.exc x Z' => .exc x Z'|.bad => .bad:=by
 simp only[qF,bnd,sbnd]
 cases l Z with
 |ok z=>
  obtain⟨z1,Z1⟩:=z
  (dsimp only;cases F z1<;>rfl)
 |exc x Z'=>rfl
 |bad=>rfl
theorem u9 (F:List D->R D):qr F l Z=match l Z with|.ok (xs,Z1)=>(match F xs with|.ok d => .ok (d,Z1)|_ => .bad)|.exc x Z' => .exc x Z'|.bad => .bad:=by
 simp only[qr,bnd,sbnd]
 cases l Z with
 |ok z=>
  obtain⟨z1,Z1⟩:=z
  cases F z1<;>rfl
 |exc x Z'=>rfl
 |bad=>rfl
theorem qgW (T:String):qhU T f Z=match f Z with|.ok (d,Z1) => .ok (.bl (qbQ (tyD d) T),Z1)|.exc x Z' => .exc x Z'|.bad => .bad:=by
 simp only[qhU,bnd,sbnd]
 cases f Z with
 |ok z=>
  obtain⟨z1,Z1⟩:=z
  rfl
 |exc x Z'=>rfl
 |bad=>rfl
theorem qid:tst f Z=match f Z with|.ok (d,Z1)=>(match asB d with|some b => .ok (b,Z1)|none => .bad)|.exc x Z' => .exc x Z'|.bad => .bad:=by
 simp only[tst,bnd,sbnd]
 cases f Z with
 |ok z=>
  obtain⟨z1,Z1⟩:=z
  (dsimp only;cases asB z1<;>rfl)
 |exc x Z'=>rfl
 |bad=>rfl
theorem uS(b:Bool):asB (.bl b)=some b:=rfl
theorem qgX:qfh t Z=match t Z with|.ok (b,Z1) => .ok (!b,Z1)|.exc x Z' => .exc x Z'|.bad => .bad:=by
 simp only[qfh,bnd,sbnd]
 cases t Z with
 |ok z=>
  obtain⟨z1,Z1⟩:=z
  rfl
 |exc x Z'=>rfl
 |bad=>rfl
theorem qcu:qd5 t u Z=match t Z with|.ok (b,Z1)=>(bif b then u Z1 else .ok (false,Z1))|.exc x Z' => .exc x Z'|.bad => .bad:=by
 simp only[qd5,bnd,sbnd]
 cases t Z with
 |ok z=>
  obtain⟨z1,Z1⟩:=z
  cases z1<;>rfl
 |exc x Z'=>rfl
 |bad=>rfl
theorem qen:tor t u Z=match t Z with|.ok (b,Z1)=>(bif b then .ok (true,Z1)else u Z1)|.exc x Z' => .exc x Z'|.bad => .bad:=by
 simp only[tor,bnd,sbnd]
 cases t Z with
 |ok z=>
  obtain⟨z1,Z1⟩:=z
  cases z1<;>rfl
 |exc x Z'=>rfl
 |bad=>rfl
theorem qgY:qi7 f g Z=match f Z with|.ok (d,Z1)=>(match asB d with|some b=>(bif b then g Z1 else .ok (.bl false,Z1))|none => .bad)|.exc x Z' => .exc x Z'|.bad => .bad:=by
 simp only[qi7,bnd,sbnd]
 cases f Z with
 |ok z=>
  obtain⟨z1,Z1⟩:=z
  simp only[qel]
  cases asB z1 with
  |none=>rfl
  |some b=>cases b<;>rfl
 |exc x Z'=>rfl
 |bad=>rfl
theorem qkq:dor f g Z=match f Z with|.ok (d,Z1)=>(match asB d with|some b=>(bif b then .ok (.bl true,Z1)else g Z1)|none => .bad)|.exc x Z' => .exc x Z'|.bad => .bad:=by
 simp only[dor,bnd,sbnd]
 cases f Z with
 |ok z=>
  obtain⟨z1,Z1⟩:=z
  simp only[qel]
  cases asB z1 with
  |none=>rfl
  |some b=>cases b<;>rfl
 |exc x Z'=>rfl
 |bad=>rfl
theorem qgZ:qlf f Z=match f Z with|.ok (d,Z1)=>(match asB d with|some b => .ok (.bl (!b),Z1)|none => .bad)|.exc x Z' => .exc x Z'|.bad => .bad:=by
 simp only[qlf,bnd,sbnd]
 cases f Z with
 |ok z=>
  obtain⟨z1,Z1⟩:=z
  simp only[qel]
  cases asB z1 with
  |none=>rfl
  |some b=>cases b<;>rfl
 |exc x Z'=>rfl
 |bad=>rfl
theorem qie:dif t f g Z=match t Z with|.ok (b,Z1)=>(bif b then f Z1 else g Z1)|.exc x Z' => .exc x Z'|.bad => .bad:=by
 simp only[dif,bnd,sbnd]
 cases t Z with
 |ok z=>
  obtain⟨z1,Z1⟩:=z
  cases z1<;>rfl
 |exc x Z'=>rfl
 |bad=>rfl
theorem qif:sif t p q Z=match t Z with|.ok (b,Z1)=>(bif b then p Z1 else q Z1)|.exc x Z' => .exc x Z'|.bad => .bad:=by
 simp only[sif,bnd,sbnd]
 cases t Z with
 |ok z=>
  obtain⟨z1,Z1⟩:=z
  cases z1<;>rfl
 |exc x Z'=>rfl
 |bad=>rfl
theorem qg0:qM p q Z=match p Z with|.ok (.nx Z')=>q Z'|z=>z:=by
 unfold qM
 cases p Z with
 |ok z=>cases z<;>rfl
 |exc x Z'=>rfl
 |bad=>rfl
theorem qa8:yd f Z=match f Z with|.ok (d,Z1) => .ok (.rt d Z1)|.exc x Z' => .exc x Z'|.bad => .bad:=by
 simp only[yd,bnd,sbnd]
 cases f Z with
 |ok z=>
  obtain⟨z1,Z1⟩:=z
  rfl
 |exc x Z'=>rfl
 |bad=>rfl
theorem qcv (i:Nat):jk i f Z=match f Z with|.ok (d,Z1) => .ok (.nx (Z1.set i (some d)))|.exc x Z' => .exc x Z'|.bad => .bad:=by
 simp only[jk,bnd,sbnd]
 cases f Z with
 |ok z=>
  obtain⟨z1,Z1⟩:=z
  rfl
 |exc x Z'=>rfl
 |bad=>rfl
theorem qbT (i:Nat):yr i l Z=match l Z with|.ok (ds,Z1) => .ok (.nx (Z1.set i (some (.lst ds))))|.exc x Z' => .exc x Z'|.bad => .bad:=by
 simp only[yr,bnd,sbnd]
 cases l Z with
 |ok z=>
  obtain⟨z1,Z1⟩:=z
  rfl
 |exc x Z'=>rfl
 |bad=>rfl
theorem qaa:z9 f Z=match f Z with|.ok (_,Z1) => .ok (.nx Z1)|.exc x Z' => .exc x Z'|.bad => .bad:=by
 simp only[z9,bnd,sbnd]
 cases f Z with
 |ok z=>
  obtain⟨z1,Z1⟩:=z
  rfl
 |exc x Z'=>rfl
 |bad=>rfl
theorem qg1:u8 Z=.ok (.nx Z):=rfl
theorem qg2 (i j:Nat):qjc i j l Z=match l Z with|.ok ([d,e],Z1) => .ok (.nx ((Z1.set i (some d)).set j (some e)))|.ok _ => .bad|.exc x Z' => .exc x Z'|.bad => .bad:=by
 simp only[qjc,bnd,sbnd]
 cases l Z with
 |ok z=>
  obtain⟨z1,Z1⟩:=z
  match z1 with
  | []=>rfl
  | [_]=>rfl
  | [_,_]=>rfl
  |_::_::_::_=>rfl
 |exc x Z'=>rfl
 |bad=>rfl
theorem qg3 (G:D->Env->Option Env):qgI f G Z=match f Z with|.ok (d,Z1)=>(match G d Z1 with|some Z2 => .ok (.nx Z2)|none => .bad)|.exc x Z' => .exc x Z'|.bad => .bad:=by
 simp only[qgI,bnd,sbnd]
 cases f Z with
 |ok z=>
  obtain⟨z1,Z1⟩:=z
  dsimp only <;>
  cases G z1 Z1<;>rfl
 |exc x Z'=>rfl
 |bad=>rfl
theorem ud (G:D->Env->Option Env) (b:MS):qbR l G b Z=match l Z with|.ok (ds,Z1)=>yf G b ds Z1|.exc x Z' => .exc x Z'|.bad => .bad:=by
 simp only[qbR,bnd,sbnd]
 cases l Z with
 |ok z=>
  obtain⟨z1,Z1⟩:=z
  rfl
 |exc x Z'=>rfl
 |bad=>rfl
theorem qg4:wy f Z=match f Z with|.ok (d,Z1)=>(match qlg d with|some ds => .ok (ds,Z1)|none => .bad)|.exc x Z' => .exc x Z'|.bad => .bad:=by
 simp only[wy,bnd,sbnd]
 cases f Z with
 |ok z=>
  obtain⟨z1,Z1⟩:=z
  (dsimp only;cases qlg z1<;>rfl)
 |exc x Z'=>rfl
 |bad=>rfl
theorem qeo:jd l Z=match l Z with|.ok (d,Z1)=>(match qfL d with|some ds => .ok (ds,Z1)|none => .bad)|.exc x Z' => .exc x Z'|.bad => .bad:=by
 simp only[jd,bnd,sbnd]
 cases l Z with
 |ok z=>
  obtain⟨z1,Z1⟩:=z
  (dsimp only;cases qfL z1<;>rfl)
 |exc x Z'=>rfl
 |bad=>rfl
theorem qg5:qmD l Z=match l Z with|.ok (d,Z1)=>(match qlR d with|some ds => .ok (ds,Z1)|none => .bad)|.exc x Z' => .exc x Z'|.bad => .bad:=by
 simp only[qmD,bnd,sbnd]
 cases l Z with
 |ok z=>
  obtain⟨z1,Z1⟩:=z
  (dsimp only;cases qlR z1<;>rfl)
 |exc x Z'=>rfl
 |bad=>rfl
theorem qab {nt:Nat} {fr:List Nat} {fo:Option (Nat×Nat)} {G:D->Env->Option Env} {e:M D}:zP nt fr fo l G t e Z=match l Z with
  |.ok (ds,Z1)=>(match qX G t e ds [] (zL nt fr Z1) with|.ok (ys,Ze) => .ok (.lst ys,qjb fo Ze Z1)|_ => .bad)|.exc x Z' => .exc x Z'|.bad => .bad:=by
 simp only[zP,bnd,sbnd]
 cases l Z with
 |ok z=>
  obtain⟨z1,Z1⟩:=z
  dsimp only <;>
  cases qX G t e z1 [] (zL nt fr Z1) with
  |ok z=>obtain⟨z2,Z2⟩:=z;rfl
  |exc x Z'=>rfl
  |bad=>rfl
 |exc x Z'=>rfl
 |bad=>rfl
theorem qa9 (F:List D->List D->R (D×List D)) (i:Nat):qL F i l Z=match zc i Z with
  |none => .bad
  | some _=>(match l Z with
   |.ok (ds,Z1)=>(match zc i Z1 with
    |none => .bad
    |some bs=>(match F bs ds with|.ok (d,bs') => .ok (d,Z1.set i (some (.lst bs')))|_ => .bad))
   |.exc x Z' => .exc x Z'|.bad => .bad):=by
 simp only[qL,bnd]
 cases zc i Z with
 |none=>rfl
 | some _=>
  dsimp only <;>
  cases l Z with
  | ok z=>
   obtain⟨z1,Z1⟩:=z
   dsimp only <;>
   cases zc i Z1 with
   |none=>rfl
   |some bs=>
    dsimp only <;>
    cases F bs z1 with
    |ok z=>obtain⟨z2,z3⟩:=z;rfl
    |exc x Z'=>rfl
    |bad=>rfl
  |exc x Z'=>rfl
  |bad=>rfl
theorem qbU (F:List D->R D):yI F l Z=match l Z with
  |.ok (ds,Z1)=>(if immFs ds then(match F ds with|.ok (.lst bs)=>(if immL bs then .ok (bs,Z1)else .bad)|_ => .bad)else .bad)|.exc x Z' => .exc x Z'|.bad => .bad:=by
 simp only[yI,bnd,sbnd]
 cases l Z with
 | ok z=>
  obtain⟨z1,Z1⟩:=z
  dsimp only <;>
  cases immFs z1 with
  |false=>rfl
  |true=>
   simp only[if_true]
   cases F z1 with
   |ok z=>cases z<;>rfl
   |exc x Z'=>rfl
   |bad=>rfl
 |exc x Z'=>rfl
 |bad=>rfl
theorem qg6 (i:Nat):qkb i f Z=match zc i Z with
  |none => .bad
  | some _=>(match f Z with
   |.ok (k,Z1)=>(match k,zc i Z1 with
    |.int n,some ds=>(match atI ds n with|some d => .ok (d,Z1)|none => .bad)
    |_,_ => .bad)
   |.exc x Z' => .exc x Z'|.bad => .bad):=by
 simp only[qkb,bnd]
 cases zc i Z with
 |none=>rfl
 | some _=>
  dsimp only <;>
  cases f Z with
  |ok z=>
   obtain⟨z1,Z1⟩:=z
   dsimp only <;>
   cases z1<;>cases zc i Z1<;>try rfl
  |exc x Z'=>rfl
  |bad=>rfl
theorem qep (i:Nat):qfM i k f Z=match f Z with
  | .ok (d,Z1)=>(match zc i Z1 with
   |none => .bad
   | some _=>(match k Z1 with
    | .ok (j,Z2)=>(match j,zc i Z2 with
     |.int n,some ds=>(match ixN ds.length n with
      |some q=>if imm d then .ok (.nx (Z2.set i (some (.lst (ds.set q d)))))else .bad
      |none => .bad)
     |_,_ => .bad)
    |.exc x Z' => .exc x Z'|.bad => .bad))
  |.exc x Z' => .exc x Z'|.bad => .bad:=by
 simp only[qfM,bnd,sbnd]
 cases f Z with
 | ok z=>
  obtain⟨z1,Z1⟩:=z
  dsimp only <;>
  cases zc i Z1 with
  |none=>rfl
  | some _=>
   dsimp only <;>
   cases k Z1 with
   |ok z=>
    obtain⟨z2,Z2⟩:=z
    dsimp only <;>
    cases z2<;>cases zc i Z2<;>try rfl
   |exc x Z'=>rfl
   |bad=>rfl
 |exc x Z'=>rfl
 |bad=>rfl
theorem qeq (i:Nat):qka i Z=match zc i Z with|some ds => .ok (.int ds.length,Z)|none => .bad:=by
 unfold qka
 cases zc i Z<;>rfl
theorem qer (i:Nat):qeh i Z=match zc i Z with|some ds => .ok (.tup ds,Z)|none => .bad:=by
 unfold qeh
 cases zc i Z<;>rfl
theorem qg7 (i:Nat):qmB i f Z=match zc i Z with
  |none => .bad
  | some _=>(match f Z with
   |.ok (y,Z1)=>(match zc i Z1 with
    |none => .bad
    |some ds=>(match neA (.lst ds) y with|some d => .ok (d,Z1)|none => .bad))
   |.exc x Z' => .exc x Z'|.bad => .bad):=by
 simp only[qmB,bnd]
 cases zc i Z with
 |none=>rfl
 | some _=>
  dsimp only <;>
  cases f Z with
  |ok z=>
   obtain⟨z1,Z1⟩:=z
   dsimp only <;>
   cases zc i Z1 with
   |none=>rfl
   |some ds=>(dsimp only;cases neA (.lst ds) z1<;>rfl)
  |exc x Z'=>rfl
  |bad=>rfl
theorem vF (i:Nat):qZ i f Z=match zc i Z with
  |none => .bad
  | some _=>(match f Z with
   |.ok (d,Z1)=>(match zc i Z1 with
    |some ds=>if imm d&&qD (ds.length+1)then .ok (.non,Z1.set i (some (.lst (ds++[d]))))else .bad
    |none => .bad)
   |.exc x Z' => .exc x Z'|.bad => .bad):=by
 simp only[qZ,bnd]
 cases zc i Z with
 |none=>rfl
 | some _=>
  dsimp only <;>
  cases f Z with
  |ok z=>
   obtain⟨z1,Z1⟩:=z
   dsimp only <;>
   cases zc i Z1<;>rfl
  |exc x Z'=>rfl
  |bad=>rfl
theorem qkr {g k:M (Option Int)}:dsl f g k Z=match f Z with
  | .ok (d,Z1)=>(match g Z1 with
   |.ok (lo,Z2)=>(match k Z2 with
    |.ok (hi,Z3)=>(match slD d lo hi with|some x => .ok (x,Z3)|none => .bad)
    |.exc x Z' => .exc x Z'|.bad => .bad)
   |.exc x Z' => .exc x Z'|.bad => .bad)
  |.exc x Z' => .exc x Z'|.bad => .bad:=by
 simp only[dsl,bnd,sbnd]
 cases f Z with
 | ok z=>
  obtain⟨z1,Z1⟩:=z
  dsimp only <;>
  cases g Z1 with
  |ok z=>
   obtain⟨z2,Z2⟩:=z
   dsimp only <;>
   cases k Z2 with
   |ok z=>obtain⟨z3,Z3⟩:=z;(dsimp only;cases slD z1 z2 z3<;>rfl)
   |exc x Z'=>rfl
   |bad=>rfl
  |exc x Z'=>rfl
  |bad=>rfl
 |exc x Z'=>rfl
 |bad=>rfl
theorem qes:qj5 f Z=match f Z with|.ok (.int i,Z1) => .ok (some i,Z1)|.ok _ => .bad|.exc x Z' => .exc x Z'|.bad => .bad:=by
 simp only[qj5,bnd,sbnd]
 cases f Z with
 |ok z=>
  obtain⟨z1,Z1⟩:=z
  cases z1<;>rfl
 |exc x Z'=>rfl
 |bad=>rfl
end
theorem jM {n:Nat} (h:n<=1000000):qD n=true:=by
 unfold qD
 exact decide_eq_true (yaF h (by rw[yfJ];decide))
theorem qig {n p:Nat} {body:MS} {ds:List D} {d:D} {Z:Env} (h:ds.length=p) (e:body (jm n ds)=.ok (.rt d Z)):dfn n p body ds=.ok d:=by
 unfold dfn;rw[if_pos h,e]
theorem qg8 {n p:Nat} {body:MS} {bs ds bs':List D} {d:D} {Z:Env} (h:ds.length+1=p) (e:body (jm n (.lst bs::ds))=.ok (.rt d Z)) (g:zc 0 Z=some bs'):w6 n p body bs ds=.ok (d,bs'):=by
 unfold w6;rw[if_pos h,e];simp only[g]
end L2.Sk
namespace L2.Sk
open PySem PySem.Spec PyProof.Rows
section
variable{prog:yaj}{w:World}{A:yam}{E:Value->yab->Prop}{s:yab}
end
section
variable{X:Cx}{c:Fc}{a b e:Expr}{pos:Pos}{es:List Expr}{kk:Nat}{tp:Pos}
def yV (k:Nat):List D->List D
 | []=>[]
 |x::xs => .tup [.int (k:Nat),x]::yV (k+1) xs
theorem vG:∀(k:Nat)(xs:List D),(yV k xs).length=xs.length
 |_,[]=>rfl
 |k,x::xs=>by simp[yV,vG (k+1) xs]
theorem qba:∀{xs:List D}{k i:Nat}{d:D},(yV k xs)[i]? = some d->∃x,xs[i]? = some x/\d=.tup [.int ((k+i:Nat):Int),x]
 | [],_,_,_,h=>by simp[yV]at h
 |x::xs,k,0,d,h=>by
  have:D.tup [.int (k:Nat),x]=d:=by simpa [yV] using h
  exact⟨x,rfl,this.symm⟩
 |x::xs,k,i+1,d,h=>by
  obtain⟨y,h1,h2⟩:=qba (xs:=xs) (k:=k+1) (i:=i) (d:=d) (by simpa [yV] using h)
  exact⟨y,by simpa using h1,by rw[h2];congr 4;omega⟩
def qih:List D->Option (List D)
 | [.tup xs]=>some (yV 0 xs)
 |_=>none
def qii(f:M (List D)):M (List D):=bnd f λds=>lift (qih ds)
end
def vD:D->V
 |.bl b => .bl b
 |.int i => .int i
 |.str x => .str x
 |_ => .non
def flD:D->Bool
 |.non=>true
 |.bl _=>true
 |.int _=>true
 |.str _=>true
 |_=>false
def sqD:D->Option (List D)
 |.tup ds=>some ds
 |.lst ds=>some ds
 |_=>none
def inD (x y:D):Option D:=match sqD y with
 |some ds=>if flD x&&ds.all flD then some (.bl (ds.any λd=>eqV (vD d) (vD x)))else none
 |none=>none
theorem qg9 {K:Fr0} {A:Addr->Prop} {H:Hp} {d:D} {v:V} (h:Is K A H d v) (f:flD d=true):v=vD d/\uX v=true:=by
 cases d<;>first|(cases h;exact⟨rfl,rfl⟩)|cases f
theorem qbV {K:Fr0} {A:Addr->Prop} {H:Hp}:∀{ds:List D}{vs:List V},IsL K A H ds vs->ds.all flD=true->vs=ds.map vD/\vs.all uX=true
 | [],_,h,_=>by cases h;exact⟨rfl,rfl⟩
 |d::ds,_,⟨x,ys,hx,h1,h2⟩,f=>by
  rw[ydC,yan]at f
  obtain⟨e1,e2⟩:=qg9 h1 f.1
  obtain⟨e3,e4⟩:=qbV h2 f.2
  subst hx
  rw[mC_,<-e1,<-e3,ydC,e2,e4]
  exact⟨rfl,rfl⟩
theorem qks {K:Fr0} {A:Addr->Prop} {H:Hp} {x y:D} {ds:List D} {v u:V} (ix:Is K A H x v) (iy:Is K A H y u) (e:sqD y=some ds) (f:(flD x&&ds.all flD)=true) :
  ∃p xs,u=.ref p/\(SqL K H p xs\/SqT K H p xs)/\uX v=true/\xs.all uX=true/\inV v xs=ds.any λd=>eqV (vD d) (vD x):=by
 rw[yan]at f
 obtain⟨e1,e2⟩:=qg9 ix f.1
 cases y<;>simp only[sqD]at e<;>try (cases e;done)
 ·cases e
  obtain⟨a,zs,rfl,ta,il⟩:=iy
  obtain⟨e3,e4⟩:=qbV il f.2
  exact⟨a,zs,rfl,.inr ta.sq,e2,e4,by rw[e3,e1];unfold inV;rw[yfm];rfl⟩
 ·cases e
  obtain⟨a,zs,rfl,_,ta,il⟩:=iy
  obtain⟨e3,e4⟩:=qbV il f.2
  exact⟨a,zs,rfl,.inl (SqL.of ta),e2,e4,by rw[e3,e1];unfold inV;rw[yfm];rfl⟩
theorem qkt {K:Fr0}:OpS K inD (rIn K false):=by
 intro A H x y d v u Q hn ix iy e k
 unfold inD at e
 split at e
 ·rename_i ds es
  obtain⟨e1,e2⟩:=zj e
  subst e2
  obtain⟨p,xs,h1,h2,h3,h4,h5⟩:=qks ix iy es e1
  exact⟨p,xs,h1,h2,h3,h4,by rw[<-h5]at k;exact k _ H (zK.refl H) rfl⟩
 ·cases e
theorem qet {l:M (List D)} {Z:Env}:qii l Z=match l Z with|.ok (d,Z1)=>(match qih d with|some ds => .ok (ds,Z1)|none => .bad)|.exc x Z' => .exc x Z'|.bad => .bad:=by
 simp only[qii,bnd]
 cases l Z with
 |ok z=>obtain⟨z1,Z1⟩:=z;(dsimp only;cases qih z1<;>rfl)
 |exc x Z'=>rfl
 |bad=>rfl
section
variable{X:Cx}{tg iter elt:Expr}{ifs:List Expr}{scope:Scope}{pos:Pos}{wi:TI}{N':List Str}{nt:Nat}{fr:List Nat}
end
section
variable{X:Cx}{c:Fc}
end
def qlU:List Int->Int
 | []=>0
 | [n]=>n
 |n::m::ns=>max n (qlU (m::ns))
def qmG:List Int->Int
 | []=>0
 | [n]=>n
 |n::m::ns=>min n (qmG (m::ns))
section
variable{X:Cx}
end
def qns:List D->Option D
 | [.lst ds]=>match jZ ds with
  |some (n::ns)=>some (.int (qlU (n::ns)))
  |_=>none
 |_=>none
def jN (t:M Bool) (b:MS):Nat->MS
 |0,_ => .bad
 | n+1,Z=>match t Z with
  |.ok (true,Z1)=>match b Z1 with
   |.ok (.nx Z2)=>jN t b n Z2
   |.ok (.ct Z2)=>jN t b n Z2
   |.ok (.bk Z2) => .ok (.nx Z2)
   |.ok (.rt d Z2) => .ok (.rt d Z2)
   |.exc x Z2 => .exc x Z2
   |.bad => .bad
  |.ok (false,Z1) => .ok (.nx Z1)
  |.exc x Z1 => .exc x Z1
  |.bad => .bad
open Classical in
noncomputable def ue(t:M Bool)(b:MS):MS:=λZ=>if h:∃n,jN t b n Z ≠ .bad then jN t b h.choose Z else .bad
theorem yB {t:M Bool} {b:MS}:∀{n:Nat}{Z:Env}(k:Nat),jN t b n Z ≠ .bad->jN t b (n+k) Z=jN t b n Z
 |0,Z,k,h=>absurd rfl h
 | n + 1,Z,k,h=>by
  have e:n+1+k=(n+k)+1:=by omega
  rw[e]
  unfold jN at h |-
  cases et:t Z with
  | ok p=>
   obtain⟨v,Z1⟩:=p
   rw[et]at h
   cases v with
   |false=>rfl
   | true=>
    dsimp only at h |-
    cases eb:b Z1 with
    |ok fl=>
     rw[eb]at h
     cases fl with
     |nx Z2=>exact yB k h
     |ct Z2=>exact yB k h
     |bk Z2=>rfl
     |rt d Z2=>rfl
    |exc x Z2=>rfl
    |bad=>rfl
  |exc x Z1=>rfl
  |bad=>rfl
theorem qeu {t:M Bool} {b:MS} {n:Nat} {Z:Env} {r:R Fl} (h:jN t b n Z=r) (hb:r ≠ .bad):ue t b Z=r:=by
 have hx:∃n,jN t b n Z ≠ .bad:=⟨n,by rw[h];exact hb⟩
 unfold ue
 rw[dif_pos hx]
 have hc:=hx.choose_spec
 generalize hx.choose=m at hc
 rcases Nat.le_total m n with hl|hl
 ·obtain⟨k,rfl⟩:=ycE hl
  rw[<-yB k hc];exact h
 ·obtain⟨k,rfl⟩:=ycE hl
  rw[yB k (by rw[h];exact hb)];exact h
theorem qdi {t:M Bool} {b:MS} {Z:Env}:∃n,ue t b Z=jN t b n Z:=by
 unfold ue
 split
 ·exact⟨_,rfl⟩
 ·exact⟨0,rfl⟩
section
variable{X:Cx}{c:Fc}{pos:Pos}
theorem qfQ {e:Expr} {body:List Stmt} {t:M Bool} {b:MS} (hp:ye8 (model X.prog X.w) X.A X.env X.xe) (ht:DT X c e t) (hb:DSs X c body b):DS X c (.While e body [] pos) (ue t b):=by
 obtain⟨tc,pc,wc⟩:=ht
 obtain⟨tb,pb,wb⟩:=hb
 refine⟨_,qft hp pc pb,λZ σ H D' r h=>?_⟩
 obtain⟨n,en⟩:=qdi (t:=t) (b:=b) (Z:=Z)
 rw[en]at h
 refine⟨λm σ' H'=>∃Z',Rep X.K c Z' σ' H'/\WpS X.K c σ' H' D' (jN t b m Z'),⟨n,Z,r,h⟩,?_⟩
 rintro m σ' H' ⟨Z',r',w⟩
 cases m with
 |zero=>exact w.elim
 | succ m=>
  unfold jN at w
  refine wc Z' σ' H' _ r' ?_
  cases et:t Z' with
  |bad=>rw[et]at w;exact w
  |exc x Z1=>rw[et]at w;exact λH1 r1 g1=>w σ' H1 r1 g1.s
  | ok p=>
   obtain⟨v,Z1⟩:=p
   rw[et]at w
   intro H1 r1 g1
   cases v with
   |false=>
    rw[if_neg yal]
    exact w σ' H1 r1 g1.s
   | true=>
    rw[if_pos rfl]
    dsimp only at w
    refine⟨λσ2 H2=>∃Z2,Rep X.K c Z2 σ2 H2/\WpS X.K c σ2 H2 D' (jN t b m Z2),λσ2 H2 q=>⟨m,ycT m,q⟩,wb Z1 σ' H1 _ r1 ?_⟩
    have w2:=w.gr g1.s
    cases e2:b Z1 with
    |ok fl=>
     cases fl with
     |nx Z3=>simp only[e2]at w2;exact λσ3 H3 r3 g3=>⟨Z3,r3,w2.gr g3⟩
     |ct Z3=>simp only[e2]at w2;exact λσ3 H3 r3 g3=>⟨Z3,r3,w2.gr g3⟩
     |bk Z3=>simp only[e2]at w2;exact w2
     |rt d Z3=>simp only[e2]at w2;exact w2
    |exc x Z3=>simp only[e2]at w2;exact w2
    |bad=>simp only[e2]at w2;exact w2
end
def qlh(K:Fr0)(a:Addr)(ns:List Int):Prop:=∃(o:Obj)(its:Array Value)(n:Nat),K.lookup a=some o/\o.cls=.type "tuple"/\o.data=.seq its n/\its.size<=yas/\qO (ns.map V.int) its.toList
theorem qlh.is{K:Fr0}{a:Addr}{ns:List Int}(h:qlh K a ns)(H:Hp)(A:Addr->Prop):Is K A H (.tup (ns.map .int)) (.ref a):=⟨a,_,rfl,.inr h,wZ ns⟩
theorem qfR {X:Cx} {c:Fc} {x:Str} {a:Addr} {ns:List Int} {pos:Pos} (hg:Gl X x) (hm:X.mg x=some (.ref a)) (ht:qlh X.K a ns) (hdb:(x==("__debug__":Str))=false:=by decide):DE X c (.Name x pos) (ret (.tup (ns.map .int))) :=
 qd4 (v:=.ref a) hg hm rfl (λH A=>ht.is H A) hdb
def qac (h:Heap) (e T:Addr) (cls:Value):Prop :=
 ∃oe vs oT ts a0,h.get? e=some oe/\(oe.cls=cls/\vs[2]? = some .none/\vs[0]? = some a0)/\oe.data=.fields vs/\vs[1]? = some (.ref T)/\T≠e/\h.get? T=some oT/\oT.data=.fields ts/\ts[3]? = some .none
def CX1 (P:yaj) (w:World):CXT:=λouter H s E u s'=>∃e T C H',u=.ref e/\s'.os=s.os/\ycn s'.gens/\Un (frs outer) [] H H' s.heap s'.heap/\HOk P w H' s'.heap /\
 s.heap.get? e=none/\s.heap.get? T=none/\H' e=none/\H' T=none/\qac s'.heap e T (.ref C)/\E (.ref C) none H'
structure Lft (h h':Heap) (ch fs:List Addr):Prop where
 keep:∀b o,b ∉ ch->b ∉ fs->h.get? b=some o->h'.get? b=some o
 slot:∀b o,b∈fs->h.get? b=some o->∃sl,h'.get? b=some {o with slots:=sl}
section
variable{M:Model}{A:yam}{E:Value->yab->Prop}{s:yab}
abbrev uB:Obj->Obj:=ybe (·.setIfInBounds 3 yap)
theorem qij {base:Heap} {l:List yaN} {h:Heap} {b:Addr} {o:Obj} {vs:Array Value} (hl:h.FunFrames base l) (hb:h.get? b=some o) (hd:o.data=.fields vs):b ∉ frs l:=λz=>by
 obtain⟨_,o',ho',hn⟩:=hl.mem z
 rw[hb]at ho'
 cases ho'
 exact hn vs hd
theorem qcw {e T:Addr} {oe oT:Obj} {vs ts:Array Value} {Q:Unit->yab->Prop} (he:s.heap.get? e=some oe) (hd:oe.data=.fields vs) (h1:vs[1]? = some (.ref T)) (hT:s.heap.get? T=some oT) (hdT:oT.data=.fields ts) (h3:3<ts.size)
  (k:Q () {s with heap:=s.heap.update T uB}):wpAny M A (yc0 (.ref e) none) Q E s:=by
 unfold yc0
 refine yaa (yaD he hd h1 ?_)
 have t:(yae T != yap)=true:=by simp
 rw[if_pos t]
 exact ya9 hT hdT h3 k
theorem uC {h:Heap} {T:Addr} {oT:Obj} {ts:Array Value} (hT:h.get? T=some oT) (hdT:oT.data=.fields ts) (h3:3<ts.size):∃o2 t2,(h.update T uB).get? T=some o2/\o2.data=.fields t2/\t2[3]? = some .none :=
 ⟨_,_,Heap.get?_update_self _ hT (yb8 (ybi hdT _)),ybi hdT _,by simp[h3]⟩
theorem qW{h:Heap}{T b:Addr}(n:b≠T):(h.update T uB).get? b=h.get? b:=Heap.get?_update_other _ _ (yaZ n)
theorem qfS {base:Heap} {env:yaN} {outer:List yaN} {L e:Addr} {oe:Obj} {vs:Array Value} {head:Value} {had:Bool} {Q:Unit->yab->Prop} (hfr:A.frames=some (env::outer)) (hl:s.heap.FunFrames base (env::outer)) (hf:env.frame=some L)
  (he:s.heap.get? e=some oe) (hd:oe.data=.fields vs) (h1:1<vs.size)
  (k:∀h' T,s.heap.get? T=none->T≠e->(∀b o,b≠e->b ∉ frs (env::outer)->s.heap.get? b=some o->h'.get? b=some o)->(∀b o,b∈frs (env::outer)->s.heap.get? b=some o->∃sl,h'.get? b=some {o with slots:=sl}) ->
   h'.get? e=some (ybe (·.setIfInBounds 1 (yae T)) oe)->(∃oT ts,h'.get? T=some oT/\oT.data=.fields ts/\3<ts.size)->h'.FunFrames base (env::outer)->Q () {s with heap:=h' }) :
  wpAny M A (do let a <-frameOf env;let pl <-entryPlaceOf L had;let b <-ydg head a .none (ya2 L) .none pl;setField (.ref e) 1 b) Q E s:=by
 have hene:=qij hl he hd
 refine yaa (wpAny_frameOf_fun hfr hl hf λh₁ hs1=>yaa (wpAny_entryPlaceOf λpl hpl=>?_))
 unfold ydg newFields
 have he1:h₁.get? e=some oe:=(hs1.2.1 e hene).trans he
 refine yaa (yaM ?_ (hpl.sizeOk5 _ _ _ _ _))
 generalize hob:({cls:=yaP "traceback",dict:=none,data:=ycH ([head,yae L,yap,ya2 L,yap]++(if pl.isEmpty then yak 6 yap else pl)).toArray}:Obj)=ob
 have nT:h₁.objs.size≠e:=ybI (yaf he1)
 have hnT:s.heap.get? h₁.objs.size=none:=by
  cases q:s.heap.get? h₁.objs.size with
  |none=>rfl
  |some o=>
   obtain⟨sl,q'⟩:=hs1.2.2 _ o q
   exact absurd (yaf q') (ybp _)
 refine ya9 (Heap.get?_push_of_some _ he1) hd h1 ?_
 have keep:∀b o,b≠e->h₁.get? b=some o->((h₁.push ob).update e (ybe (·.setIfInBounds 1 (yae h₁.objs.size)))).get? b=some o:=λb o hb q=>(Heap.get?_update_other _ _ (yaZ hb)).trans (Heap.get?_push_of_some _ q)
 refine k _ h₁.objs.size hnT nT (λb o hb hf q=>keep b o hb ((hs1.2.1 b hf).trans q)) (λb o hb q=>?_) (Heap.get?_update_self _ (Heap.get?_push_of_some _ he1) (yb8 (ybi hd _))) ⟨ob,([head,yae L,yap,ya2 L,yap]++(if pl.isEmpty then yak 6 yap else pl)).toArray,?_,by rw[<-hob],by simp⟩ (hl.of_keeps λb o q hn=>?_)
 ·obtain⟨sl,q'⟩:=hs1.2.2 b o q
  exact⟨sl,keep b _ (λz=>hene (z▸hb)) q'⟩
 ·exact(Heap.get?_update_other _ _ (yaZ nT)).trans (Heap.get?_push_size _ (by rw[<-hob];rfl))
 ·obtain⟨sl,q'⟩:=hs1.2.2 b o q
  exact⟨_,keep b _ (λz=>by subst z;rw[he]at q;cases q;exact hn vs hd) q',rfl⟩
theorem qcx {base:Heap} {env:yaN} {outer:List yaN} {L e:Addr} {oe:Obj} {vs:Array Value} {a0 head:Value} {had:Bool} {Q:Unit->yab->Prop} (hfr:A.frames=some (env::outer)) (hl:s.heap.FunFrames base (env::outer)) (hf:env.frame=some L)
  (he:s.heap.get? e=some oe) (hd:oe.data=.fields vs) (h1:1<vs.size) (h2:vs[2]? = some .none) (h0:vs[0]? = some a0)
  (k:∀h' T',Lft s.heap h' [e] (frs (env::outer))->qac h' e T' oe.cls->s.heap.get? T'=none->Q () {s with heap:=h' }) :
  wpAny M A (do let a <-frameOf env;let pl <-entryPlaceOf L had;let b <-ydg head a .none (ya2 L) .none pl;setField (.ref e) 1 b) (λ_ s'=>wpAny M A (yc0 (.ref e) none) Q E s') E s:=by
 refine qfS hfr hl hf he hd h1 λh' T nT ne kp sl ee eT _=>?_
 obtain⟨oT,ts,gT,dT,sT⟩:=eT
 have dd:=ybi hd (·.setIfInBounds 1 (yae T))
 refine qcw (s:={s with heap:=h' }) ee dd (by simp[h1]) gT dT sT ?_
 obtain⟨o2,t2,q1,q2,q3⟩:=uC gT dT sT
 have nf:∀b o,s.heap.get? b=some o->b≠T:=λb o q z=>by rw[z,nT]at q;cases q
 refine k _ T ⟨λb o hb hf q=>(qW (nf b o q)).trans (kp b o (by simpa using hb) hf q),λb o hb q=>?_⟩ ⟨_,_,o2,t2,a0,(qW (yaZ ne)).trans ee,⟨ydO _ _,?_,?_⟩,dd,by simp[h1],ne,q1,q2,q3⟩ nT
 ·obtain⟨sl,q'⟩:=sl b o hb q
  exact⟨sl,(qW (nf b o q)).trans q'⟩
 ·rw[Array.getElem?_setIfInBounds_ne (by decide)];exact h2
 ·rw[Array.getElem?_setIfInBounds_ne (by decide)];exact h0
theorem vH {base:Heap} {env:yaN} {outer:List yaN} {L e T:Addr} {cls:Value} {Q:Unit->yab->Prop} (hfr:A.frames=some (env::outer)) (hl:s.heap.FunFrames base (env::outer)) (hf:env.frame=some L) (F:qac s.heap e T cls)
  (k:∀h' T',Lft s.heap h' [e,T] (frs (env::outer))->qac h' e T' cls->(T'=T\/s.heap.get? T'=none)->Q () {s with heap:=h' }) :
  wpAny M A (ydu (.ref e) env) (λ_ sV=>wpAny M A (yc0 (.ref e) none) Q E sV) E s:=by
 obtain⟨oe,vs,oT,ts,a0,he,⟨hc,h2,h0⟩,hd,h1,hne,hT,hdT,h3⟩:=F
 subst hc
 have z3:3<ts.size:=(Array.getElem?_eq_some_iff.mp h3).1
 have z1:1<vs.size:=(Array.getElem?_eq_some_iff.mp h1).1
 have tT:(yae T != yap)=true:=by simp
 have tL:¬((yap==ya2 L)=true):=by simp[ya2]
 have nf:=qij hl hT hdT
 unfold ydu
 simp only[hf]
 refine yaa (yaD he hd h1 ?_)
 rw[if_pos tT]
 refine yaa (yaD hT hdT h3 ?_)
 rw[if_neg tL]
 refine yaa (ya9 hT hdT z3 ?_)
 have hl1:(s.heap.update T uB).FunFrames base (env::outer):=hl.of_keeps λb o q hn=>⟨o,(qW λz=>by subst z;rw[hT]at q;cases q;exact hn ts hdT).trans q,rfl⟩
 refine qcx (s:={s with heap:=s.heap.update T uB}) hfr hl1 hf ((qW (yaZ hne)).trans he) hd z1 h2 h0 λh' T' x y z=>?_
 refine k h' T' ⟨λb o hb hf q=>?_,λb o hb q=>?_⟩ y (.inr ?_)
 ·simp only[yav,nN_,or_false,not_or]at hb
  exact x.keep b o (by simpa using hb.1) hf ((qW hb.2).trans q)
 ·exact x.slot b o hb ((qW λ(z:b=T)=>nf (z▸hb)).trans q)
 ·by_cases e2:T'=T
  ·subst e2
   obtain⟨_,_,q,_⟩:=uC hT hdT z3
   have z':(s.heap.update T' uB).get? T'=none:=z
   rw[q]at z';cases z'
  ·exact(qW e2).symm.trans z
theorem qdj {base:Heap} {env:yaN} {outer:List yaN} {L e T:Addr} {cls:Value} {Q:Unit->yab->Prop} (hfr:A.frames=some (env::outer)) (hl:s.heap.FunFrames base (env::outer)) (hf:env.frame=some L) (F:qac s.heap e T cls)
  (k:∀h' T',Lft s.heap h' [e,T] (frs (env::outer))->qac h' e T' cls->(T'=T\/s.heap.get? T'=none)->Q () {s with heap:=h' }):wpAny M A (ydi env (.ref e)) Q E s:=by
 unfold ydi
 exact yaa (vH hfr hl hf F k)
theorem qdk {base h:Heap} {env:yaN} {outer:List yaN} {L e:Addr} {cls:Value} {args:List Value} {Q:Unit->yab->Prop} (hfr:A.frames=some (env::outer)) (hl:h.FunFrames base (env::outer)) (hf:env.frame=some L) (hx:yeG h s.heap e cls args)
  (k:∀h' T',Lft s.heap h' [e] (frs (env::outer))->qac h' e T' cls->s.heap.get? T'=none->Q () {s with heap:=h' }):wpAny M A (ydi env (.ref e)) Q E s:=by
 obtain⟨t,he,htn,ht⟩:=hx.there
 have hl1:s.heap.FunFrames base (env::outer):=hl.of_keeps λb o q _=>⟨o,hx.keeps b o q,rfl⟩
 unfold ydi ydu
 simp only[hf]
 refine yaa (yaa (yaD he rfl (x:=.none) rfl ?_))
 rw[if_neg (by decide)]
 exact qcx hfr hl1 hf he rfl (of_decide_eq_true rfl) rfl rfl k
theorem wB {base:Heap} {l:List yaN} {e T:Addr} {cls:Value} {Q:Unit->yab->Prop} (hl:s.heap.FunFrames base l) (F:qac s.heap e T cls)
  (k:∀h' T',Lft s.heap h' [e,T] (frs l)->qac h' e T' cls->(T'=T\/s.heap.get? T'=none)->Q () {s with heap:=h' }) :
  wpAny M A (yc0 (.ref e) none) Q E s:=by
 obtain⟨oe,vs,oT,ts,a0,he,hc,hd,h1,hne,hT,hdT,h3⟩:=F
 have z3:3<ts.size:=(Array.getElem?_eq_some_iff.mp h3).1
 have nf:=qij hl hT hdT
 refine qcw he hd h1 hT hdT z3 ?_
 obtain⟨o2,t2,q1,q2,q3⟩:=uC hT hdT z3
 refine k _ T ⟨λb o hb _ q=>?_,λb o hb q=>⟨o.slots,(qW λ(z:b=T)=>nf (z▸hb)).trans q⟩⟩ ⟨oe,vs,o2,t2,a0,(qW (yaZ hne)).trans he,hc,hd,h1,hne,q1,q2,q3⟩ (.inl rfl)
 simp only[yav,nN_,or_false,not_or]at hb
 exact(qW hb.2).trans q
end
theorem qha {P:yaj} {w:World} {H:Hp} {h h':Heap} (x:HOk P w H h) (k:∀b o,(H b).isSome=true->h.get? b=some o->h'.get? b=some o):HOk P w H h':=λa o e=>
 (x a o e).stay (λb u hb q=>k b u (by
   rcases hb with rfl|hb;· rw[e];rfl
   ·rw[hb];rfl) q) (λ_ z=>z) λ_ _ z=>z
theorem jC {P:yaj} {w:World} {H:Hp} {h:Heap} {a:Addr} {o:HO} (x:jj P w H h a o):∃u,h.get? a=some u:=by
 cases o with
 |lst xs=>obtain⟨_,_,_,_,e⟩:=x;exact⟨_,e⟩
 |tup xs=>obtain⟨_,_,_,ob,e,_⟩:=x;exact⟨_,e⟩
 |dK kvs=>obtain⟨_,_,_,_,o,_,_,e,_⟩:=x;exact⟨_,e⟩
 |dT kvs=>obtain⟨_,_,_,_,o,_,_,e,_⟩:=x;exact⟨_,e⟩
 |set S n=>obtain⟨o,_,_,_,e,_⟩:=x;exact⟨_,e⟩
 |ins C dx fs=>obtain⟨_,_,_,e,_⟩:=x;exact⟨_,e⟩
 |own y=>obtain⟨_,e⟩:=x;exact⟨_,e⟩
 |xd fs=>obtain⟨_,⟨_,_,_,e,_⟩,_⟩:=x;exact⟨_,e⟩
 |rng lo hi=>obtain⟨_,_,_,e⟩:=x;exact⟨_,e⟩
 |frz ob u=>obtain⟨e,_⟩:=x;exact⟨_,e⟩
 |tbl ps=>exact⟨_,(show h.get? a=some _ from x)⟩
 |met f y=>exact⟨_,(show h.get? a=some _ from x)⟩
 |ext φ=>obtain⟨_,e,_⟩:=x;exact e
 |lam pos q=>rcases x with e|⟨_,_,_,_,_,_,_,e⟩<;>exact⟨_,e⟩
section
variable{X:Cx}{pins:List (Addr×Obj)}{σ:St}{H:Hp}{s:yab}
theorem qcy {H':Hp} {s':yab} {h':Heap} {ch:List Addr} (I:Inv X pins σ H s) (hs:X.stack=X.env::X.outer) (hf:X.env.frame=some X.env.locals) (hex:X.ex=[])
  (u:Un (frs X.stack) [] H H' s.heap s'.heap) (hok:HOk X.prog X.w H' s'.heap) (hch:∀b∈ch,H' b=none) (hchn:∀b∈ch,s.heap.get? b=none) (x:Lft s'.heap h' ch (frs X.stack)) :
  Un (frs X.outer) [] X.H₀ H' X.s₀.heap h'/\HOk X.prog X.w H' h':=by
 have hfs:frs X.stack=X.env.locals::frs X.outer:=by rw[hs];unfold frs;rw[ybD,hf]
 have hb:=I.base
 rw[hex]at hb
 have nL:∀b o,X.s₀.heap.get? b=some o->b≠X.env.locals:=λb o q z=>absurd (yau (yaf q) (z▸I.ok.above)) (ybp _)
 have nch:∀b o,X.s₀.heap.get? b=some o->b ∉ ch:=λb o q z=>by
  obtain⟨o',q'⟩:=hb.there b o q (by simp)
  rw[hchn b z]at q';cases q'
 have nfs:∀b o,X.s₀.heap.get? b=some o->b ∉ frs X.outer->b ∉ frs X.stack:=λb o q z y=>by
  rw[hfs]at y
  exact(List.mem_cons.mp y).elim (nL b o q) z
 have yfs:∀b,b∈frs X.outer->b∈frs X.stack:=λb z=>by rw[hfs];exact mM _ z
 refine⟨⟨λb o q n hb1 _=>?_,λb o q n hb1 _=>?_,λb o q n _=>?_,λb o q _=>?_,λb xs q=>u.tups b xs (hb.tups b xs q),λb o v q=>u.frzs b o v (hb.frzs b o v q),λb ps y q=>u.tbls b ps y (hb.tbls b ps y q)⟩,?_⟩
 ·exact x.keep b o (nch b o q) (nfs b o q hb1) (u.keep b o (hb.keep b o q n hb1 (by simp)) (hb.free b o q n (by simp)) (nfs b o q hb1) (by simp))
 ·obtain⟨sl,q1⟩:=hb.slot b o q n hb1 (by simp)
  obtain⟨sl2,q2⟩:=u.slot b _ q1 (hb.free b o q n (by simp)) (yfs b hb1) (by simp)
  obtain⟨sl3,q3⟩:=x.slot b _ (yfs b hb1) q2
  exact⟨sl3,q3⟩
 ·obtain⟨o',q'⟩:=hb.there b o q (by simp)
  exact u.free b o' q' (hb.free b o q n (by simp)) (by simp)
 ·obtain ⟨o1,q1⟩:=hb.there b o q (by simp)
  obtain⟨o2,q2⟩:=u.there b o1 q1 (by simp)
  by_cases hb1:b∈frs X.stack
  ·obtain⟨sl,q3⟩:=x.slot b o2 hb1 q2
   exact⟨_,q3⟩
  ·exact⟨o2,x.keep b o2 (nch b o q) hb1 q2⟩
 ·refine qha hok λb o hb1 q=>x.keep b o (λz=>?_) (λz=>?_) q
  ·rw[hch b z]at hb1;cases hb1
  ·obtain⟨_,o1,ho1,_⟩:=I.stack.mem z
   rw[u.free b o1 ho1 (I.stkFree b z) (by simp)]at hb1
   cases hb1
theorem qik {s':yab} {E:XK} {u:Value} {A:yam} (I:Inv X pins σ H s) (hs:X.stack=X.env::X.outer) (hf:X.env.frame=some X.env.locals) (hex:X.ex=[]) (hA:A.frames=some X.stack) (x:CX1 X.prog X.w X.stack H s E u s') {E':Value->yab->Prop} :
  wpAny (model X.prog X.w) A (ydi X.env u) (λ_ s''=>CX1 X.prog X.w X.outer X.H₀ X.s₀ E u s'') E' s':=by
 obtain⟨e,T,C,H',rfl,os,bare,un,hok,he,hT,hHe,hHT,F,q⟩:=x
 have hl:s'.heap.FunFrames X.base X.stack:=by
  have h0:=I.stack
  have all:∀(l:List yaN),(∀b∈frs l,b∈frs X.stack)->s.heap.FunFrames X.base l->s'.heap.FunFrames X.base l:=by
   intro l
   induction l with
   |nil=>intro _ _;trivial
   |cons env r ih=>
    intro hss hl
    obtain⟨hk,⟨L,o,hf',hn,ho,hd⟩,hr⟩:=hl
    have hfr:frs (env::r)=L::frs r:=by unfold frs;rw[ybD,hf']
    rw[hfr]at hss
    have hL:=hss L mS_
    obtain⟨sl,e⟩:=un.slot L o ho (I.stkFree L hL) hL (by simp)
    exact⟨hk,⟨L,_,hf',hn,e,hd⟩,ih (λb hb=>hss b (mM _ hb)) hr⟩
  exact all X.stack (λ_ z=>z) h0
 rw[hs]at hl hA
 refine qdj hA hl hf F λh' T' y1 y2 y3=>?_
 rw[<-hs]at y1
 have hz:∀b∈[e,T],H' b=none:=λb hb=>by
  simp only[yav,nN_,or_false]at hb
  rcases hb with rfl|rfl
  ·exact hHe
  ·exact hHT
 have hzn:∀b∈[e,T],s.heap.get? b=none:=λb hb=>by
  simp only[yav,nN_,or_false]at hb
  rcases hb with rfl|rfl
  ·exact he
  ·exact hT
 obtain⟨z1,z2⟩:=qcy I hs hf hex un hok hz hzn y1
 have up:∀b,s.heap.get? b=none->X.s₀.heap.get? b=none:=λb hb=>by
  cases q:X.s₀.heap.get? b with
  |none=>rfl
  |some o=>
   obtain⟨o',q'⟩:=I.base.there b o q (by rw[hex];simp)
   rw[hb]at q';cases q'
 have up':∀b,s'.heap.get? b=none->s.heap.get? b=none:=λb hb=>by
  cases q:s.heap.get? b with
  |none=>rfl
  |some o=>
   obtain⟨o',q'⟩:=un.there b o q (by simp)
   rw[hb]at q';cases q'
 have hT2:s.heap.get? T'=none:=y3.elim (λz=>z▸hT) (up' T')
 have hHT2:H' T'=none:=y3.elim (λz=>z▸hHT) λz=>by
  cases q:H' T' with
  |none=>rfl
  |some o=>
   obtain⟨o',q'⟩:=jC (hok _ _ q)
   rw[z]at q';cases q'
 exact⟨e,T',C,H',rfl,os.trans I.os,bare,z1,z2,up e he,up T' hT2,hHe,hHT2,y2,q⟩
end
structure XC (base:Heap) (C:Addr) (bm:List Value):Prop where
 hasBase:bm.contains (.type "BaseException")=true
 ex:∃nm q N bs hdct sn sub ab col dd k0 k1 k2 k3 k5 newId initId B bmB mN,base.get? C=some (yfY nm q C N bs bm hdct sn sub ab col dd k0 k1 k2 k3 k5 newId)/\base.Ns N mN/\mN "__init__"=none/\OwnTail base bmB bm/\ExcBaseFacts B newId initId bmB
def v7 (n p:Nat) (body:MS) (ds:List D):R D:=if ds.length=p then match body (jm n ds) with
 |.ok (.rt d _) => .ok d
 |.ok (.nx _) => .ok .non
 |.exc x Z => .exc x Z
 |_ => .bad else .bad
section
variable{X:Cx}{c:Fc}{e:Expr}{es:List Expr}{pos cpos np:Pos}
theorem qfT {x:Str} {C:Addr} {bm:List Value} {t:TA} {E:XK} (hc:X.calm=true) (hg:Gl X x) (hm:X.mg x=some (.ref C)) (xc:XC X.base C bm) (ha:PA X (e::es) t)
  (made:∀pins σ H s h' a us,Inv X pins σ H s->yeG s.heap h' a (.ref C) us->E (.ref C) none H->X.xe (.ref a) {s with heap:=h' })
  (hd:(x==("__debug__":Str))=false:=by decide) (he:yad (e::es) X.env=(false,eval e X.env)::yad es X.env:=by rfl) (hpl:(yaI cpos (yad es X.env)).any (·.1)=false:=by rfl) :
  PS X (.Raise (some (.Call (.Name x np) (e::es) [] cpos)) none pos) (λ_ σ H=>t σ H λvs H1=>vs.length<=yas/\E (.ref C) none H1):=by
 intro pins s σ H D I h
 obtain⟨nm,q,N,bs,hdct,sn,sub,ab,col,dd,k0,k1,k2,k3,k5,newId,initId,B,bmB,mN,hC,hN,hni,T,FB⟩:=xc.ex
 refine wpAny_Raise_call_subT (C:=C) (nm:=nm) (q:=q) (N:=N) (bs:=bs) (bm:=bm) (hdct:=hdct) (sn:=sn) (sub:=sub) (ab:=ab) (col:=col) (dd:=dd) (k0:=k0) (k1:=k1) (k2:=k2) (k3:=k3) (k5:=k5)
  FB (mN:=mN) xc.hasBase (I.ok.hd hc) (by rw[he];show(false||(yaI cpos (yad es X.env)).any (·.1))=false;rw[hpl];rfl) hni ?_
 have hn:PE X (.Name x np) (λ_ H Q=>Q (.ref C) H):=qbH hg hm rfl hd
 refine thn (hn pins s σ H (λv H1=>v=.ref C/\H1=H) I ⟨rfl,rfl⟩) λf s1 h1=>?_
 obtain⟨v,H1,I1,rv,rfl,rfl⟩:=h1
 refine⟨rv,?_⟩
 have h2:=ha cpos pins s1 σ _ _ I1 h
 rw[he]at h2 |-
 refine yeP (thn h2 λvs s2 h3=>?_)
 obtain⟨ws,H2,I2,r2,hl,hE⟩:=h3
 refine⟨rfl,by rw[<-r2.length];exact hl,I2.bk _ _ hC,hN.keeps I2.bk,T.keeps I2.bk,λh' a hx=>made pins σ H2 s2 h' a vs I2 hx hE⟩
structure XL (X:Cx) (c:Fc) (cl:Str->Option Addr) (E:XK):Prop where
 made:∀C pins σ H s h' a us,Inv X pins σ H s->yeG s.heap h' a (.ref C) us->E (.ref C) none H->X.xe (.ref a) {s with heap:=h' }
 pass:vd (CX1 X.prog X.w) X E
 wish:∀x C H',cl x.cls=some C->c.E x H'->E (.ref C) none H'
structure XL2 (X:Cx) (c:Fc) (cl:Str->Option Addr) (E:XK):Prop where
 pass:vd (CX1 X.prog X.w) X E
 wish:∀x C H',cl x.cls=some C->c.E x H'->E (.ref C) none H'
theorem XL.two{X:Cx}{c:Fc}{cl:Str->Option Addr}{E:XK}(L:XL X c cl E):XL2 X c cl E:=⟨L.pass,L.wish⟩
def wC (x:Str) (f:M (List D)):MS:=λZ=>match f Z with
 |.ok (ds,Z')=>if qD ds.length then .exc ⟨x,.non⟩ Z' else .bad
 |.exc z Z' => .exc z Z'
 |.bad => .bad
theorem qad {x:Str} {C:Addr} {bm:List Value} {f:M (List D)} {E:XK} {cl:Str->Option Addr} (hc:X.calm=true) (L:XL X c cl E) (hcl:cl x=some C) (hg:Gl X x) (hm:X.mg x=some (.ref C)) (xc:XC X.base C bm) (ha:DA X c (e::es) f)
  (hd:(x==("__debug__":Str))=false:=by decide) (he:yad (e::es) X.env=(false,eval e X.env)::yad es X.env:=by rfl) (hpl:(yaI cpos (yad es X.env)).any (·.1)=false:=by rfl) :
  DS X c (.Raise (some (.Call (.Name x np) (e::es) [] cpos)) none pos) (wC x f):=by
 obtain⟨t,pa,w⟩:=ha
 refine⟨_,qfT (E:=E) hc hg hm xc pa (L.made C) hd he hpl,λZ σ H D r h=>w Z σ H _ r ?_⟩
 unfold wC at h
 cases ef:f Z with
 |bad=>rw[ef]at h;exact h
 |exc z Z'=>rw[ef]at h;exact λH' r' g'=>h σ H' r' g'.s
 | ok p=>
  obtain⟨ds,Z'⟩:=p
  rw[ef]at h
  intro vs H' r' i' g'
  by_cases hs:qD ds.length=true
  ·simp only[hs,if_true]at h
   exact⟨by rw[i'.length];exact of_decide_eq_true hs,L.wish ⟨x,.non⟩ C H' hcl (h σ H' r' g'.s)⟩
  ·simp only[hs]at h
   exact h.elim
def spX (K:Fr0) (cl:Str->Option Addr) (F:List D->R D):Sp:=λvs H Q E=>∃ds A,IsL K A H ds vs/\wW K H/\match F ds with
 |.ok d=>∀v H',zK H H'->Is K (λa=>A a\/H a=none) H' d v->Q v H'
 |.exc x _=>∃C,cl x.cls=some C/\∀H',zK H H'->E (.ref C) none H'
 |.bad=>False
def jD (RN:List Str) (F:List D->R D) (g:M (List D)):M D:=bnd g λds Z=>match F ds with
 |.ok d => .ok (d,Z)
 |.exc x _=>if RN.contains x.cls then .exc x Z else .bad
 |.bad => .bad
theorem qfU {k:Nat} {f:Addr} {fd:yaL} {ps:List Str} {F:List D->R D} {x:Str} {p:Pos} {g:M (List D)} {E:XK} {cl:Str->Option Addr} (L:XL2 X c cl E) {RN:List Str} (hcl:∀n,RN.contains n=true->(cl n).isSome=true)
  (G:uq X.prog X.w X.K X.mg X.base (CX1 X.prog X.w) k f fd ps (spX X.K cl F)) (hr:yc k X.A) (hg:Gl X x) (hm:X.mg x=some (.ref f)) (hk:yaq X.K (.ref f)=true) (hb:yt X.K fd ps [])
  (ha:DA X c (e::es) g) (hd:(x==("__debug__":Str))=false:=by decide) (he:yad (e::es) X.env=(false,eval e X.env)::yad es X.env:=by rfl) (hpl:(yaI pos (yad es X.env)).any (·.1)=false:=by rfl):DE X c (.Call (.Name x p) (e::es) [] pos) (jD RN F g):=by
 obtain⟨t,pa,w⟩:=ha
 refine⟨_,ve G hr hg hm hk hb .nil L.pass pa hd he hpl,λZ σ H Q r h=>w Z σ H _ r (WpL.bnd h λds Z1 vs H1 r1 i1 g1 h1=>?_)⟩
 rw[yaK]
 refine⟨ds,Cn c σ,i1,r1.tb,?_⟩
 cases ef:F ds with
 |bad=>simp only[ef]at h1;exact h1.elim
 |exc z Z'=>
  simp only[ef]at h1
  by_cases hz:RN.contains z.cls=true
  case neg=>rw[if_neg hz]at h1;exact h1.elim
  rw[if_pos hz]at h1
  obtain⟨C,hC⟩:=Option.isSome_iff_exists.mp (hcl z.cls hz)
  exact⟨C,hC,λH' sm=>L.wish z C H' hC (h1 H' (r1.same sm) (.of_same sm))⟩
 |ok d=>
  simp only[ef]at h1
  exact λv H' sm i=>h1 v H' (r1.same sm) (Is.ext Ext.refl (λa ha _=>ha.elim id r1.new) i) (.of_same sm)
def qhb (F:List D->R D) (g:M (List D)):M D:=bnd g λds Z=>match F ds with
 |.ok d => .ok (d,Z)
 |_ => .bad
end
section
variable{P:yaj}{w:World}{K:yah}{mg:Str->Option Value}{base:Heap}
theorem vI {N:List Str} {qual:Str} {scope:Scope} {f:Addr} {cdv:Value} {A:yam} {outer:List yaN} {s:yab} {H:Hp} {E:XK} {c:Fc} {cl:Str->Option Addr} (hf:(ybd qual scope s.heap.objs.size f cdv).frame=some s.heap.objs.size)
  (hw:∀x C H',cl x.cls=some C->c.E x H'->E (.ref C) none H'):XL (qfg (CX1 P w) P w K mg base N qual scope f cdv A outer s H E) c cl E where
 made:=λC pins σ H1 s1 h' a us I hx hE=>by
  show wpAny (model P w) _ (ydi _ (.ref a)) _ _ _
  refine qdk (s:={s1 with heap:=h' }) (h:=s1.heap) (base:=base) I.ok.frames I.stack hf hx λh2 T' y1 y2 y3=>?_
  have hn:H1 a=none:=by
   cases q:H1 a with
   |none=>rfl
   |some o=>
    obtain⟨o',q'⟩:=jC (I.hok _ _ q)
    rw[hx.new]at q';cases q'
  have hT:s1.heap.get? T'=none:=by
   cases q:s1.heap.get? T' with
   |none=>rfl
   |some o=>rw[show({s1 with heap:=h' }:yab).heap.get? T'=some o from hx.keeps _ _ q]at y3;cases y3
  have hHT:H1 T'=none:=by
   cases q:H1 T' with
   |none=>rfl
   |some o=>
    obtain⟨o',q'⟩:=jC (I.hok _ _ q)
    rw[hT]at q';cases q'
  have up:∀b,s1.heap.get? b=none->s.heap.get? b=none:=λb hb=>by
   cases q:s.heap.get? b with
   |none=>rfl
   |some o=>
    obtain⟨o',q'⟩:=I.base.there b o q (by show b ∉ ([]:List Addr);simp)
    rw[hb]at q';cases q'
  obtain⟨z1,z2⟩:=qcy (s':={s1 with heap:=h' }) I rfl hf rfl (Un.kept hx.keeps) (I.hok.kept hx.keeps) (λb hb=>by rw[ms_]at hb;subst hb;exact hn) (λb hb=>by rw[ms_]at hb;subst hb;exact hx.new) y1
  exact⟨a,T',C,H1,rfl,I.os,I.bare,z1,z2,up a hx.new,up T' hT,hn,hHT,y2,hE⟩
 pass:=λpins σ H1 s1 u s' I x=>qik I rfl hf rfl I.ok.frames x
 wish:=hw
theorem vJ {x qual:Str} {st:Stmt} {f:Addr} {fd:yaL} {N ps:List Str} {k:Nat} {O:List Nat} {body:MS} {cl:Str->Option Addr} (F:Fun K x qual st f fd) (S:qu N ps (qd st)) (hO:∀i∈O,ps.length<=i)
  (hb:∀(cdv:Value)(A:yam)(outer:List yaN)(s:yab)(H:Hp)(E:XK)(B:Addr->Prop),yc k (A.deeper (ybd qual (qd st) s.heap.objs.size f cdv)) ->
   DSs (qfg (CX1 P w) P w K mg base N qual (qd st) f cdv A outer s H E) (cfn O [] B H (λ_=>False) (λx H'=>∀C,cl x.cls=some C->E (.ref C) none H') λ_=>none) (qt st) body) :
  uq P w K mg base (CX1 P w) (k+1) f fd ps (spX K cl (v7 N.length ps.length body)):=by
 obtain⟨oc,od,kV,doc,pm,an,cdv,ct,osl,rfl,lk,hcd⟩:=F.ex
 refine qjL lk hcd S (λvs H Q E h=>?_) λA outer s H vs Q E hr h=>?_
 ·obtain⟨ds,B,il,_,h⟩:=h
  unfold v7 at h
  by_cases e:ds.length=ps.length
  ·rw[il.length];exact e
  ·rw[if_neg e]at h;exact h.elim
 ·obtain ⟨ds,B,il,tb,h⟩:=h
  obtain⟨t,p,wt⟩:=hb cdv A outer s H E B hr
  refine⟨t,p,?_⟩
  unfold v7 at h
  by_cases e:ds.length=ps.length
  ·rw [if_pos e]at h
   refine wt (jm N.length ds) (zf N vs) H _ (vz il tb (λi hi=>by rw[e];exact hO i hi)) ?_
   have same:∀{Z:Env}{σ:St}{H':Hp},Rep K (cfn O [] B H (λ_=>False) (λx H'=>∀C,cl x.cls=some C->E (.ref C) none H') λ_=>none) Z σ H'->zK H H':=λr b o hb=>r.kp b o hb λz=>z
   cases eb:body (jm N.length ds) with
   |bad=>rw[eb]at h;exact h.elim
   | exc z Z=>
    rw[eb]at h
    obtain⟨C,hC,h⟩:=h
    exact λσ' H' r' _ C' hC'=>by
     rw[hC]at hC';cases hC'
     exact h H' (same r')
   |ok fl=>
    rw[eb]at h
    cases fl with
    |nx Z=>exact λσ' H' r' _=>h .non H' (same r') rfl
    |rt d Z=>exact λv σ' H' r' i' _=>h v H' (same r') i'
    |bk Z=>exact h.elim
    |ct Z=>exact h.elim
  ·rw[if_neg e]at h;exact h.elim
structure yg (P:yaj) (w:World) (K:yah) (mg:Str->Option Value) (base:Heap) (k:Nat) (x:Str) (ps:List Str) (sp:Sp):Prop where
 ex:∃f fd,uq P w K mg base (CX1 P w) k f fd ps sp/\mg x=some (.ref f)/\yaq K (.ref f)=true/\yt K fd ps []
end
section
variable{M:Model}{A:yam}{E:Value->yab->Prop}
variable{nm q nm' q':Str}{C S N N':Addr}{bs bm bs' bm':List Value}{hdct hdct':Bool}{sn sn':List Str}{sub sub':List Value}{ab ab':Bool}{col col':Option Bool}{dd dd':Option Addr}{k0 k1 k2 k3 k5 j0 j1 j2 j3 j5:Option Value}{newId newId':String}
theorem yK {h:Heap} {g:Array yd1} {d:Drawn} {t:Nat} {os:OsState} {e:Addr} {oe:Obj} {Q:Bool->yab->Prop}
  (hC:h.get? C=some (yfY nm q C N bs bm hdct sn sub ab col dd k0 k1 k2 k3 k5 newId)) (hS:h.get? S=some (yfY nm' q' S N' bs' bm' hdct' sn' sub' ab' col' dd' j0 j1 j2 j3 j5 newId'))
  (he:h.get? e=some oe) (hcls:oe.cls=.ref C) (hbase:bm'.contains (.type "BaseException")=true)
  (hq:Q ((yae C::bm).contains (.ref S)) ⟨h,g,d,t,os⟩):wpAny M A (excMatches (.ref e) (.ref S)) Q E ⟨h,g,d,t,os⟩:=by
 have hcB:(yae S::bm').contains (.type "BaseException")=true:=by rw[List.contains_cons,hbase,yfn]
 have f:=tc_notTuple
 unfold excMatches
 repeat (first|(with_reducible refine yfK he ?_;rw[hcls])|with_reducible refine yfK hS ?_|(with_reducible refine ye1 hS ?_;rw[hcB])|with_reducible refine ye1 hC ?_|wp_step)
 all_goals (first|exact hq|(cases hb:(yae C::bm).contains (.ref S)<;>(rw[hb]at hq;wp_walk;exact hq)))
end
end L2.Sk
namespace L2
open PySem PySem.Spec PyProof.Rows
def AloneA(A:yam)(H:Hp):Prop:=∃e oe u vs,A.handled=some (.ref e)/\H e=some (.frz oe u)/\oe.data=.fields vs/\vs[2]? = some .none
def qku(A:yam)(sp:Sp)(dvs:List V)(E:XK)(t:TA):TE:=λσ H Q=>t σ H λvs H1=>AloneA A H1/\sp (vs++dvs) H1 Q E
structure j6 (k:Nat) (A:yam):Prop where
 dp:A.depth+3*k+5<ydh
 un:A.units+16*k+200<cLine
 gd:A.guards=some []
theorem j6.mono{j k:Nat}{A:yam}(r:j6 k A)(h:j<=k):j6 j A:=⟨by have:=r.dp;omega,by have:=r.un;omega,r.gd⟩
theorem j6.deeper {k:Nat} {A:yam} (r:j6 (k+1) A) (env:Env):j6 k (A.deeper env) :=
 ⟨by have:=r.dp;show A.depth+1+3*k+5<_;omega,by have:=r.un;show A.units+3+16*k+200<_;omega,r.gd⟩
theorem j6.depth{k:Nat}{A:yam}(r:j6 k A):A.depth<ydh:=by have:=r.dp;omega
structure qae (P:yaj) (w:World) (K:yah) (mg:Str->Option Value) (base:Heap) (CX:CXT) (k:Nat) (f:Addr) (fd:yaL) (ps:List Str) (sp:Sp):Prop where
 len:∀vs H Q E,sp vs H Q E->vs.length=ps.length
 run:∀(A:yam)(outer:List Env)(s:yab)(H:Hp)(args:Args)(us:List Value)(vs:List V)(Q:VK)(E:XK),j6 k A->AloneA A H->qi4 P w K mg base A outer s H->ydY s fd args (ps.zip us)->qO vs us->sp vs H Q E ->
  ybz (model P w) A (.call (.ref f) args) (CR CX outer P w H s Q E) s
def qdl (CX:CXT) (P:yaj) (w:World) (K:yah) (mg:Str->Option Value) (base:Heap) (N:List Str) (qual:Str) (scope:Scope) (f:Addr) (cd:Value) (A:yam) (outer:List Env) (s:yab) (H:Hp) (E:XK):Cx where
 prog:=P
 w:=w
 K:=K
 mg:=mg
 base:=base
 A:=A.deeper (ybd qual scope s.heap.objs.size f cd)
 N:=N
 s₀:=s
 H₀:=H
 env:=ybd qual scope s.heap.objs.size f cd
 outer:=outer
 stack:=ybd qual scope s.heap.objs.size f cd::outer
 ex:=[]
 calm:=false
 fn:=λ_=>true
 pn:=[]
 xe:=λe s'=>wpAny (model P w) (A.deeper (ybd qual scope s.heap.objs.size f cd)) (ydi (ybd qual scope s.heap.objs.size f cd) e) (λ_ s''=>CX outer H s E e s'') (λe' s''=>CX outer H s E e' s'') s'
theorem qdm {CX:CXT} {P:yaj} {w:World} {K:yah} {mg:Str->Option Value} {base:Heap} {N ps:List Str} {qual:Str} {scope:Scope} {f:Addr} {cd:Value} {A:yam} {outer:List Env} {s s1:yab} {H:Hp} {E:XK} {us:List Value} {vs:List V}
  (S:qu N ps scope) (e0:qi4 P w K mg base A outer s H) (hl:vs.length=ps.length) (r:qO vs us)
  (x:InCallC s s.heap.objs.size (bindL (ybd qual scope s.heap.objs.size f cd).kindOf (ps.zip us) λ_=>none) (ydt (s.heap.objs.size+1) scope.names []) (bindC (ybd qual scope s.heap.objs.size f cd).kindOf (ps.zip us) λ_=>none) s1) :
  Inv (qdl CX P w K mg base N qual scope f cd A outer s H E) [] (zf N vs) H s1:=by
 have hpl:ps.length<=N.length:=by have:=congrArg List.length S.pre;rw[ycS]at this;omega
 obtain⟨h1,tk,rfl,hk⟩:=x.done
 have noA:∀b:Addr,b ∉ (qdl CX P w K mg base N qual scope f cd A outer s H E).ex:=λb z=>absurd (show b∈([]:List Addr)from z) (by simp)
 refine ⟨⟨e0.mod,S.kind,rfl,rfl,yag _,λy z c h1 h2=>?_,λy hy=>?_,λy c _ h=>?_,(λz=>Bool.noConfusion z),yeO e0.frames,.inr ⟨rfl,rfl⟩,λb z=>absurd z (noA b),e0.bs,e0.bsz,λb _ _=>noA b,λb z=>absurd z (noA b),e0.funs,e0.frf⟩,
  rfl,e0.bare,Un.kept hk,⟨_,x.toInCall.ns,λi y v h1 h2 h3=>?_⟩,λy c h=>⟨_,x.cell y c h⟩,e0.hok.fresh (yag _),λy c h=>?_,λp hp=>absurd (show p∈([]:List (Addr×Obj))from hp) (by simp),e0.hok.kept hk,?_⟩
 ·exact name_of_addr x.apart (yaQ h1) (yaQ h2)
 ·have hy:scope.names.lookup y=some .cell\/scope.names.lookup y=some .free:=hy
  rcases hy with hy|hy
  ·exact u3 hy
  ·exact absurd rfl (S.nofree _ (yaQ hy))
 ·exact ybH (x.above y c (yaQ h))
 ·have hi:i<vs.length:=by
   unfold zf at h2
   by_cases hi:i<vs.length
   ·exact hi
   ·rw[List.getElem?_append_right (by simpa using hi)]at h2
    rw[List.getElem?_replicate]at h2
    split at h2<;>cases h2
  have ha:vs[i]? = some v:=by
   unfold zf at h2
   rw[List.getElem?_append_left (by simpa using hi),gM_]at h2
   cases e:vs[i]? with
   |none=>rw[e]at h2;cases h2
   |some a=>rw[e]at h2;cases h2;rfl
  obtain⟨u,hu,rv⟩:=r.get ha
  have hp:ps[i]? = some y:=by
   rw[<-S.pre,List.getElem?_take_of_lt (by omega)];exact h1
  have ndP:ps.Nodup:=by rw[<-S.pre];exact S.nd.sublist (yfH _ _)
  refine⟨u,rv,?_⟩
  rcases S.par y (ycg hp)with k|k
  ·exact .inl ⟨k,vf ndP hp hu k⟩
  ·obtain⟨c,e⟩:=u3 (n:=s.heap.objs.size+1) k
   refine .inr ⟨.inl k,c,e,?_⟩
   have q:=x.cell y c e
   rw[vg ndP hp hu (by show scope.names.lookup y≠_;rw[k];decide)]at q
   exact q
 ·exact e0.hok.fresh (ybH (x.above y c (yaQ h)))
 ·unfold zf
  show _=N.length
  rw[lA_,lM_,ya7]
  omega
theorem qkv {CX:CXT} {P:yaj} {w:World} {K:yah} {mg:Str->Option Value} {base:Heap} {k:Nat} {f:Addr} {name qual:Str} {params:yeh} {body:List Stmt} {scope:Scope} {dV kV doc pm cdv ct oc:Value} {an od:Option Addr}
  {osl:Array (Option Value)} {N ps:List Str} {sp:Sp} (lk:K.lookup f=some ⟨oc,od,.func (yaw name qual params body scope dV kV doc pm an cdv ct),osl⟩) (hcd:yax K cdv qual=true) (S:qu N ps scope)
  (len:∀vs H Q E,sp vs H Q E->vs.length=ps.length)
  (hbody:∀(A:yam)(outer:List Env)(s:yab)(H:Hp)(vs:List V)(Q:VK)(E:XK),j6 k (A.deeper (ybd qual scope s.heap.objs.size f cdv))->AloneA (A.deeper (ybd qual scope s.heap.objs.size f cdv)) H->sp vs H Q E ->
   ∃t,PSs (qdl CX P w K mg base N qual scope f cdv A outer s H E) body t/\t {nx:=λ_ H'=>Q .non H',rt:=Q} (zf N vs) H) :
  qae P w K mg base CX (k+1) f (yaw name qual params body scope dV kV doc pm an cdv ct) ps sp:=by
 refine⟨len,λA outer s H args us vs Q E hr al e0 hb r hsp=>?_⟩
 have hl:=len _ _ _ _ hsp
 have KX:K.In s.heap:=e0.mod.kin.keeps λb o e=>(e0.bs b o e).1
 have lim:s.heap.NoLimit:=e0.mod.nolimit.keeps λb o e=>(e0.bs b o e).1
 have hkind:∀y∈ps.zip us,scope.names.lookup y.1=some .local\/(scope.names.lookup y.1=some .cell/\((ydt (s.heap.objs.size+1) scope.names []).lookup y.1).isSome=true):=λ⟨n,v⟩ hy=>by
  rcases S.par n (yc4 hy).1 with q|q
  ·exact .inl q
  ·exact .inr ⟨q,ycI _ _ _ (.inl q)⟩
 refine yeC hr.depth (KX _ _ lk) rfl S.co S.gen rfl (yfd KX hcd) (hb _ _ _ _ ?_)
 refine ydB S.kind hkind λenv he s1 x=>?_
 subst he
 refine⟨lim.keeps x.toInCall.keep,codeAny_func ?_⟩
 obtain⟨t,ht,hq⟩:=hbody A outer s H vs Q E (hr.deeper _) al hsp
 have I:Inv (qdl CX P w K mg base N qual scope f cdv A outer s H E) [] (zf N vs) H s1:=qdm S e0 hl r x
 refine ya3 (ht [] s1 (zf N vs) H _ I hq) (λfl s' hs=>?_) λe s' hs=>hs
 have fin:∀{σ':St}{H':Hp}{v:V}{u:Value},Inv (qdl CX P w K mg base N qual scope f cdv A outer s H E) [] σ' H' s'->zJ v u->Q v H'->CE outer P w H s Q u s' :=
  λ{σ' H' v u} J rv q=>⟨v,H',J.os,J.bare,J.base,J.hok,rv,q⟩
 cases fl with
 |ret u=>
  obtain⟨v,σ',H',J,rv,q⟩:=hs
  exact fin J rv q
 |next=>
  obtain⟨σ',H',J,q⟩:=hs
  exact fin (v:=V.non) (u:=yap) J rfl q
 |brk=>
  obtain⟨_,_,_,q⟩:=hs
  exact yaW q
 |cont=>
  obtain⟨_,_,_,q⟩:=hs
  exact yaW q
section
variable{X:Cx}{CX:CXT}{k:Nat}{f C:Addr}{fd:yaL}{ps:List Str}{sp:Sp}{dvs:List V}{ds:List Value}{E:XK}{x m:Str}{p pos apos:Pos}{e o:Expr}{es:List Expr}{ta:TE}{t:TA}
theorem qil {pins:List (Addr×Obj)} {σ:St} {H:Hp} {s:yab} {Q:VK} {us:List Value} {vs:List V} (F:qae X.prog X.w X.K X.mg X.base CX k f fd ps sp) (hr:j6 k X.A) (hb:yt X.K fd ps ds) (hd:qO dvs ds) (hx:vd CX X E)
  (I:Inv X pins σ H s) (r:qO vs us) (al:AloneA X.A H) (h:sp (vs++dvs) H Q E):wpAny (model X.prog X.w) X.A (call (.ref f) us) (EP X pins σ Q) X.xe s:=by
 have r2:qO (vs++dvs) (us++ds):=r.append hd
 have hl:(us++ds).length=ps.length:=by rw[<-r2.length];exact F.len _ _ _ _ h
 refine yf6 (yct (F.run X.A X.stack s H ⟨us,[]⟩ (us++ds) (vs++dvs) Q E hr al I.env0 (hb s us I.kIn hl) r2 h) λr s' hq=>?_)
 cases r with
 |error e=>exact hx pins σ H s e s' I hq
 |ok fl=>
  cases fl with
  |ret u=>exact I.after hq
  |next=>exact yaW hq
  |brk=>exact yaW hq
  |cont=>exact yaW hq
theorem qcz (F:qae X.prog X.w X.K X.mg X.base CX k f fd ps sp) (hr:j6 k X.A) (hg:Gl X x) (hm:X.mg x=some (.ref f)) (hk:yaq X.K (.ref f)=true) (hb:yt X.K fd ps ds) (hd:qO dvs ds) (hx:vd CX X E)
  (ha:PA X (e::es) t) (hdb:(x==("__debug__":Str))=false:=by decide) (he:yad (e::es) X.env=(false,eval e X.env)::yad es X.env:=by rfl) (hpl:(yaI pos (yad es X.env)).any (·.1)=false:=by rfl) :
  PE X (.Call (.Name x p) (e::es) [] pos) (qku X.A sp dvs E t):=by
 intro pins s σ H Q I h
 refine yb2 (vc I hg hm ?_ hdb)
 refine yfc (h₀:=X.base) I.ok.mod.kin hk (thn (ha pos pins s σ H _ I h) λus s1 ⟨vs,H1,I1,r,q⟩=>⟨I1.kIn,?_⟩) he hpl
 exact qil F hr hb hd hx I1 r q.1 q.2
end
end L2
namespace L2.Sk
open PySem PySem.Spec PyProof.Rows
def isT (b:Bool):Value->Bool
 |.bool a=>a==b
 |_=>false
section
variable{X:Cx}
end
def qmH (x:D) (ys:List D):Option D:=match x,ys with
 |.lst ds,[.bl b]=>(y9 ds).map λbs => .int (bs.countP (·==b))
 |_,_=>none
def qkw (F:D->List D->Option D) (f:M D) (g:M (List D)):M D:=bnd f λx=>match x with
 |.lst ds=>bnd g λys=>lift (F (.lst ds) ys)
 |_=>λ_ => .bad
section
variable{X:Cx}{c:Fc}{o e:Expr}{es:List Expr}{apos cpos:Pos}
end
def isI (b:Int):Value->Bool
 |.int a _=>a==b
 |_=>false
section
variable{X:Cx}
end
def qmI (x:D) (ys:List D):Option D:=match x,ys with
 |.lst ds,[.int b]=>(jZ ds).map λns => .int (ns.countP (·==b))
 |_,_=>none
@[reducible] def toX (X:Cx) (xe:Value->yab->Prop) (pn:List (Addr×Obj)):Cx:={X with xe:=xe,pn:=pn}
@[reducible] def hdX (X:Cx) (e:Addr):Cx:={X with A:=X.A.mark (some (.ref e)),calm:=false,xe:=λ_ _=>False}
section
variable{X:Cx}{pins:List (Addr×Obj)}{σ:St}{H:Hp}{s:yab}{xe:Value->yab->Prop}
theorem qhc (I:Inv X pins σ H s):Inv (toX X xe (X.pn++pins)) [] σ H s :=
 let k:=I.ok
 ⟨⟨k.mod,k.kind,k.glob,k.blt,k.above,k.inj,k.has,k.cab,k.hd,k.frames,k.stk,k.exf,k.bs,k.bsz,k.noex,k.exfs,k.funs,k.frf⟩,I.os,I.bare,I.base,I.loc,I.cell,I.free,I.freeC,
  λp hp=>I.pin p (by rw[yaK]at hp;exact hp),I.hok,I.len⟩
theorem z8 {pins2:List (Addr×Obj)} (I:Inv (toX X xe (X.pn++pins)) pins2 σ H s):Inv X pins σ H s :=
 let k:=I.ok
 ⟨⟨k.mod,k.kind,k.glob,k.blt,k.above,k.inj,k.has,k.cab,k.hd,k.frames,k.stk,k.exf,k.bs,k.bsz,k.noex,k.exfs,k.funs,k.frf⟩,I.os,I.bare,I.base,I.loc,I.cell,I.free,I.freeC,
  λp hp=>I.pin p (yc3 _ hp),I.hok,I.len⟩
theorem qcA (e:Addr) (I:Inv X pins σ H s):Inv (hdX X e) pins σ H s :=
 let k:=I.ok
 ⟨⟨k.mod,k.kind,k.glob,k.blt,k.above,k.inj,k.has,k.cab,λz=>(nomatch z),k.frames,k.stk,k.exf,k.bs,k.bsz,k.noex,k.exfs,k.funs,k.frf⟩,I.os,I.bare,I.base,I.loc,I.cell,I.free,I.freeC,I.pin,I.hok,I.len⟩
theorem qcB {e:Addr} {σ':St} {H':Hp} {s':yab} (k:X.Ok) (I:Inv (hdX X e) pins σ' H' s'):Inv X pins σ' H' s' :=
 ⟨k,I.os,I.bare,I.base,I.loc,I.cell,I.free,I.freeC,I.pin,I.hok,I.len⟩
theorem qdn {h':Heap} {m':Str->Option Value} {tk:Nat} (I:Inv X pins σ H s) (hn:h'.Ns X.env.locals m') (hs:ya6 X.env.locals s.heap h') :
  Inv X pins (yak X.N.length none) H {s with heap:=h',toks:=tk}:=by
 obtain⟨m,hn0,_⟩:=id I.loc
 obtain⟨oL,_,_,hoL,_⟩:=id hn0
 have ne:∀b o,X.s₀.heap.get? b=some o->b≠X.env.locals:=λb o q=>yar (yau (yaf q) I.ok.above)
 refine⟨I.ok,I.os,I.bare,⟨λb o e n hb hx=>(hs.2 b (ne b o e)).trans (I.base.keep b o e n hb hx),λb o e n hb hx=>?_,I.base.free,λb o e hx=>?_,I.base.tups,I.base.frzs,I.base.tbls⟩,⟨m',hn,λj y v e1 e2 e3=>?_⟩,λy c e=>?_,I.free,I.freeC,λp hp=>?_,λb ob e=>?_,by simp⟩
 ·obtain⟨sl,q⟩:=I.base.slot b o e n hb hx
  exact⟨sl,(hs.2 b (ne b o e)).trans q⟩
 ·obtain⟨o',q⟩:=I.base.there b o e hx
  exact⟨o',(hs.2 b (ne b o e)).trans q⟩
 ·rw[List.getElem?_replicate]at e2
  split at e2<;>cases e2
 ·obtain⟨w',z⟩:=I.cell y c e
  exact⟨w',z.sameBut hs (I.cne y c e)⟩
 ·obtain⟨e,n,nl,nf,d⟩:=I.pin p hp
  exact⟨(hs.2 p.1 nl).trans e,n,nl,nf,d⟩
 ·refine(I.hok b ob e).stay (λc w' hc q=>(hs.2 c ?_).trans q) (λ_ q=>q) λ_ _ q=>q
  rintro rfl
  rcases hc with rfl|hc
  ·rw[I.free]at e;cases e
  ·rw[I.free]at hc;cases hc
theorem qaf {H':Hp} {h':Heap} (I:Inv X pins σ H s) (u:Un (frs X.stack) [] H H' s.heap h'):h'.FunFrames X.base X.stack:=by
 have all:∀(l:List yaN),(∀b∈frs l,b∈frs X.stack)->s.heap.FunFrames X.base l->h'.FunFrames X.base l:=by
  intro l
  induction l with
  |nil=>intro _ _;trivial
  |cons env r ih=>
   intro hss hl
   obtain⟨hk,⟨L,o,hf',hn,ho,hd⟩,hr⟩:=hl
   have hfr:frs (env::r)=L::frs r:=by unfold frs;rw[ybD,hf']
   rw[hfr]at hss
   have hL:=hss L mS_
   obtain⟨sl,e⟩:=u.slot L o ho (I.stkFree L hL) hL (by simp)
   exact⟨hk,⟨L,_,hf',hn,e,hd⟩,ih (λb hb=>hss b (mM _ hb)) hr⟩
 exact all X.stack (λ_ z=>z) I.stack
theorem qcC {H':Hp} {h1 h':Heap} {ch:List Addr} (u:Un (frs X.stack) [] H H' s.heap h1) (hchn:∀b∈ch,s.heap.get? b=none) (x:Lft h1 h' ch (frs X.stack)):Un (frs X.stack) [] H H' s.heap h':=by
 have nch:∀b o,s.heap.get? b=some o->b ∉ ch:=λb o q z=>by rw[hchn b z]at q;cases q
 refine⟨λb o q n hb hx=>x.keep b o (nch b o q) hb (u.keep b o q n hb hx),λb o q n hb hx=>?_,u.free,λb o q hx=>?_,u.tups,u.frzs,u.tbls⟩
 ·obtain⟨sl,q1⟩:=u.slot b o q n hb hx
  obtain⟨sl2,q2⟩:=x.slot b _ hb q1
  exact⟨sl2,q2⟩
 ·obtain ⟨o2,q2⟩:=u.there b o q hx
  by_cases hb:b∈frs X.stack
  ·obtain⟨sl,q3⟩:=x.slot b o2 hb q2
   exact⟨_,q3⟩
  ·exact⟨o2,x.keep b o2 (nch b o q) hb q2⟩
theorem qag {H':Hp} {h1 h':Heap} {ch:List Addr} (I:Inv X pins σ H s) (u:Un (frs X.stack) [] H H' s.heap h1) (hok:HOk X.prog X.w H' h1) (hch:∀b∈ch,H' b=none) (x:Lft h1 h' ch (frs X.stack)):HOk X.prog X.w H' h' :=
 qha hok λb o hb1 q=>x.keep b o (λz=>by rw[hch b z]at hb1;cases hb1) (λz=>by
  obtain⟨_,o1,ho1,_⟩:=I.stack.mem z
  rw[u.free b o1 ho1 (I.stkFree b z) (by simp)]at hb1
  cases hb1) q
theorem qbW {H':Hp} {h':Heap} {e:Addr} {o:HO} (u:Un (frs X.stack) [] H H' s.heap h') (he:s.heap.get? e=none) (hHe:H' e=none):Un (frs X.stack) [] H (upd H' e o) s.heap h':=by
 have ne:∀b ob,s.heap.get? b=some ob->b≠e:=λb ob q z=>by rw[z,he]at q;cases q
 have ne':∀b u,H' b=some u->b≠e:=λb u q z=>by rw[z,hHe]at q;cases q
 refine⟨u.keep,u.slot,λb ob q n hx=>by rw[qh (ne b ob q)];exact u.free b ob q n hx,u.there,λb xs q=>?_,λb ob w q=>?_,λb ps y q=>?_⟩
 ·have:=u.tups b xs q
  rw[qh (ne' b _ this)];exact this
 ·have:=u.frzs b ob w q
  rw[qh (ne' b _ this)];exact this
 ·have:=u.tbls b ps y q
  rw[qh (ne' b _ this)];exact this
theorem qcD {P:yaj} {w:World} {H':Hp} {h':Heap} {e:Addr} {oe:Obj} (hok:HOk P w H' h') (hHe:H' e=none) (he:h'.get? e=some oe):HOk P w (upd H' e (.frz oe (.own e))) h':=λb ob q=>by
 by_cases hb:b=e
 ·subst hb
  rw[qk]at q
  cases q
  exact⟨he,oe,he⟩
 ·rw[qh hb]at q
  have ne':∀c u,H' c=some u->c≠e:=λc u q z=>by rw[z,hHe]at q;cases q
  exact(hok b ob q).stay (λ_ _ _ q=>q) (λc q=>by rw[qh (ne' c _ q)];exact q) (λc xs q=>by rw[qh (ne' c _ q)];exact q) λc ob y q=>by rw[qh (ne' c _ q)];exact q
end
def qhd (RN:List Str) (f:MS) (F:List D->R D):MS:=λZ=>match f Z with
 | .exc x Z'=>if RN.contains x.cls then match F [.exc x.cls] with
   |.ok d => .ok (.rt d Z')
   |_ => .bad
  else .bad
 |r=>r
def reE(c:Fc)(E:Exn->Hp->Prop):Fc:={c with E:=E}
theorem Rep.reE{K:Fr0}{c:Fc}{E:Exn->Hp->Prop}{Z:Env}{σ:St}{H:Hp}(r:Rep K c Z σ H):Rep K (Sk.reE c E) Z σ H:=⟨r.len,r.val,r.own,r.inj,r.b0,r.kp,r.dm,r.pO,r.ps⟩
theorem Rep.unE{K:Fr0}{c:Fc}{E:Exn->Hp->Prop}{Z:Env}{σ:St}{H:Hp}(r:Rep K (Sk.reE c E) Z σ H):Rep K c Z σ H:=⟨r.len,r.val,r.own,r.inj,r.b0,r.kp,r.dm,r.pO,r.ps⟩
structure qlV (K:Fr0) (base:Heap) (RN:List Str) (S:Addr):Prop where
 sup:∃bm,XC base S bm
 own:∀n C,clR K RN n=some C->∃bm,XC base C bm/\(yae C::bm).contains (.ref S)=true
 ki:∀n C,clR K RN n=some C->XK6 K C
def ch(H6:Hp):Fc:=⟨[],[],λa=>H6 a=none,H6,λ_=>False,λ_ _=>False,λ_=>none⟩
theorem qkx {K:Fr0} {n i:Nat} {H6:Hp} {σ:St} {d:D} {v:V} (hl:σ.length=n) (hi:∀{A:Addr->Prop},Is K A H6 d v) (tb:wW K H6):Rep K (ch H6) ((yak n none).set i (some d)) (σ.set i (some v)) H6:=by
 refine⟨by simp[hl],λj d' h=>?_,λj hj=>(nomatch hj),λj _ _ hj=>(nomatch hj),⟨λ_ h=>h,tb⟩,λ_ _ h _=>h,λ_ h=>h,λ_ h=>h,λj hj=>(nomatch hj)⟩
 rw[List.getElem?_set]at h
 split at h
 ·rename_i e
  subst e
  rw[ya7]at h
  split at h
  ·rename_i hlt
   cases h
   exact⟨v,List.getElem?_set_self (by rw[hl];exact hlt),.inr ⟨by simp[ch],hi⟩⟩
  ·cases h
 ·rw[List.getElem?_replicate]at h
  split at h<;>cases h
def v8 (RN:List Str) (n i:Nat) (f:MS) (g:M D):MS:=λZ=>match f Z with
 | .exc x Z'=>if RN.contains x.cls then match g ((yak n none).set i (some (.exc x.cls))) with
   |.ok (d,_) => .ok (.rt d Z')
   |_ => .bad
  else .bad
 |r=>r
theorem qbX {X:Cx} {pins:List (Addr×Obj)} {σ:St} {H:Hp} {s:yab} {n:Str} {c:Addr} {h':Heap} {tk:Nat} (I:Inv X pins σ H s) (hc:X.env.cells.lookup n=some c) (hfn:X.fn n=true) (hs:ya6 c s.heap h') (hv:h'.IsCell c none) :
  Inv X pins (yak X.N.length none) H {s with heap:=h',toks:=tk}:=by
 obtain⟨m,hn0,_⟩:=id I.loc
 obtain⟨v0,oc,hoc,hocd⟩:=I.cell n c hc
 have big:=I.ok.cab n c hfn hc
 have ne:∀b o,X.s₀.heap.get? b=some o->b≠c:=λb o q=>yar (yau (yaf q) big)
 refine⟨I.ok,I.os,I.bare,⟨λb o e q hb hx=>(hs.2 b (ne b o e)).trans (I.base.keep b o e q hb hx),λb o e q hb hx=>?_,I.base.free,λb o e hx=>?_,I.base.tups,I.base.frzs,I.base.tbls⟩,⟨m,hn0.sameBut hs (yaZ (I.cne n c hc)),λj y v e1 e2 e3=>?_⟩,λy c' e=>?_,I.free,I.freeC,λp hp=>?_,λb ob e=>?_,by simp⟩
 ·obtain⟨sl,z⟩:=I.base.slot b o e q hb hx
  exact⟨sl,(hs.2 b (ne b o e)).trans z⟩
 ·obtain⟨o',z⟩:=I.base.there b o e hx
  exact⟨o',(hs.2 b (ne b o e)).trans z⟩
 ·rw[List.getElem?_replicate]at e2
  split at e2<;>cases e2
 ·by_cases q:c'=c
  ·subst q;exact⟨_,hv⟩
  ·obtain⟨w',z⟩:=I.cell y c' e
   exact⟨w',z.sameBut hs q⟩
 ·obtain⟨e,q,nl,nf,d⟩:=I.pin p hp
  refine⟨(hs.2 p.1 λz=>?_).trans e,q,nl,nf,d⟩
  rw[z,hoc]at e
  exact d v0 (by rw[<-yaJ e];exact hocd)
 ·refine(I.hok b ob e).stay (λb2 w' hb2 q=>(hs.2 b2 ?_).trans q) (λ_ q=>q) λ_ _ q=>q
  rintro rfl
  have z:=I.freeC n b2 hc
  rcases hb2 with rfl|hb2
  ·rw[z]at e;cases e
  ·rw[z]at hb2;cases hb2
theorem qev {X:Cx} {pins:List (Addr×Obj)} {σ:St} {H:Hp} {s:yab} {n:Str} {i:Nat} {pos:Pos} {M:Model} {A:yam} {E:Value->yab->Prop} {Q:Unit->yab->Prop} (I:Inv X pins σ H s) (hN:X.N.Nodup) (hi:X.N[i]? = some n) (hx:X.env.scope.names.lookup n=some .cell) (hkn:X.env.kindOf n=some .cell) (hfn:X.fn n=true)
  (k:∀s',Inv X pins (yak X.N.length none) H s'->Q () s'):wpAny M A (do yeN X.env n .none;yeT X.env n pos) Q E s:=by
 refine yaa (yez (yb (v:=.non) (u:=.none) I hN hi (.inr hx) rfl (λs5 I5=>?_) (.inl hfn)))
 obtain⟨c,hc⟩:=I5.ok.has n (.inl hkn)
 obtain⟨m,hn,hl⟩:=id I5.loc
 have hil:i<σ.length:=by rw[I.len];exact(gI_.mp hi).1
 obtain⟨u,ru,lk⟩:=hl i n .non hi (List.getElem?_set_self hil) (.inr (.inl hx))
 have hcv:s5.heap.IsCell c (some u):=by
  rcases lk with⟨z,_⟩|⟨_,c',e,z⟩
  ·rw[hkn]at z;cases z
  ·rw[hc]at e;cases e;exact z
 unfold yeT
 refine ycQ ?_
 unfold unbindName
 refine yaa (wpAny_point (yaa ?_))
 unfold deleteName
 simp only[hkn]
 refine yaa (wpAny_cellOf hc (yaa (wpAny_cellGet hcv ?_)))
 simp only[Option.isSome_some,if_true]
 exact wpAny_cellSet hcv λh' hv hs=>wpAny_point (k _ (qbX (tk:=s5.toks) I5 hc hfn hs hv))
section
variable{X:Cx}{c:Fc}{pos np hpos p1 p2 p3 p4:Pos}{body:List Stmt}
theorem qmJ {x n m:Str} {i:Nat} {S fm:Addr} {fd:yaL} {ps:List Str} {k:Nat} {F:List D->R D} {f:MS} {RN:List Str} (hN:X.N.Nodup) (hcx:X.stack=X.env::X.outer) (hf:X.env.frame=some X.env.locals)
  (hcl:qlV X.K X.base RN S) (hgS:Gl X x) (hmS:X.mg x=some (.ref S))
  (G:qae X.prog X.w X.K X.mg X.base CX0 k fm fd ps (spD X.K F)) (hr:yc k X.A) (hgm:Gl X m) (hmm:X.mg m=some (.ref fm)) (hkm:yaq X.K (.ref fm)=true) (hbm:yt X.K fd ps [])
  (hb:∀(xe:Value->yab->Prop)(pn:List (Addr×Obj))(E:XK)(cE:Exn->Hp->Prop),XL2 (toX X xe pn) (reE c cE) (clR X.K RN) E->DSs (toX X xe pn) (reE c cE) body f)
  (hi:X.N[i]? = some n:=by rfl) (hx:X.env.scope.names.lookup n=some .local:=by rfl) (hkn:X.env.kindOf n=some .local:=by rfl)
  (hdx:(x==("__debug__":Str))=false:=by decide) (hdm:(m==("__debug__":Str))=false:=by decide) (hdn:(n==("__debug__":Str))=false:=by decide) (hcn:(n==("__classdict__":Str))=false:=by decide)
  (hst:yad [.Name n p2] X.env=(false,eval (.Name n p2) X.env)::yad [] X.env:=by rfl) (hpl:(yaI p3 (yad [] X.env)).any (·.1)=false:=by rfl) :
  DS X c (.Try body [.ExceptHandler (some (.Name x np)) (some n) [.Return (some (.Call (.Name m p1) [.Name n p2] [] p3)) p4] hpos] [] [] pos) (qhd RN f F):=by
 refine⟨λD σ H=>∃Z,Rep X.K c Z σ H/\WpS X.K c σ H D (qhd RN f F Z),?_,λZ σ H D r h=>⟨Z,r,h⟩⟩
 rintro pins s σ H D I ⟨Z,r,w⟩
 refine wpAny_Try_except ?_
 have hk:=I.ok
 let xe:Value->yab->Prop:=λe sQ=>wpAny (model X.prog X.w) X.A (ydu e X.env) (λ_ sV=>wpAny (model X.prog X.w) X.A (yc0 e none) (λ_ sK=>wpAny (model X.prog X.w) X.A (handleBy e X.env [.ExceptHandler (some (.Name x np)) (some n) [.Return (some (.Call (.Name m p1) [.Name n p2] [] p3)) p4] hpos]) (SP X pins D) X.xe sK) X.xe sV) X.xe sQ
 let cE:Exn->Hp->Prop:=λz H'=>∃Z' σ',f Z=.exc z Z'/\Rep X.K c Z' σ' H'/\GrS c.O σ H σ' H'
 let E:XK:=λcv _ H'=>∃C z,cv=.ref C/\clR X.K RN z.cls=some C/\cE z H'
 have L:XL2 (toX X xe (X.pn++pins)) (reE c cE) (clR X.K RN) E:=by
  refine⟨?_,λz C H' h1 h2=>⟨C,z,rfl,h1,h2⟩⟩
  intro pins2 σ2 H2 s2 u s' I2 hx2
  obtain⟨e,T,C,H',rfl,os,bare,un,hok,he,hT,hHe,hHT,Fl,C',z,hC',hz,Z',σ',ef,r',g'⟩:=hx2
  have eC:C=C':=ydF hC'
  subst eC
  have I3:Inv X pins σ2 H2 s2:=z8 I2
  have hz2:∀b∈[e,T],H' b=none:=λb hb=>by
   simp only[yav,nN_,or_false]at hb
   rcases hb with rfl|rfl
   ·exact hHe
   ·exact hHT
  have hz3:∀b∈[e,T],s2.heap.get? b=none:=λb hb=>by
   simp only[yav,nN_,or_false]at hb
   rcases hb with rfl|rfl
   ·exact he
   ·exact hT
  have hl:s'.heap.FunFrames X.base X.stack:=qaf I3 un
  have hA:X.A.frames=some (X.env::X.outer):=by rw[<-hcx];exact hk.frames
  show wpAny _ _ _ _ _ _
  rw[hcx]at hl
  refine vH hA hl hf Fl λh3 T3 y1 y2 y3=>?_
  rw[<-hcx]at y1
  have un3:Un (frs X.stack) [] H2 H' s2.heap h3:=qcC un hz3 y1
  have hok3:HOk X.prog X.w H' h3:=qag I3 un hok hz2 y1
  have I4:Inv X pins σ2 H' {s' with heap:=h3}:=I3.call' (s':={s' with heap:=h3}) (ch:=[]) os un3 hok3 bare (λb hb=>nomatch hb)
  have up:∀b,s'.heap.get? b=none->s2.heap.get? b=none:=λb hb=>by
   cases q:s2.heap.get? b with
   |none=>rfl
   |some o=>
    obtain⟨o',q'⟩:=un.there b o q (by simp)
    rw[hb]at q';cases q'
  have hT3:s2.heap.get? T3=none:=y3.elim (λz=>z▸hT) (up T3)
  have hHT3:H' T3=none:=y3.elim (λz=>z▸hHT) λz=>by
   cases q:H' T3 with
   |none=>rfl
   |some o=>
    obtain⟨o',q'⟩:=jC (hok _ _ q)
    rw[z]at q';cases q'
  refine ye2 (yeH ?_) (by intro q;cases q)
  refine vc (X:=hdX X e) (qcA e I4) hgS hmS ?_ hdx
  obtain⟨bmS,xS⟩:=hcl.sup
  obtain⟨bm,xC,hin⟩:=hcl.own _ _ hz
  obtain⟨nmS,qS,NS,bsS,hdctS,snS,subS,abS,colS,ddS,j0,j1,j2,j3,j5,newIdS,_,_,_,_,hS,_⟩:=xS.ex
  obtain⟨nm,q,N,bs,hdct,sn,sub,ab,col,dd,k0,k1,k2,k3,k5,newId,_,_,_,_,hC,_⟩:=xC.ex
  obtain⟨oe,vs,oT,ts,a0,hoe,hoc,hod,_⟩:=id y2
  refine yK (M:=model X.prog X.w) (A:=X.A.mark (some (.ref e))) (h:=h3) (g:=s'.gens) (d:=s'.drawn) (t:=s'.toks) (os:=s'.os) (I4.bk _ _ hC) (I4.bk _ _ hS) hoe hoc.1 xS.hasBase ?_
  rw[hin]
  show ybz _ _ _ _ _
  refine ydV ?_
  have hl3:h3.FunFrames X.base X.stack:=qaf I3 un3
  refine wB (s:={s' with heap:=h3}) hl3 y2 λh4 T4 z1 z2 z3=>?_
  have hz4:∀b∈[e,T3],H' b=none:=λb hb=>by
   simp only[yav,nN_,or_false]at hb
   rcases hb with rfl|rfl
   ·exact hHe
   ·exact hHT3
  have hz5:∀b∈[e,T3],s2.heap.get? b=none:=λb hb=>by
   simp only[yav,nN_,or_false]at hb
   rcases hb with rfl|rfl
   ·exact he
   ·exact hT3
  have un4:Un (frs X.stack) [] H2 H' s2.heap h4:=qcC un3 hz5 z1
  have hok4:HOk X.prog X.w H' h4:=qag I3 un3 hok3 hz4 z1
  obtain⟨oe4,vs4,oT4,ts4,a04,hoe4,hoc4,hod4,_⟩:=id z2
  have I5:Inv X pins σ2 (upd H' e (.frz oe4 (.own e))) {s' with heap:=h4}:=I3.call' (s':={s' with heap:=h4}) (ch:=[]) os (qbW un4 he hHe) (qcD hok4 hHe hoe4) bare (λb hb=>nomatch hb)
  refine yb (v:=.ref e) I5 hN hi (.inl hx) rfl (λs5 I6=>?_) (.inr hx)
  have sm:zK H' (upd H' e (.frz oe4 (.own e))):=qx hHe _
  have hil:IsL X.K (λ_=>False) (upd H' e (.frz oe4 (.own e))) [.exc z.cls] [.ref e]:=⟨.ref e,[],rfl,⟨e,rfl,C,(uO hz).2,hcl.ki _ _ hz,oe4,vs4,qk,hoc4.1,hod4⟩,rfl⟩
  cases em:F [.exc z.cls] with
  |bad=>simp only[qhd,ef,(uO hz).1,em,if_true]at w;exact w.elim
  |exc z' Z''=>simp only[qhd,ef,(uO hz).1,em,if_true]at w;exact w.elim
  | ok d=>
   simp only[qhd,ef,(uO hz).1,em,if_true]at w
   have hσl:i<σ2.length:=by rw[I5.len];exact(gI_.mp hi).1
   have call:=qbI (qdJ (pos:=p4) (qcz (X:=hdX X e) (E:=λ_ _ _=>False) (pos:=p3) (p:=p1) G ⟨hr.dp,hr.un,hr.gd⟩ hgm hmm hkm hbm .nil (λ_ _ _ _ _ _ _ z=>z.elim) (jc (y7 (X:=hdX X e) (pos:=p2) hi (.inl hx) hdn hcn) uN hst) hdm hst hpl))
   have run:=call pins s5 _ _ ({nx:=λ_ _=>False,rt:=D.rt}:qc7) (qcA e I6) ⟨.ref e,List.getElem?_set_self hσl,⟨e,oe4,.own e,vs4,rfl,qk,hod4,hoc4.2.1⟩,[.exc z.cls],λ_=>False,hil,r'.tb.same sm,by
    rw[em]
    exact λv H6 sm6 i6=>w v σ' H6 (r'.same (λb o q=>sm6 b o (sm b o q))) (Is.ext Ext.refl (λa ha _=>ha.elim (λz=>z.elim) λhn=>r'.b0.1 a (r'.dm a (sm.free hn))) i6) (g'.trans (Gr.of_same (λb o q=>sm6 b o (sm b o q))).s)⟩
   refine ya3 run (λfl s6 h6=>?_) (λ_ _ z=>z.elim)
   cases fl with
   |next=>obtain⟨_,_,_,z⟩:=h6;exact z.elim
   |brk=>obtain⟨_,_,_,z⟩:=h6;exact z.elim
   |cont=>obtain⟨_,_,_,z⟩:=h6;exact z.elim
   |ret u=>
    obtain⟨v,σ7,H7,I7,rv,q7⟩:=h6
    have I8:=qcB hk I7
    obtain⟨m8,hn8,_⟩:=id I8.loc
    exact wpAny_nameGoes hkn hn8 (by rw[hk.kind];rfl) λh9 m9 hn9 hs9=>⟨v,_,H7,qdn I8 hn9 hs9,rv,q7⟩
 obtain⟨t,p,wt⟩:=hb xe (X.pn++pins) E cE L
 have w':WpS X.K (reE c cE) σ H D (f Z):=by
  cases ef:f Z with
  |bad=>simp only[qhd,ef]at w;exact w
  |exc z Z'=>exact λσ' H' r' g'=>⟨Z',σ',ef,r'.unE,g'⟩
  |ok fl=>
   simp only[qhd,ef]at w
   cases fl with
   |nx Z'=>exact λσ' H' r' g'=>w σ' H' r'.unE g'
   |rt d Z'=>exact λv σ' H' r' i' g'=>w v σ' H' r'.unE i' g'
   |bk Z'=>exact λσ' H' r' g'=>w σ' H' r'.unE g'
   |ct Z'=>exact λσ' H' r' g'=>w σ' H' r'.unE g'
 have run:=p [] s σ H D (qhc I) (wt Z σ H D r.reE w')
 refine ya3 run (λfl s1 h1=>?_) (λ_ _ z=>z)
 cases fl with
 |next=>
  obtain⟨σ1,H1,I1,q1⟩:=h1
  exact ybZ ⟨σ1,H1,z8 I1,q1⟩
 |brk=>obtain⟨σ1,H1,I1,q1⟩:=h1;exact⟨σ1,H1,z8 I1,q1⟩
 |cont=>obtain⟨σ1,H1,I1,q1⟩:=h1;exact⟨σ1,H1,z8 I1,q1⟩
 |ret u=>obtain⟨v,σ1,H1,I1,rv,q1⟩:=h1;exact⟨v,σ1,H1,z8 I1,rv,q1⟩
theorem qim {x n:Str} {i:Nat} {S:Addr} {he:Expr} {f:MS} {g:M D} {RN:List Str} (hN:X.N.Nodup) (hcx:X.stack=X.env::X.outer) (hf:X.env.frame=some X.env.locals)
  (hcl:qlV X.K X.base RN S) (hgS:Gl X x) (hmS:X.mg x=some (.ref S))
  (hh:∀(e:Addr)(H6:Hp),AloneA (X.A.mark (some (.ref e))) H6->DE (hdX X e) (ch H6) he g)
  (hb:∀(xe:Value->yab->Prop)(pn:List (Addr×Obj))(E:XK)(cE:Exn->Hp->Prop),XL2 (toX X xe pn) (reE c cE) (clR X.K RN) E->DSs (toX X xe pn) (reE c cE) body f)
  (hi:X.N[i]? = some n:=by rfl) (hx:X.env.scope.names.lookup n=some .cell:=by rfl) (hkn:X.env.kindOf n=some .cell:=by rfl) (hfn:X.fn n=true:=by rfl)
  (hdx:(x==("__debug__":Str))=false:=by decide)  :
  DS X c (.Try body [.ExceptHandler (some (.Name x np)) (some n) [.Return (some he) p4] hpos] [] [] pos) (v8 RN X.N.length i f g):=by
 refine⟨λD σ H=>∃Z,Rep X.K c Z σ H/\WpS X.K c σ H D (v8 RN X.N.length i f g Z),?_,λZ σ H D r h=>⟨Z,r,h⟩⟩
 rintro pins s σ H D I ⟨Z,r,w⟩
 refine wpAny_Try_except ?_
 have hk:=I.ok
 let xe:Value->yab->Prop:=λe sQ=>wpAny (model X.prog X.w) X.A (ydu e X.env) (λ_ sV=>wpAny (model X.prog X.w) X.A (yc0 e none) (λ_ sK=>wpAny (model X.prog X.w) X.A (handleBy e X.env [.ExceptHandler (some (.Name x np)) (some n) [.Return (some he) p4] hpos]) (SP X pins D) X.xe sK) X.xe sV) X.xe sQ
 let cE:Exn->Hp->Prop:=λz H'=>∃Z' σ',f Z=.exc z Z'/\Rep X.K c Z' σ' H'/\GrS c.O σ H σ' H'
 let E:XK:=λcv _ H'=>∃C z,cv=.ref C/\clR X.K RN z.cls=some C/\cE z H'
 have L:XL2 (toX X xe (X.pn++pins)) (reE c cE) (clR X.K RN) E:=by
  refine⟨?_,λz C H' h1 h2=>⟨C,z,rfl,h1,h2⟩⟩
  intro pins2 σ2 H2 s2 u s' I2 hx2
  obtain⟨e,T,C,H',rfl,os,bare,un,hok,he,hT,hHe,hHT,Fl,C',z,hC',hz,Z',σ',ef,r',g'⟩:=hx2
  have eC:C=C':=ydF hC'
  subst eC
  have I3:Inv X pins σ2 H2 s2:=z8 I2
  have hz2:∀b∈[e,T],H' b=none:=λb hb=>by
   simp only[yav,nN_,or_false]at hb
   rcases hb with rfl|rfl
   ·exact hHe
   ·exact hHT
  have hz3:∀b∈[e,T],s2.heap.get? b=none:=λb hb=>by
   simp only[yav,nN_,or_false]at hb
   rcases hb with rfl|rfl
   ·exact he
   ·exact hT
  have hl:s'.heap.FunFrames X.base X.stack:=qaf I3 un
  have hA:X.A.frames=some (X.env::X.outer):=by rw[<-hcx];exact hk.frames
  show wpAny _ _ _ _ _ _
  rw[hcx]at hl
  refine vH hA hl hf Fl λh3 T3 y1 y2 y3=>?_
  rw[<-hcx]at y1
  have un3:Un (frs X.stack) [] H2 H' s2.heap h3:=qcC un hz3 y1
  have hok3:HOk X.prog X.w H' h3:=qag I3 un hok hz2 y1
  have I4:Inv X pins σ2 H' {s' with heap:=h3}:=I3.call' (s':={s' with heap:=h3}) (ch:=[]) os un3 hok3 bare (λb hb=>nomatch hb)
  have up:∀b,s'.heap.get? b=none->s2.heap.get? b=none:=λb hb=>by
   cases q:s2.heap.get? b with
   |none=>rfl
   |some o=>
    obtain⟨o',q'⟩:=un.there b o q (by simp)
    rw[hb]at q';cases q'
  have hT3:s2.heap.get? T3=none:=y3.elim (λz=>z▸hT) (up T3)
  have hHT3:H' T3=none:=y3.elim (λz=>z▸hHT) λz=>by
   cases q:H' T3 with
   |none=>rfl
   |some o=>
    obtain⟨o',q'⟩:=jC (hok _ _ q)
    rw[z]at q';cases q'
  refine ye2 (yeH ?_) (by intro q;cases q)
  refine vc (X:=hdX X e) (qcA e I4) hgS hmS ?_ hdx
  obtain⟨bmS,xS⟩:=hcl.sup
  obtain⟨bm,xC,hin⟩:=hcl.own _ _ hz
  obtain⟨nmS,qS,NS,bsS,hdctS,snS,subS,abS,colS,ddS,j0,j1,j2,j3,j5,newIdS,_,_,_,_,hS,_⟩:=xS.ex
  obtain⟨nm,q,N,bs,hdct,sn,sub,ab,col,dd,k0,k1,k2,k3,k5,newId,_,_,_,_,hC,_⟩:=xC.ex
  obtain⟨oe,vs,oT,ts,a0,hoe,hoc,hod,_⟩:=id y2
  refine yK (M:=model X.prog X.w) (A:=X.A.mark (some (.ref e))) (h:=h3) (g:=s'.gens) (d:=s'.drawn) (t:=s'.toks) (os:=s'.os) (I4.bk _ _ hC) (I4.bk _ _ hS) hoe hoc.1 xS.hasBase ?_
  rw[hin]
  show ybz _ _ _ _ _
  refine ydV ?_
  have hl3:h3.FunFrames X.base X.stack:=qaf I3 un3
  refine wB (s:={s' with heap:=h3}) hl3 y2 λh4 T4 z1 z2 z3=>?_
  have hz4:∀b∈[e,T3],H' b=none:=λb hb=>by
   simp only[yav,nN_,or_false]at hb
   rcases hb with rfl|rfl
   ·exact hHe
   ·exact hHT3
  have hz5:∀b∈[e,T3],s2.heap.get? b=none:=λb hb=>by
   simp only[yav,nN_,or_false]at hb
   rcases hb with rfl|rfl
   ·exact he
   ·exact hT3
  have un4:Un (frs X.stack) [] H2 H' s2.heap h4:=qcC un3 hz5 z1
  have hok4:HOk X.prog X.w H' h4:=qag I3 un3 hok3 hz4 z1
  obtain⟨oe4,vs4,oT4,ts4,a04,hoe4,hoc4,hod4,_⟩:=id z2
  have I5:Inv X pins σ2 (upd H' e (.frz oe4 (.own e))) {s' with heap:=h4}:=I3.call' (s':={s' with heap:=h4}) (ch:=[]) os (qbW un4 he hHe) (qcD hok4 hHe hoe4) bare (λb hb=>nomatch hb)
  refine yb (v:=.ref e) I5 hN hi (.inr hx) rfl (λs5 I6=>?_) (.inl hfn)
  have sm:zK H' (upd H' e (.frz oe4 (.own e))):=qx hHe _
  have al:AloneA (X.A.mark (some (.ref e))) (upd H' e (.frz oe4 (.own e))):=⟨e,oe4,.own e,vs4,rfl,qk,hod4,hoc4.2.1⟩
  have hσl:i<σ2.length:=by rw[I5.len];exact(gI_.mp hi).1
  have rh:=qkx (K:=X.K) (n:=X.N.length) (i:=i) (H6:=upd H' e (.frz oe4 (.own e))) (σ:=σ2) (d:=.exc z.cls) (v:=.ref e) I5.len ⟨e,rfl,C,(uO hz).2,hcl.ki _ _ hz,oe4,vs4,qk,hoc4.1,hod4⟩ (r'.tb.same sm)
  cases em:g ((yak X.N.length none).set i (some (.exc z.cls))) with
  |bad=>simp only[v8,ef,(uO hz).1,em,if_true]at w;exact w.elim
  |exc z' Z''=>simp only[v8,ef,(uO hz).1,em,if_true]at w;exact w.elim
  | ok dp=>
   obtain⟨d,Zd⟩:=dp
   simp only[v8,ef,(uO hz).1,em,if_true]at w
   obtain⟨te,pe,we⟩:=hh e _ al
   have call:=qbI (qdJ (pos:=p4) pe)
   have run:=call pins s5 _ _ ({nx:=λ_ _=>False,rt:=D.rt}:qc7) (qcA e I6) (we _ _ _ _ rh (by
    rw[em]
    exact λv H6 r6 i6 _=>by
     have sm6:zK (upd H' e (.frz oe4 (.own e))) H6:=λb o q=>r6.kp b o q λz=>z
     exact w v σ' H6 (r'.same (λb o q=>sm6 b o (sm b o q))) (Is.ext Ext.refl (λa ha _=>r'.b0.1 a (r'.dm a (sm.free ha.1))) i6) (g'.trans (Gr.of_same (λb o q=>sm6 b o (sm b o q))).s)))
   refine ya3 run (λfl s6 h6=>?_) (λ_ _ z=>z.elim)
   cases fl with
   |next=>obtain⟨_,_,_,z⟩:=h6;exact z.elim
   |brk=>obtain⟨_,_,_,z⟩:=h6;exact z.elim
   |cont=>obtain⟨_,_,_,z⟩:=h6;exact z.elim
   |ret u=>
    obtain⟨v,σ7,H7,I7,rv,q7⟩:=h6
    have I8:=qcB hk I7
    exact qev I8 hN hi hx hkn hfn λs9 I9=>⟨v,_,H7,I9,rv,q7⟩
 obtain⟨t,p,wt⟩:=hb xe (X.pn++pins) E cE L
 have w':WpS X.K (reE c cE) σ H D (f Z):=by
  cases ef:f Z with
  |bad=>simp only[v8,ef]at w;exact w
  |exc z Z'=>exact λσ' H' r' g'=>⟨Z',σ',ef,r'.unE,g'⟩
  |ok fl=>
   simp only[v8,ef]at w
   cases fl with
   |nx Z'=>exact λσ' H' r' g'=>w σ' H' r'.unE g'
   |rt d Z'=>exact λv σ' H' r' i' g'=>w v σ' H' r'.unE i' g'
   |bk Z'=>exact λσ' H' r' g'=>w σ' H' r'.unE g'
   |ct Z'=>exact λσ' H' r' g'=>w σ' H' r'.unE g'
 have run:=p [] s σ H D (qhc I) (wt Z σ H D r.reE w')
 refine ya3 run (λfl s1 h1=>?_) (λ_ _ z=>z)
 cases fl with
 |next=>
  obtain⟨σ1,H1,I1,q1⟩:=h1
  exact ybZ ⟨σ1,H1,z8 I1,q1⟩
 |brk=>obtain⟨σ1,H1,I1,q1⟩:=h1;exact⟨σ1,H1,z8 I1,q1⟩
 |cont=>obtain⟨σ1,H1,I1,q1⟩:=h1;exact⟨σ1,H1,z8 I1,q1⟩
 |ret u=>obtain⟨v,σ1,H1,I1,rv,q1⟩:=h1;exact⟨v,σ1,H1,z8 I1,rv,q1⟩
end
end L2.Sk
namespace L2.Sk
open PySem PySem.Spec PyProof.Rows PySem.W
def bmV:List Value:=[.type "ValueError",.type "Exception",.type "BaseException",.type "object"]
def qdo (K:Fr0) (C S:Addr):Bool:=match K.lookup C with
 |some ⟨_,_,.cls cd,_⟩=>cd.mro.contains (.ref S)
 |_=>false
theorem qcE {K:Fr0} {h:Heap} {C S:Addr} (X:K.In h) (q:excIn K C bmV "ValueError.__new__"=true) (hs:qdo K C S=true):∃bm,XC h C bm/\(yae C::bm).contains (.ref S)=true:=by
 unfold excIn at q
 split at q
 ·rename_i dd cd sl ho
  split at q
  ·rename_i C' bm k0 k1 k2 k3 n k5 hm hl
   simp only[yan,beq_iff_eq,yfL]at q
   obtain⟨⟨⟨⟨⟨e1,e2⟩,hdel⟩,ht⟩,hok⟩,hni⟩:=q
   subst e1 e2
   unfold qdo at hs
   rw[ho]at hs
   dsimp only at hs
   rw[hm]at hs
   obtain⟨nm,bs,mro,ns,qn,hd,sn,sub,ab,col,del⟩:=cd
   dsimp only at hm hdel hok hni
   subst hm hdel
   have hz:sl = #[k0,k1,k2,k3,some (.builtin _),k5]:=Array.toList_inj.mp hl
   subst hz
   have hT:=tail_of_in X ht
   refine⟨bm,⟨hT.hasType (by decide +kernel),nm,qn,ns,bs,hd,sn,sub,ab,col,dd,k0,k1,k2,k3,k5,_,"ValueError.__init__","ValueError",bmV,_,X _ _ ho,.of_isNs (isNs_of_in X hok),nsMap_none_of_in X hok hni,hT,PySem.F.excBase_ValueError⟩,hs⟩
  ·cases q
 ·cases q
def qin (K:Fr0) (D:Addr):Bool :=
 findIn K (.ref D) "__getattribute__"==some (some (.builtin "BaseException.__getattribute__"))&&findIn K (.ref D) "__getattr__"==some none &&
 findIn K (.ref D) "__class__"==some (some (.builtin "object.__class__"))&&mroIn K D (.type "object")==some true&&subIn K (.ref D) (.type "BaseException")==some true&&(clsIn K D).isSome &&
 (["int","bool","str","tuple","list","dict"].all λT=>kitOne K (.ref D) (.type T)==some false)
theorem qky {K:Fr0} {D:Addr} (h:qin K D=true):XK6 K D:=by
 unfold qin at h
 simp only[yan,beq_iff_eq]at h
 obtain⟨⟨⟨⟨⟨⟨h1,h2⟩,h3⟩,h4⟩,h5⟩,h6⟩,h7⟩:=h
 exact⟨h1,h2,h3,h4,h5,h6,λT hT=>by simpa using List.all_eq_true.mp h7 T hT⟩
def qdp(n m:Str):Bool:=n==m||m=="SackError"
def qkz (K:Fr0) (S:Addr) (TN:List Str) (n:Str):Bool:=match yu K n with
 | some C=>excIn K C bmV "ValueError.__new__"&&qdo K C S&&qin K C&&kitOne K (.ref C) (.type "ValueError")==some true &&
  TN.all λm=>match yu K m with
   |some Cm=>kitOne K (.ref C) (.ref Cm)==some (qdp n m)
   |none=>false
 |none=>false
def qlW (K:Fr0) (RN TN:List Str):Bool:=match yu K "SackError" with
 |some S=>excIn K S bmV "ValueError.__new__"&&qdo K S S&&RN.all (qkz K S TN)
 |none=>false
structure XT (K:Fr0) (mg:Str->Option Value) (RN TN:List Str):Prop where
 all:qlW K RN TN=true
 mgc:∀n C,yu K n=some C->mg n=some (.ref C)
theorem qfV {K:Fr0} {h:Heap} {mg:Str->Option Value} (X:K.In h) (G:h.Ns yai mg) (n:Str) (C:Addr) (e:yu K n=some C):mg n=some (.ref C):=by
 unfold yu at e
 split at e
 ·rename_i C' q
  cases e
  exact mg_of X G q
 ·cases e
section
variable{K:Fr0}{mg:Str->Option Value}{RN TN:List Str}
theorem XT.sup (t:XT K mg RN TN):∃S,yu K "SackError"=some S/\excIn K S bmV "ValueError.__new__"=true/\qdo K S S=true/\RN.all (qkz K S TN)=true:=by
 have h:=t.all
 unfold qlW at h
 split at h
 ·rename_i S e
  simp only[yan]at h
  exact⟨S,e,h.1.1,h.1.2,h.2⟩
 ·cases h
theorem XT.row (t:XT K mg RN TN) {S:Addr} (hS:yu K "SackError"=some S) {n:Str} (hn:RN.contains n=true):qkz K S TN n=true:=by
 obtain⟨S',e,_,_,h⟩:=t.sup
 rw[hS]at e
 cases e
 exact List.all_eq_true.mp h n (by simpa using hn)
theorem XT.cls (t:XT K mg RN TN) {n:Str} {C:Addr} (h:clR K RN n=some C):yu K n=some C/\∃S,yu K "SackError"=some S/\excIn K C bmV "ValueError.__new__"=true/\qdo K C S=true/\XK6 K C/\kitOne K (.ref C) (.type "ValueError")=some true /\
  ∀m∈TN,∃Cm,yu K m=some Cm/\kitOne K (.ref C) (.ref Cm)=some (qdp n m):=by
 unfold clR at h
 split at h
 ·rename_i hn
  obtain⟨S,hS,_⟩:=t.sup
  have r:=t.row hS hn
  unfold qkz at r
  rw[h]at r
  simp only[yan,beq_iff_eq]at r
  obtain⟨⟨⟨⟨r1,r2⟩,r3⟩,r4⟩,r5⟩:=r
  refine⟨h,S,hS,r1,r2,qky r3,r4,λm hm=>?_⟩
  have:=List.all_eq_true.mp r5 m hm
  split at this
  ·rename_i Cm e
   exact⟨Cm,e,by simpa using this⟩
  ·cases this
 ·cases h
theorem XT.has (t:XT K mg RN TN) {n:Str} (hn:RN.contains n=true):∃C,clR K RN n=some C:=by
 obtain⟨S,hS,_⟩:=t.sup
 have r:=t.row hS hn
 unfold qkz at r
 split at r
 ·rename_i C e
  exact⟨C,by unfold clR;rw[if_pos hn];exact e⟩
 ·cases r
theorem XT.ask (t:XT K mg RN TN) {n m:Str} (hn:RN.contains n=true) (hm:m∈TN):∃Cm,yu K m=some Cm:=by
 obtain⟨C,hC⟩:=t.has hn
 obtain⟨_,_,_,_,_,_,_,h⟩:=t.cls hC
 obtain⟨Cm,e,_⟩:=h m hm
 exact⟨Cm,e⟩
theorem XT.xcls (t:XT K mg RN TN) {base:Heap} (X:K.In base):∃S,mg "SackError"=some (.ref S)/\qlV K base RN S:=by
 obtain⟨S,hS,h1,h2,_⟩:=t.sup
 refine⟨S,t.mgc _ _ hS,⟨(qcE X h1 h2).imp λbm h=>h.1,λn C h=>?_,λn C h=>?_⟩⟩
 ·obtain⟨_,S',hS',r1,r2,_⟩:=t.cls h
  rw[hS]at hS'
  cases hS'
  exact qcE X r1 r2
 ·obtain⟨_,_,_,_,_,r,_⟩:=t.cls h
  exact r
end
def qbG (RN:List Str) (m:Str) (f:M D):M D:=bnd f λd=>match d with
 |.exc n=>if RN.contains n then ret (.bl (m=="ValueError"||qdp n m))else λ_ => .bad
 |_=>λ_ => .bad
section
variable{X:Cx}{c:Fc}{a b e:Expr}{pos:Pos}{RN TN:List Str}
def qmK(K:Fr0)(RN:List Str)(m:Str)(Cm:V):List V->Hp->VK->Prop:=λxs H Q=>∃v n A,xs=[v,Cm]/\RN.contains n=true/\Is K A H (.exc n) v/\Q (.bl (m=="ValueError"||qdp n m)) H
theorem qcF {m:Str} {Cm:V} {um:Value} (hr:zJ Cm um) (hu:∀u,zJ Cm u->u=um) (hk:∀n C,yu X.K n=some C->RN.contains n=true->kitOne X.K (.ref C) um=some (m=="ValueError"||qdp n m)):j8 X (.builtin "isinstance") (qmK X.K RN m Cm):=by
 intro pins s σ H xs us Q I r h
 obtain⟨v,n,A,rfl,hn,hi,q⟩:=h
 obtain⟨u,w,rfl,r1,r2⟩:=qO.two r
 rw[hu w r2]
 obtain⟨z,rfl,C,hC,h1,h2⟩:=hi
 cases (show u=yae z from r1)
 exact ww I h1 h2 (hk n C hC hn) λtk=>⟨.bl _,H,I.tok tk,rfl,q⟩
theorem qew {m:Str} {f:M D} {t:TE} {Cm:V} (w:∀Z σ H Q,Rep X.K c Z σ H->Wp X.K c σ H Q (f Z)->t σ H Q):∀Z σ H Q,Rep X.K c Z σ H->Wp X.K c σ H Q (qbG RN m f Z)->tCB (qmK X.K RN m Cm) (qhG t (qhG (tC Cm) qmv)) σ H Q:=λZ σ H Q r h=>w Z σ H _ r (Wp.bnd h λd Z1 v H1 r1 i1 g1 h1=>by
 cases d with
 | exc n=>
  dsimp only at h1
  by_cases hn:RN.contains n=true
  ·rw[if_pos hn]at h1
   exact⟨v,n,_,rfl,hn,i1,h1 _ H1 r1 rfl .refl⟩
  ·rw[if_neg hn]at h1
   exact h1.elim
 |_=>exact h1.elim)
theorem yL {m:Str} {mgl:Str->Option Value} {p p2:Pos} {f:M D} (t:XT X.K X.mg RN TN) (hm:m∈TN) (hne:(m=="ValueError")=false) (hg:Gl X "isinstance") (hmi:X.mg "isinstance"=none) (hg2:Gl X m) (ha:DE X c a f)
  (hs:∃Cm,yu X.K m=some Cm)
  (hv:yaB "isinstance"=some (.builtin "isinstance"):=by first|rfl|exact PySem.boot_isinstance) (hdb2:(m==("__debug__":Str))=false:=by decide)
  (he:yad [a,.Name m p2] X.env=(false,eval a X.env)::yad [.Name m p2] X.env:=by rfl) (hpl:(yaI pos (yad [.Name m p2] X.env)).any (·.1)=false:=by rfl):DE X c (.Call (.Name "isinstance" p) [a,.Name m p2] [] pos) (qbG RN m f):=by
 obtain⟨ta,pa,w⟩:=ha
 obtain⟨Cm,hCm⟩:=hs
 refine⟨_,u4 (qcF (RN:=RN) (m:=m) (Cm:=.ref Cm) (um:=.ref Cm) rfl (λu h=>h) λn C hC hn=>?_) hg hmi hv (jc pa (jc (qbH (v:=.ref Cm) hg2 (t.mgc m Cm hCm) rfl hdb2) uN (by rfl)) he) (by decide) (by decide) he hpl,qew w⟩
 have hcl:clR X.K RN n=some C:=by unfold clR;rw[if_pos hn];exact hC
 obtain⟨_,_,_,_,_,_,_,h⟩:=t.cls hcl
 obtain⟨Cm',e1,e2⟩:=h m hm
 rw[hCm]at e1
 cases e1
 rw[e2,hne];rfl
theorem qio {p p2:Pos} {f:M D} (t:XT X.K X.mg RN TN) (hg:Gl X "isinstance") (hmi:X.mg "isinstance"=none) (hg2:Gl X "ValueError") (hm2:X.mg "ValueError"=none) (ha:DE X c a f)
  (hv:yaB "isinstance"=some (.builtin "isinstance"):=by first|rfl|exact PySem.boot_isinstance) (hv2:yaB "ValueError"=some (.type "ValueError"):=by rfl)
  (he:yad [a,.Name "ValueError" p2] X.env=(false,eval a X.env)::yad [.Name "ValueError" p2] X.env:=by rfl) (hpl:(yaI pos (yad [.Name "ValueError" p2] X.env)).any (·.1)=false:=by rfl):DE X c (.Call (.Name "isinstance" p) [a,.Name "ValueError" p2] [] pos) (qbG RN "ValueError" f):=by
 obtain⟨ta,pa,w⟩:=ha
 refine⟨_,u4 (qcF (RN:=RN) (m:="ValueError") (Cm:=.ty "ValueError") (um:=.type "ValueError") rfl (λu h=>h) λn C hC hn=>?_) hg hmi hv (jc pa (jc (qdI (v:=.ty "ValueError") hg2 hm2 hv2 rfl (by decide) (by decide)) uN (by rfl)) he) (by decide) (by decide) he hpl,qew w⟩
 have hcl:clR X.K RN n=some C:=by unfold clR;rw[if_pos hn];exact hC
 obtain⟨_,_,_,_,_,_,h,_⟩:=t.cls hcl
 rw[h];rfl
end
section
variable{P:yaj}{w:World}{K:yah}{mg:Str->Option Value}{base:Heap}
theorem qcG {x qual:Str} {st:Stmt} {f:Addr} {fd:yaL} {N ps:List Str} {k:Nat} {O:List Nat} {body:MS} (F:Fun K x qual st f fd) (S:qu N ps (qd st)) (hO:∀i∈O,ps.length<=i)
  (hb:∀(cdv:Value)(A:yam)(outer:List yaN)(s:yab)(H:Hp)(E:XK)(B:Addr->Prop),j6 k (A.deeper (ybd qual (qd st) s.heap.objs.size f cdv))->AloneA (A.deeper (ybd qual (qd st) s.heap.objs.size f cdv)) H ->
   DSs (qdl CX0 P w K mg base N qual (qd st) f cdv A outer s H E).nox (cfn O [] B H (λ_=>False) (λ_ _=>False) λ_=>none) (qt st) body) :
  qae P w K mg base CX0 (k+1) f fd ps (spD K (dfn N.length ps.length body)):=by
 obtain⟨oc,od,kV,doc,pm,an,cdv,ct,osl,rfl,lk,hcd⟩:=F.ex
 refine qkv lk hcd S (λvs H Q E h=>?_) (λA outer s H vs Q E hr al h=>?_)
 ·obtain⟨ds,B,il,_,h⟩:=h
  unfold dfn at h
  by_cases e:ds.length=ps.length
  ·rw[il.length];exact e
  ·rw[if_neg e]at h;exact h.elim
 ·obtain ⟨ds,B,il,tb,h⟩:=h
  obtain⟨t,p,wt⟩:=hb cdv A outer s H E B hr al
  refine⟨t,p.nox,?_⟩
  unfold dfn at h
  by_cases e:ds.length=ps.length
  ·rw [if_pos e]at h
   refine wt (jm N.length ds) (zf N vs) H _ (vz il tb (λi hi=>by rw[e];exact hO i hi)) ?_
   have same:∀{Z:Env}{σ:St}{H':Hp},Rep K (cfn O [] B H (λ_=>False) (λ_ _=>False) λ_=>none) Z σ H'->zK H H':=λr b o hb=>r.kp b o hb λz=>z
   cases eb:body (jm N.length ds) with
   |bad=>rw[eb]at h;exact h.elim
   |exc z Z=>rw[eb]at h;exact h.elim
   |ok fl=>
    rw[eb]at h
    cases fl with
    |nx Z=>exact λσ' H' r' _=>h .non H' (same r') rfl
    |rt d Z=>exact λv σ' H' r' i' _=>h v H' (same r') i'
    |bk Z=>exact h.elim
    |ct Z=>exact h.elim
  ·rw[if_neg e]at h;exact h.elim
structure qbY (P:yaj) (w:World) (K:yah) (mg:Str->Option Value) (base:Heap) (k:Nat) (x:Str) (ps:List Str) (sp:Sp):Prop where
 ex:∃f fd,qae P w K mg base CX0 k f fd ps sp/\mg x=some (.ref f)/\yaq K (.ref f)=true/\yt K fd ps []
end
end L2.Sk
namespace L2.Sk
open PySem PySem.Spec PyProof.Rows
section
variable{Z:Env}{f g:M D}{l:M (List D)}{p q:MS}{RN:List Str}
theorem qah (F:List D->R D):jD RN F l Z=match l Z with|.ok (xs,Z1)=>(match F xs with|.ok d => .ok (d,Z1)|.exc x _=>(if RN.contains x.cls then .exc x Z1 else .bad)|.bad => .bad)|.exc x Z' => .exc x Z'|.bad => .bad:=by
 simp only[jD,bnd]
 cases l Z with
 |ok z=>obtain⟨z1,Z1⟩:=z;cases F z1<;>rfl
 |exc x Z'=>rfl
 |bad=>rfl
theorem qcH (F:List D->R D):qhb F l Z=match l Z with|.ok (xs,Z1)=>(match F xs with|.ok d => .ok (d,Z1)|_ => .bad)|.exc x Z' => .exc x Z'|.bad => .bad:=by
 simp only[qhb,bnd]
 cases l Z with
 |ok z=>obtain⟨z1,Z1⟩:=z;cases F z1<;>rfl
 |exc x Z'=>rfl
 |bad=>rfl
theorem qcI(x:Str):wC x l Z=match l Z with|.ok (ds,Z')=>(if qD ds.length then .exc ⟨x,.non⟩ Z' else .bad)|.exc z Z' => .exc z Z'|.bad => .bad:=rfl
theorem qmL(F:List D->R D):qhd RN p F Z=match p Z with|.exc x Z'=>(if RN.contains x.cls then(match F [.exc x.cls] with|.ok d => .ok (.rt d Z')|_ => .bad)else .bad)|r=>r:=rfl
theorem qip(n i:Nat)(g:M D):v8 RN n i p g Z=match p Z with|.exc x Z'=>(if RN.contains x.cls then(match g ((yak n none).set i (some (.exc x.cls))) with|.ok (d,_) => .ok (.rt d Z')|_ => .bad)else .bad)|r=>r:=rfl
theorem qhe (m:Str):qbG RN m f Z=match f Z with|.ok (.exc n,Z1)=>(if RN.contains n then .ok (.bl (m=="ValueError"||qdp n m),Z1)else .bad)|.ok _ => .bad|.exc x Z' => .exc x Z'|.bad => .bad:=by
 simp only[qbG,bnd]
 cases f Z with
 |ok z=>
  obtain⟨z1,Z1⟩:=z
  cases z1<;>first|rfl|(dsimp only;split<;>rfl)
 |exc x Z'=>rfl
 |bad=>rfl
theorem qex (F:D->List D->Option D):qkw F f l Z=match f Z with
  |.ok (.lst ds,Z1)=>(match l Z1 with|.ok (ys,Z2)=>(match F (.lst ds) ys with|some d => .ok (d,Z2)|none => .bad)|.exc x Z' => .exc x Z'|.bad => .bad)
  |.ok _ => .bad|.exc x Z' => .exc x Z'|.bad => .bad:=by
 simp only[qkw,bnd]
 cases f Z with
 | ok z=>
  obtain⟨z1,Z1⟩:=z
  cases z1 with
  |lst ds=>
   show bnd l (λys=>lift (F (D.lst ds) ys)) Z1=(match l Z1 with|.ok (ys,Z2)=>(match F (.lst ds) ys with|some d => .ok (d,Z2)|none => .bad)|.exc x Z' => .exc x Z'|.bad => .bad)
   unfold bnd
   cases l Z1 with
   |ok z=>obtain⟨z2,Z2⟩:=z;(dsimp only;cases F (.lst ds) z2<;>rfl)
   |exc x Z'=>rfl
   |bad=>rfl
  |_=>rfl
 |exc x Z'=>rfl
 |bad=>rfl
end
theorem qiq {n p:Nat} {body:MS} {ds:List D} {d:D} (h:ds.length=p) (e:∃Z,body (jm n ds)=.ok (.rt d Z)):v7 n p body ds=.ok d:=by
 obtain⟨Z,e⟩:=e
 unfold v7;rw[if_pos h,e]
theorem qcJ {n p:Nat} {body:MS} {ds:List D} (h:ds.length=p) (e:∃Z,body (jm n ds)=.ok (.nx Z)):v7 n p body ds=.ok .non:=by
 obtain⟨Z,e⟩:=e
 unfold v7;rw[if_pos h,e]
def unO(_:Nat)(c:Fc):Fc:={c with O:=[],P:=[],B:=λ_=>True}
theorem Gr.unSame{c:Fc}{σ:St}{H H':Hp}{i:Nat}(g:Gr (unO i c).O σ H H'):zK H H':=λb o h=>g.ext.at_ b o (λj hj=>by cases hj) h
theorem Rep.un {K:Fr0} {c:Fc} {Z:Env} {σ:St} {H:Hp} {i:Nat} (r:Rep K c Z σ H) (_:i∈c.O):Rep K (unO i c) Z σ H:=by
 have all:∀b:Addr,Cn (unO i c) σ b:=λb=>⟨trivial,λj hj=>by cases hj⟩
 refine⟨r.len,λk d hk=>?_,λj hj=>(by cases hj),λk j a hk=>(by cases hk),⟨λ_ _=>trivial,r.b0.2⟩,r.kp,r.dm,λj hj=>(by cases hj),λj hj=>(by cases hj)⟩
 obtain⟨v,h1,h2⟩:=r.val k d hk
 refine⟨v,h1,.inr ⟨λz=>(by cases z),?_⟩⟩
 rcases h2 with⟨hk2,ds,a,xs,h3,h5,h6,h7⟩|⟨hk2,h3⟩
 ·subst h3 h5
  exact⟨a,xs,rfl,all a,h6,IsL.ext Ext.refl (λb _ _=>all b) h7⟩
 ·exact Is.ext Ext.refl (λb _ _=>all b) h3
theorem Gr.un{c:Fc}{σ:St}{H H':Hp}{i:Nat}(g:Gr (unO i c).O σ H H'):Gr c.O σ H H':=.of_same g.unSame
theorem Rep.re{K:Fr0}{c:Fc}{Z:Env}{σ:St}{H H':Hp}{i:Nat}(r:Rep K c Z σ H)(_:i∈c.O)(_:Rep K (unO i c) Z σ H')(g:Gr (unO i c).O σ H H'):Rep K c Z σ H':=r.same g.unSame
open Classical in
noncomputable def qai (f:M D):M D:=λZ=>match f Z with
 |.ok (d,Z')=>if imm d=true/\Z'=Z then .ok (d,Z)else .bad
 |.exc x Z'=>if Z'=Z then .exc x Z else .bad
 |.bad => .bad
open Classical in
open Classical in
section
variable{X:Cx}{c:Fc}{e:Expr}{pos:Pos}
theorem qir {i:Nat} {f:M D} (h:DE X (unO i c) e f) (ho:i∈c.O:=by exact of_decide_eq_true rfl):DE X c e (qai f):=by
 obtain⟨t,p,w⟩:=h
 refine⟨t,p,λZ σ H Q r h=>w Z σ H Q (r.un ho) ?_⟩
 unfold qai at h
 cases ef:f Z with
 |bad=>rw[ef]at h;exact h.elim
 | exc x Z'=>
  rw[ef]at h
  simp only at h
  split at h
  ·rename_i e1
   subst e1
   exact λH' r' g'=>h H' (r.re ho r' g') g'.un
  ·exact h.elim
 | ok q=>
  obtain⟨d,Z'⟩:=q
  rw[ef]at h
  simp only at h
  split at h
  ·rename_i e1
   obtain⟨e1,e2⟩:=e1
   subst e2
   exact λv H' r' i' g'=>h v H' (r.re ho r' g') (Is.imm e1 i') g'.un
  ·exact h.elim
def qnR:List D->Option (List D)
 | [.int i,.int j]=>if decide (-(2 ^ 62)<=i)&&decide (i<2 ^ 62)&&decide (-(2 ^ 62)<=j)&&decide (j<2 ^ 62)then some (v6 i (j-i).toNat)else none
 |_=>none
theorem XL2.un{i:Nat}{cl:Str->Option Addr}{E:XK}(L:XL2 X c cl E):XL2 X (unO i c) cl E:=⟨L.pass,L.wish⟩
def qhf (i n:Nat) (g:D->Env->Option Env) (b:MS):Nat->MS
 |0,Z=>match zc i Z with
  |some ds=>if ds.length<=n then .ok (.nx Z)else .bad
  |none => .bad
 | m + 1,Z=>match zc i Z with
  | some ds=>match ds[n-(m+1)]? with
   |none => .bad
   | some d=>match g d Z with
    |none => .bad
    |some Z1=>match b Z1 with
     |.ok (.nx Z2)=>qhf i n g b m Z2
     |.ok (.ct Z2)=>qhf i n g b m Z2
     |.ok (.bk Z2) => .ok (.nx Z2)
     |.ok (.rt r Z2) => .ok (.rt r Z2)
     |.exc x Z2 => .exc x Z2
     |.bad => .bad
  |none => .bad
end
section
variable{Z:Env}{f:M D}{t:M Bool}{n:M (List D)}
open Classical in
theorem qis:qai f Z=match f Z with|.ok (d,Z')=>(if imm d=true/\Z'=Z then .ok (d,Z)else .bad)|.exc x Z'=>(if Z'=Z then .exc x Z else .bad)|.bad => .bad:=rfl
end
def qli(K:Fr0)(neg:Bool):R2:=λx y H Q=>∃d e ds A,Is K A H d x/\Is K A H e y/\sqD e=some ds/\qaM d=true/\qaM e=true/\Q (.bl (if neg then !((toPDs ds).any λy=>yci y (zB d)) else(toPDs ds).any λy=>yci y (zB d))) H
def inA (x y:D):Option D:=match sqD y with
 |some ds=>if qaM x&&qaM y then some (.bl ((toPDs ds).any λy=>yci y (zB x)))else none
 |none=>none
section
variable{X:Cx}
theorem qaj {d:D} (h:qaM d=true):(zB d).canLay0=true/\(zB d).depth<=50:=by
 unfold qaM at h
 rw[yan,decide_eq_true_eq]at h
 exact h
theorem qkA {k:Nat} (hr:yc k X.A):OpR X (yaS .In) (qli X.K false):=by
 intro pins s σ H x y v u Q I rx ry h
 obtain⟨d,e,ds,A,h1,h2,es,o1,o2,q⟩:=h
 obtain⟨as,r1,_⟩:=z6 I (uR o1) h1 rx
 obtain⟨bs,r2,_⟩:=z6 I (uR o2) h2 ry
 have c1:=(qaj o1).1
 have c2:=(qaj o2).1
 have u1:=(qaj o1).2
 have u:=hr.units
 cases e<;>simp only[sqD]at es<;>try (cases es;done)
 ·cases es
  exact SeqAt.in_tuple_reads r2 r1 (by simpa [zB,ycB] using c2) c1 (by omega) ⟨.bl _,H,I,rfl,by simpa using q⟩
 ·cases es
  exact SeqAt.in_list_reads r2 r1 (by simpa [zB,ycB] using c2) c1 (by omega) ⟨.bl _,H,I,rfl,by simpa using q⟩
end
theorem qit {K:Fr0}:OpS K inA (qli K false):=by
 intro A H x y d v u Q hn ix iy e k
 unfold inA at e
 split at e
 ·rename_i ds es
  obtain⟨e1,e2⟩:=zj e
  subst e2
  rw[yan]at e1
  exact⟨x,y,ds,A,ix,iy,es,e1.1,e1.2,k _ H (zK.refl H) rfl⟩
 ·cases e
def inB(x y:D):Option D:=(inD x y).or (inA x y)
theorem qkB{X:Cx}{k:Nat}(hr:yc k X.A):OpR X (yaS .In) (λx y H Q=>rIn X.K false x y H Q\/qli X.K false x y H Q):=OpR.or qd0 (qkA hr)
theorem qiu {K:Fr0}:OpS K inB (λx y H Q=>rIn K false x y H Q\/qli K false x y H Q):=by
 intro A H x y d v u Q hn ix iy e k
 unfold inB at e
 cases e1:inD x y with
 |some b=>rw[e1]at e;exact .inl (qkt A H x y d v u Q hn ix iy (by rw[e1];exact e) k)
 |none=>rw[e1]at e;exact .inr (qit A H x y d v u Q hn ix iy e k)
section
variable{prog:yaj}{w:World}{A:yam}{R:yds->yab->Prop}{I:Addr}{fp wr:List Addr}{n:Nat}{P:Nat->Value->Prop}{St:Nat->Heap->Prop}
end
section
variable{prog:yaj}{w:World}{A:yam}{E:Value->yab->Prop}{s:yab}
end
def qkC:List D->Option (List (List Int))
 | []=>some []
 |.tup ts::r=>match jZ ts,qkC r with
  |some n,some ns=>some (n::ns)
  |_,_=>none
 |_=>none
def qlX(ns:List (List Int))(i:Nat):List Int:=(ns[i]?).getD []
def qlY(ns:List (List Int)):Nat:=argBest (λi j=>HT.lexLt (qlX ns i) (qlX ns j)) (ns.length-1)
def qnt:List D->Option D
 | [.lst ds]=>match qkC ds with
  |some (n::ns)=>some (.tup ((qlX (n::ns) (qlY (n::ns))).map .int))
  |_=>none
 |_=>none
section
variable{X:Cx}
end
def qmM (x:D) (ys:List D):Option D:=match x,ys with
 |.lst ds,[d]=>if ds.all qaM&&qaM d then(ds.findIdx? λe=>yci (zB e) (zB d)).map λj => .int j else none
 |_,_=>none
theorem qcK {prog:yaj} {w:World} {A:yam} (hh:A.handled=none) (it tu:Addr) (hne:tu≠it) (arr:Array Value) :
  Draws prog w A it [it,tu] arr.size (λi x=>arr[i]? = some x) (λi h=>h.IsListIter it tu i/\h.IsList tu arr) where
 live:=λi h st=>by obtain⟨⟨o,e,_⟩,_⟩:=st;exact⟨o,e⟩
 frame:=λi h h' st k=>by
  obtain⟨h1,o,e,r⟩:=st
  exact⟨h1.at λo q=>k it (by simp) o q,o,k tu (by simp) o e,r⟩
 item:=λi s Q E hi st q=>wpAny_nextOf_list_item st.1 st.2 (Array.getElem?_eq_getElem hi) λh' h1 sb=>q _ h' s.toks (Array.getElem?_eq_getElem hi) ⟨h1,by
  obtain⟨o,e,r⟩:=st.2
  exact⟨o,sb.extBut _ _ hne e,r⟩⟩ sb
 done:=λs Q E st q=>wpAny_nextOf_list_end hh st.1 st.2 (Array.getElem?_eq_none (yag _)) q
section
variable{prog:yaj}{w:World}{A:yam}{E:Value->yab->Prop}{s:yab}
theorem qdq {l:Addr} {xs:Array Value} {Q:Value->yab->Prop} (t1:s.heap.IsList l xs)
  (fin:∀h',IsEnum h' (s.heap.objs.size+1) s.heap.objs.size 0 .none->h'.IsListIter s.heap.objs.size l 0->(∀c o,s.heap.get? c=some o->h'.get? c=some o)->Q (.ref (s.heap.objs.size+1)) {s with heap:=h' }) :
  wpAny (model prog w) A (call (.type "enumerate") [.ref l]) Q E s:=by
 have meets:Meets (yba.«enumerate.__new__» ⟨[.type "enumerate",.ref l],[]⟩) (λ_ R s=>s.heap.IsList l xs /\
   R (.ok (.ret (.ref (s.heap.objs.size+1)))) {s with heap:=(s.heap.push {cls:=.type "list_iterator",data:=.fields #[.ref l,.int 0 0]}).push {cls:=.type "enumerate",data:=.fields #[.none,.bool false,.ref s.heap.objs.size,ya2 0,.none,.none]} }) :=
  .of_wp λprog w A R s h=>by
   obtain⟨hp,g,d,tk,os⟩:=s
   obtain⟨ha,h⟩:=h
   have hsub:=sub_enumerate
   have hA:Heap.IsList (Shared.heap ⟨hp,g,d,tk,os⟩) l xs:=ha
   obtain⟨o,ho,_⟩:=id ha
   have ho':hp.get? l=some o:=ho
   wp_walk using ybT ho'
   refine wpAny_stack_any λst=>yac ?_
   split
   ·rename_i c _ _ _ _ _
    cases (c==yaP "enumerate")
    ·wp_walk using ybT ho',ybQ hA
     simp only[ybG]at *
     exact⟨_,rfl,h⟩
    ·wp_walk using ybT ho',ybQ hA
     simp only[ybG]at *
     exact⟨_,rfl,h⟩
   ·wp_walk using ybT ho',ybQ hA
    simp only[ybG]at *
    exact⟨_,rfl,h⟩
 refine callType_new F.called_enumerate (by decide) (F.typeCall_enumerate_1 _) (F.newCall_enumerate_1 _) (λobj=>F.args_object_init_2 obj _) F.entry_enumerate_new meets ⟨t1,?_⟩
 generalize e1:s.heap.push {cls:=.type "list_iterator",data:=.fields #[.ref l,.int 0 0]}=m1
 have s1:m1.objs.size=s.heap.objs.size+1:=by rw[<-e1,ybG]
 have q1:m1.get? s.heap.objs.size=some {cls:=.type "list_iterator",data:=.fields #[.ref l,.int 0 0]}:=by rw[<-e1];exact Heap.get?_push_size _ rfl
 have k1:∀c o,s.heap.get? c=some o->m1.get? c=some o:=λc o x=>by rw[<-e1];exact Heap.get?_push_of_some _ x
 generalize e2:m1.push {cls:=.type "enumerate",data:=.fields #[.none,.bool false,.ref s.heap.objs.size,ya2 0,.none,.none]}=m2
 have q2:m2.get? (s.heap.objs.size+1)=some {cls:=.type "enumerate",data:=.fields #[.none,.bool false,.ref s.heap.objs.size,ya2 0,.none,.none]}:=by rw[<-e2,<-s1];exact Heap.get?_push_size _ rfl
 have k2:∀c o,m1.get? c=some o->m2.get? c=some o:=λc o x=>by rw[<-e2];exact Heap.get?_push_of_some _ x
 show _/\_
 exact⟨⟨_,q2,rfl⟩,fin m2 q2 ⟨_,k2 _ _ q1,rfl,rfl⟩ λc o x=>k2 _ _ (k1 _ _ x)⟩
end
def qlZ (K:Fr0) (a:Addr) (xs:List V):It :=
 ⟨λi H=>i<xs.length/\SqL K H a xs,λi H x H'=>∃p u,H p=none/\xs[i]? = some u/\x=.ref p/\H'=upd H p (.tup [.int i,u]),λi H=>i=xs.length/\SqL K H a xs⟩
def qnu(z i1 a1:Addr)(i:Nat)(h:Heap):Prop:=(∃old,IsEnum h z i1 i old)/\h.IsListIter i1 a1 i
theorem qdr {P:yaj} {w:World} {K:Fr0} {es:List Expr} {kk:Nat} {pos:Pos} {z i1 a1:Addr} {xs:List V} (zi:z≠i1) (za:z≠a1) (n1:a1≠i1) :
  qjz P w K (.Tuple es kk pos) (qlZ K a1 xs) [z,i1] z (qnu z i1 a1) where
 mem:=by simp
 obj:=λi h st b hb=>by
  obtain⟨⟨old,h1⟩,⟨o4,h4,c4,d4⟩⟩:=st
  simp only[yav,nN_,or_false]at hb
  rcases hb with rfl|rfl
  ·exact⟨_,h1,λv e=>by cases (show ycH _=Data.cell v from e)⟩
  ·exact⟨_,h4,λv e=>by rw[d4]at e;cases e⟩
 keep:=λi h h' st k=>by
  obtain⟨⟨old,h1⟩,h4⟩:=st
  exact⟨⟨old,k z (by simp) _ h1⟩,h4.at λo e=>k i1 (by simp) o e⟩
 item:=by
  intro X hP hw hK hc i pins s σ H E I hf st hg
  subst hP hw hK
  obtain⟨hlt,hx⟩:=hg
  obtain⟨⟨old,h1⟩,h4⟩:=st
  obtain⟨it1,r1,p1,z1⟩:=I.list hx
  have l1:i<it1.toArray.size:=by rw[sT_,<-r1.length];omega
  have hh:X.A.in1.handled=none:=I.ok.hd hc
  refine wpAny_pyNext_enum_itemD (qcK hh i1 a1 n1 it1.toArray) h1 ⟨h4,p1.isList⟩ l1 zi (by simp[zi,za]) λx h' tk px ho u1 new hsz kp=>?_
  refine⟨.ref s.heap.objs.size,rfl,wpAny_letOwnedTupleGo_enum ho λh2' zz2 sb=>?_⟩
  obtain⟨xv,hxv⟩:∃v,xs[i]? = some v:=⟨xs[i]'(by omega),gG (by omega)⟩
  obtain⟨x',ex,rx⟩:=r1.get hxv
  have exx:x'=x:=by
   have:it1.toArray[i]? = some x:=px
   rw[List.getElem?_toArray,ex]at this
   exact yaJ this
  subst exx
  have lz:z<s.heap.objs.size:=yaf h1
  have keep:∀b u,b ∉ [z,i1]->s.heap.get? b=some u->h2'.get? b=some u:=λb u hb e=>by
   simp only[yav,nN_,or_false,not_or]at hb
   exact(sb.2 b hb.1).trans (kp b u hb.1 hb.2 e)
  have I2:Inv X pins σ (upd H s.heap.objs.size (.tup [.int i,xv])) {s with heap:=h2',toks:=tk+1} :=
   qh5 I keep hf (yag _) ⟨by show 2<=yas;decide,[.int i tk,x'],.cons ⟨tk,rfl⟩ (.cons rx .nil),⟨_,(sb.2 _ (ybI lz)).trans new,rfl,_,rfl⟩⟩
  refine⟨.ref s.heap.objs.size,upd H s.heap.objs.size (.tup [.int i,xv]),I2,rfl,⟨s.heap.objs.size,xv,I.hok.fresh (yag _),hxv,rfl,rfl⟩,?_,λb hb=>?_⟩
  ·exact⟨⟨_,by simpa using zz2⟩,u1.1.at λo e=>(sb.2 i1 zi.symm).trans e⟩
  ·have hb1:b≠s.heap.objs.size:=by
    simp only[yav,nN_,or_false]at hb
    obtain⟨o4,g4,_⟩:=h4
    rcases hb with rfl|rfl
    ·exact yar (yaf h1)
    ·exact yar (yaf g4)
   rw[qh hb1]
   exact(hf b hb).1
 done:=by
  intro X hP hw hK hc i pins s σ H E I hf st hg
  subst hP hw hK
  obtain⟨hlt,hx⟩:=hg
  obtain⟨⟨old,h1⟩,h4⟩:=st
  obtain⟨it1,r1,p1,z1⟩:=I.list hx
  have hh:X.A.in1.handled=none:=I.ok.hd hc
  have e:i=it1.toArray.size:=by rw[sT_,<-r1.length];exact hlt
  subst e
  refine wpAny_pyNext_enum_endD (qcK hh i1 a1 n1 it1.toArray) h1 ⟨h4,p1.isList⟩ λh' kp=>⟨rfl,qh6 (t':=s.toks) I (λb u hb e=>?_) hf⟩
  simp only[yav,nN_,or_false,not_or]at hb
  exact kp b u hb.2 e
 self:=λA i s Q E st h=>by
  obtain⟨⟨old,h1⟩,_⟩:=st
  exact yfM h1 h
section
variable{X:Cx}{c:Fc}{a b e:Expr}{pos:Pos}{es:List Expr}{kk:Nat}{tp:Pos}
def qkD(K:Fr0)(ta:TA):TI:=λσ H R=>ta σ H λvs H1=>∃a1 xs,vs=[.ref a1]/\SqL K H1 a1 xs/\R (qlZ K a1 xs) H1
theorem qfW {ta:TA} {p:Pos} (hg:Gl X "enumerate") (hm:X.mg "enumerate"=none) (ha:PA X [a] ta) (hs:yad [a] X.env=[(false,eval a X.env)]:=by rfl) :
  PI X (.Tuple es kk tp) (.Call (.Name "enumerate" p) [a] [] pos) (qkD X.K ta):=by
 intro pins s σ H R I h
 refine Call_ (uM I hg hm PyProof.Rows.boot_enumerate (ybm (thn (ha pos pins s σ H _ I h) λus s1 ⟨vs,H1,I1,r1,q1⟩=>?_) (by rw[hs];rfl) (by rfl)))
 obtain⟨a1,xs,e1,hx,q⟩:=q1
 subst e1
 obtain⟨u1,rfl,ru1⟩:=qO.one r1
 cases (show u1=yae a1 from ru1)
 obtain⟨it1,v1,p1,z1⟩:=I1.list hx
 refine qdq (show s1.heap.IsList a1 it1.toArray from p1.isList) λh' zz g1 kp=>?_
 refine yfM zz ?_
 have la1:a1<s1.heap.objs.size:=by obtain⟨o,e,_⟩:=p1.isList;exact yaf e
 refine⟨s1.heap.objs.size+1,[s1.heap.objs.size+1,s1.heap.objs.size],_,_,H1,rfl,I1.kept (t':=s1.toks) kp,qdr (xs:=xs) (Nat.succ_ne_self _) (ybI (yb6 la1)) (yar la1),⟨⟨_,zz⟩,g1⟩,λb hb=>?_,q⟩
 simp only[yav,nN_,or_false]at hb
 have hb2:s1.heap.objs.size<=b:=by
  rcases hb with e|e<;>rw[e]
  ·exact Nat.le_add_right _ _
  ·exact yag _
 exact I1.fpOk hb2 (I1.hok.fresh hb2)
end
section
variable{X:Cx}{c:Fc}{a b e:Expr}{pos:Pos}{es:List Expr}{kk:Nat}{tp:Pos}
theorem qfX {K:Fr0} {A:Addr->Prop} {H:Hp} {ds:List D} {xs:List V} {a1:Addr} (hA:A a1) (t1:H a1=some (.lst xs)) (i1:IsL K A H ds xs):qgP K A H (yV 0 ds) (qlZ K a1 xs) where
 go:=λH' i d ex hd=>by
  have hl:i<(yV 0 ds).length:=(gI_.mp hd).1
  rw[vG,<-i1.length]at hl
  exact⟨hl,SqL.of (ex.at_ _ _ hA t1)⟩
 yl:=λH' i d x H'' ex hd y=>by
  obtain⟨p,u,hp,hu,rfl,rfl⟩:=y
  obtain⟨dx,h1,rfl⟩:=qba hd
  obtain⟨u',g1,g2⟩:=i1.get h1
  rw[hu]at g1
  cases g1
  have sm:=qx hp (.tup [.int i,u])
  exact⟨sm,p,[.int i,u],rfl,.inl qk,.int i,[u],rfl,by rw[yca];rfl,u,[],rfl,Is.ext (Ext.of_same sm) (λ_ h _=>h) (Is.ext ex (λ_ h _=>h) g2),rfl⟩
 stop:=λH' ex=>⟨by rw[vG,i1.length],SqL.of (ex.at_ _ _ hA t1)⟩
def qhg:List D->Option (List D)
 | [.lst xs]=>some (yV 0 xs)
 |_=>none
def wD(f:M (List D)):M (List D):=bnd f λds=>lift (qhg ds)
theorem qfY {f:M (List D)} {p:Pos} (hg:Gl X "enumerate") (hm:X.mg "enumerate"=none) (ha:DA X c [a] f) (hs:yad [a] X.env=[(false,eval a X.env)]:=by rfl) :
  DI X c (.Tuple es kk tp) (.Call (.Name "enumerate" p) [a] [] pos) (wD f):=by
 obtain⟨t,pa,w⟩:=ha
 refine⟨_,qfW hg hm pa hs,λZ σ H Q r h=>w Z σ H _ r (WpL.bndI h λds Z1 vs H1 r1 i1 g1 h1=>?_)⟩
 obtain⟨es',e,h2⟩:=u5 h1
 unfold qhg at e
 split at e
 ·obtain⟨v,rfl,j1⟩:=IsL.inv1 i1
  cases e
  obtain⟨a1,xs,rfl,hA,t1,il1⟩:=Is.tr j1
  exact⟨a1,xs,rfl,SqL.of t1,h2 _ H1 r1 (qfX hA t1 il1) .refl⟩
 ·cases e
end
section
variable{X:Cx}{c:Fc}{pos:Pos}
end
theorem qak:yf4 table "proto.unchain"=some yba.«proto.unchain»:=entryFor_of_fast (by kernel_rfl)
theorem qal:plainId "proto.unchain"=true:=by kernel_rfl
section
variable{prog:yaj}{w:World}{A:yam}{E:Value->yab->Prop}{s:yab}
theorem qam {x h:Value} {e:Addr} {o:Obj} {vs:Array Value} {Q:Value->yab->Prop} (he:s.heap.get? e=some o) (hd:o.data=.fields vs) (h2:vs[2]? = some .none) (q:Q .none s) :
  wpAny (model prog w) A (runValue (.builtin "proto.unchain" ⟨[x,.ref e,h,.bool false],[]⟩)) Q E s:=by
 refine yeI (ybg qak ?_)
 rw[ybc qal _]
 show wpAny _ A.in1 (field (.ref e) 2 >>= _) _ _ s
 refine yaa (yaD he hd h2 ?_)
 rw[if_pos (show(yap==yap)=true by decide)]
 exact yac q
theorem qbZ {it e:Addr} {o:Obj} {vs:Array Value} {x left step:Int} {Q:Option Value->yab->Prop} (hh:A.handled=some (.ref e)) (he:s.heap.get? e=some o) (hd:o.data=.fields vs) (h2:vs[2]? = some .none)
  (hit:ycG s.heap it x left step) (hleft:left<=0) (q:∀h',Heap.ExtBut it s.heap h'->Q none {s with heap:=h' }):wpAny (model prog w) A (ybk (.ref it)) Q E s:=by
 have ty:s.TypeIs (.ref it) "range_iterator":=⟨_,hit,rfl⟩
 unfold ybk
 refine yaa (ybY (wpAny_callSpecial?_slot (name:=ybo "__next__") ty ycU (yaR ycU ty PySem.F.entry_range_iterator_next ?_ (PySem.F.args_range_iterator_next_1 _))))
 show wpAny (model prog w) _ (field (yae it) 0 >>= _) _ _ s
 refine yaa (yaD hit rfl (x:=ya2 x) rfl (yaa (yaD hit rfl (x:=ya2 left) rfl (yaa (yaD hit rfl (x:=ya2 step) rfl ?_)))))
 show wpAny (model prog w) _ (if left<=0 then _ else _) _ _ s
 rw[if_pos hleft]
 refine yaa (yb0 (yaa ?_))
 show wpAny (model prog w) _ (yfl (.type "StopIteration") [] >>= _) _ _ _
 simp only[yfl,yf2]
 refine yaa (yaa (yaM ?_ (by size_fits)))
 refine yaa (m:=yb9 _ _) (yev (a:=yap) (by first|rfl|(simp only[yb9];rfl)) (yaM ?_ (by size_fits)))
 simp only[yf3]
 refine yaa (yeZ ?_)
 rw[show A.in1.handled=some (.ref e)from hh]
 have le:e<s.heap.objs.size:=yaf he
 have sz:(s.heap.push {cls:=yaP "tuple",data:=yd7 #[]}).objs.size=s.heap.objs.size+1:=by simp[Heap.push]
 have ne:(yae e != yae (s.heap.push {cls:=yaP "tuple",data:=yd7 #[]}).objs.size)=true:=by
  rw[bne_iff_ne]
  intro z
  have z':=ydF z
  rw[sz]at z'
  exact absurd (z'▸le) (Nat.not_lt.mpr (ycp _))
 show wpAny _ _ (if(yae e != yae (s.heap.push {cls:=yaP "tuple",data:=yd7 #[]}).objs.size)=true then _ else _) _ _ _
 rw[if_pos ne]
 refine yaa (yaT (qam (Heap.get?_push_of_some _ (Heap.get?_push_of_some _ he)) hd h2 ?_))
 show wpAny _ _ (setField (.ref (s.heap.push {cls:=yaP "tuple",data:=yd7 #[]}).objs.size) 2 (.ref e) >>= _) _ _ _
 refine yaa (ya9 (Heap.get?_push_size _ rfl) rfl (by show 2<_;simp;omega) (yfX ?_))
 have hn:((s.heap.push {cls:=yaP "tuple",data:=yd7 #[]}).push {cls:=yaP "StopIteration",data:=ycH (#[yae s.heap.objs.size,yap,yap,yap,ybb false,yap]++ownMembersOf (yaP "StopIteration") [])}).get? (s.heap.push {cls:=yaP "tuple",data:=yd7 #[]}).objs.size=some {cls:=yaP "StopIteration",data:=ycH (#[yae s.heap.objs.size,yap,yap,yap,ybb false,yap]++ownMembersOf (yaP "StopIteration") [])}:=Heap.get?_push_size _ rfl
 refine yaa (ybU (T:="StopIteration") (b:=true) ⟨_,Heap.get?_update_self _ hn rfl,rfl⟩ ycC ?_)
 refine yac (q _ λb ob hb g=>?_)
 have lb:b<s.heap.objs.size:=yaf g
 refine(Heap.get?_update_other _ _ (λz=>?_)).trans (Heap.get?_push_of_some _ (Heap.get?_push_of_some _ g))
 rw[sz]at z
 exact absurd (z▸lb) (Nat.not_lt.mpr (ycp _))
end
theorem AloneA.laid {A:yam} {H:Hp} {p:Addr} {o:HO} (x:AloneA A H) (h:H p=none):AloneA A (upd H p o):=by
 obtain⟨e,oe,u,vs,h1,h2,h3⟩:=x
 exact⟨e,oe,u,vs,h1,by rw[qh (qq h2 h)];exact h2,h3⟩
theorem AloneA.rep {K:Fr0} {c:Fc} {A:yam} (x:AloneA A c.H0) (hio:∀a,¬c.Io a) (Z:Env) (σ:St) (H:Hp) (r:Rep K c Z σ H):AloneA A H:=by
 obtain⟨e,oe,u,vs,h1,h2,h3⟩:=x
 exact⟨e,oe,u,vs,h1,r.kp _ _ h2 (hio e),h3⟩
theorem AloneA.cin {K:Fr0} {A:yam} {B0:Addr->Prop} {H1 H:Hp} {acc:Addr} {S':Nat->Option (Option V)} {O':List Nat} {Io':Addr->Prop} {Z:Env} {σ:St} (x:AloneA A H1) (hn:H1 acc=none) (hio:∀a,¬Io' a) (r:Rep K (Sk.cin B0 H1 O' Io' acc S') Z σ H):AloneA A H:=by
 obtain⟨e,oe,u,vs,h1,h2,h3⟩:=x
 have ne:e≠acc:=qq h2 hn
 exact⟨e,oe,u,vs,h1,r.kp e _ (show upd H1 acc (.lst []) e=_ by rw[qh ne];exact h2) (λz=>z.elim (hio e) ne),h3⟩
end L2.Sk
namespace L2
open PySem PySem.Spec PyProof.Rows L2.Sk
structure qkE (P:yaj) (w:World) (K:yah) (tg:Expr) (J:It) (fp:List Addr) (it:Addr) (tn:Nat->Heap->Prop):Prop where
 mem:it∈fp
 obj:∀i h,tn i h->∀b∈fp,∃o,h.get? b=some o/\∀v,o.data ≠ .cell v
 keep:∀i h h',tn i h->(∀b∈fp,∀o,h.get? b=some o->h'.get? b=some o)->tn i h'
 item:∀(X:Cx),X.prog=P->X.w=w->X.K=K->AloneA X.A X.H₀->∀(i:Nat)(pins:List (Addr×Obj))(s:yab)(σ:St)(H:Hp)(E:Value->yab->Prop),Inv X pins σ H s->(∀b∈fp,qaN X pins H b)->tn i s.heap->J.go i H ->
  wpAny (model P w) X.A (ybk (.ref it)) (λr s1=>∃u,r=some u /\
   wpAny (model P w) X.A (ycq tg (.ref it) u) (λ_ s2=>∃x H',Inv X pins σ H' s2/\zJ x u/\J.yld i H x H'/\tn (i+1) s2.heap/\∀b∈fp,H' b=none) E s1) E s
 done:∀(X:Cx),X.prog=P->X.w=w->X.K=K->AloneA X.A X.H₀->∀(i:Nat)(pins:List (Addr×Obj))(s:yab)(σ:St)(H:Hp)(E:Value->yab->Prop),Inv X pins σ H s->(∀b∈fp,qaN X pins H b)->tn i s.heap->J.stop i H ->
  wpAny (model P w) X.A (ybk (.ref it)) (λr s1=>r=none/\Inv X pins σ H s1) E s
 self:∀(A:yam)(i:Nat)(s:yab)(Q:Value->yab->Prop)(E:Value->yab->Prop),tn i s.heap->Q (.ref it) s->wpAny (model P w) A (yd2 (.ref it)) Q E s
def qmN (X:Cx) (pins:List (Addr×Obj)) (σ:St) (tg:Expr) (R:It->Hp->Prop) (itv:Value) (s2:yab):Prop :=
 ∃(it:Addr)(fp:List Addr)(tn:Nat->Heap->Prop)(J:It)(H':Hp),itv=.ref it/\Inv X pins σ H' s2/\qkE X.prog X.w X.K tg J fp it tn/\tn 0 s2.heap/\(∀b∈fp,qaN X pins H' b)/\R J H'
def PIH (X:Cx) (tg iter:Expr) (wi:TI):Prop :=
 ∀ (pins:List (Addr×Obj)) (s:yab) (σ:St) (H:Hp) (R:It->Hp->Prop),Inv X pins σ H s->wi σ H R ->
  wpAny (model X.prog X.w) X.A (eval iter X.env) (λv s1=>wpAny (model X.prog X.w) X.A (yd2 v) (qmN X pins σ tg R) X.xe s1) X.xe s
theorem qb0 {P:yaj} {w:World} {K:yah} {tg:Expr} (it:Addr) (lo:Int) (n:Nat):qkE P w K tg (Itr lo n) [it] it (λi h=>ycG h it (lo+(i:Nat)*1) ((n:Int)-(i:Nat)) 1) where
 mem:=by simp
 obj:=λi h st b hb=>by
  have e:b=it:=by simpa using hb
  subst e
  exact ⟨_,st,λv z=>by
   have z':ycH _=Data.cell v:=z
   cases z'⟩
 keep:=λi h h' st k=>k it (by simp) _ st
 item:=by
  intro X hP hw hK hc i pins s σ H E I hf st hg
  subst hP hw hK
  obtain⟨f0,f1,f2,f3,f4,f5⟩:=hf it (by simp)
  refine wpAny_pyNext_range_item st (by have:i<n:=hg;omega) λh' st1 sb=>?_
  have st':ycG h' it (lo+((i+1:Nat):Int)*1) ((n:Int)-((i+1:Nat):Int)) 1:=by
   have e1:lo+((i+1:Nat):Int)*1=lo+(i:Nat)*1+1:=by omega
   have e2:(n:Int)-((i+1:Nat):Int)=(n:Int)-(i:Nat)-1:=by omega
   rw[e1,e2];exact st1
  have I1:Inv X pins σ H {s with heap:=h',toks:=s.toks+1}:=I.turned (λb o hb e=>(sb.2 b hb).trans e) f0 f1 f3 f4 f5
  refine⟨_,rfl,qfu (s:={s with heap:=h',toks:=s.toks+1}) (n:="range_iterator") st' rfl rfl (by decide) ⟨.int (lo+i),H,I1,⟨s.toks,?_⟩,⟨rfl,rfl⟩,st',λb hb=>(hf b hb).1⟩⟩
  rw[Int.mul_one]
 done:=by
  intro X hP hw hK hc i pins s σ H E I hf st hg
  subst hP hw hK
  obtain⟨f0,f1,f2,f3,f4,f5⟩:=hf it (by simp)
  obtain⟨e,oe,u,vs,hh,hHe,hde,h2⟩:=hc
  have hoe:s.heap.get? e=some oe:=(I.hok e _ (I.base.frzs e oe u hHe)).1
  exact qbZ hh hoe hde h2 st (by have:n<=i:=hg;omega) λh' eb=>⟨rfl,I.turned (t':=s.toks) (λb o hb e=>eb b o hb e) f0 f1 f3 f4 f5⟩
 self:=λ_ _ _ _ _ st h=>yeq st h
section
variable{X:Cx}{tg:Expr}
theorem qey {pins:List (Addr×Obj)} {σ:St} {H:Hp} {s:yab} {R:It->Hp->Prop} {E:Value->yab->Prop} {lo hi:Int} {t u v:Tok} {tk:Nat} (I:Inv X pins σ H s) (h1 : -(2 ^ 62)<=lo) (h2:lo<2 ^ 62) (h3 : -(2 ^ 62)<=hi) (h4:hi<2 ^ 62)
  (q:R (Itr lo (hi-lo).toNat) H):wpAny (model X.prog X.w) X.A (yd2 (.ref s.heap.objs.size)) (qmN X pins σ tg R) E {s with heap:=s.heap.push {cls:=.type "range",data:=.fields #[.int lo t,.int hi u,.int 1 v]},toks:=tk}:=by
 refine ye9 (IsRange.new ..) (small_one h1 h2 h3 h4) ?_
 have I1:Inv X pins σ H {s with heap:=s.heap.push {cls:=.type "range",data:=.fields #[.int lo t,.int hi u,.int 1 v]},toks:=tk}:=I.kept λb o e=>Heap.get?_push_of_some _ e
 refine ⟨(s.heap.push {cls:=.type "range",data:=.fields #[.int lo t,.int hi u,.int 1 v]}).objs.size,[(s.heap.push {cls:=.type "range",data:=.fields #[.int lo t,.int hi u,.int 1 v]}).objs.size],_,_,H,rfl,
  I1.kept (t':=tk) λb o e=>Heap.get?_push_of_some _ e,qb0 _ lo (hi-lo).toNat,?_,λb hb=>?_,q⟩
 ·have e1:lo+((0:Nat):Int)*1=lo:=by simp
  have e2:(((hi-lo).toNat:Nat):Int)-((0:Nat):Int)=yed lo hi 1:=by rw[rangeSize_one];split<;>omega
  show ycG _ _ (lo+((0:Nat):Int)*1) ((((hi-lo).toNat:Nat):Int)-((0:Nat):Int)) 1
  rw[e1,e2]
  exact Heap.get?_push_size _ rfl
 ·have e:b=(s.heap.push {cls:=.type "range",data:=.fields #[.int lo t,.int hi u,.int 1 v]}).objs.size:=by simpa using hb
  subst e
  exact I1.fpOk (yag _) (I1.hok.fresh (yag _))
theorem qds {a:Expr} {ta:TA} {p pos:Pos} (hg:Gl X "range") (hm:X.mg "range"=none) (ha:PA X [a] ta) (hs:yad [a] X.env=[(false,eval a X.env)]:=by rfl):PIH X tg (.Call (.Name "range" p) [a] [] pos) (qjA ta):=by
 intro pins s σ H R I h
 refine Call_ (uM I hg hm boot_range (ybm (thn (ha pos pins s σ H _ I h) λus s1 ⟨vs,H1,I1,r1,q1⟩=>?_) hs rfl))
 obtain⟨j,e,q1,q2,q⟩:=q1
 subst e
 cases r1 with
 |cons r rr=>
  cases rr
  obtain⟨t,rfl⟩:=r
  exact call_range_1 (qey I1 (by omega) (by omega) q1 q2 (by simpa using q))
end
end L2
namespace L2.Sk
open PySem PySem.Spec PyProof.Rows
def qkF (X:Cx) (tg:Expr) (ifs:List Expr) (elt:Expr) (scope:Scope) (N':List Str) (wi:TI) (nt:Nat) (fr:List Nat):TE:=λσ H Q=>wi σ H λJ H1=>AloneA X.A H1/\∀acc fp cl C s₀ H₀ pn,H1 acc=none ->
 ∃(g:TG)(tt:TT)(te:TE),PG (qU X scope N' fp cl C s₀ H₀ pn) tg g/\PF (qU X scope N' fp cl C s₀ H₀ pn) ifs tt/\PE (qU X scope N' fp cl C s₀ H₀ pn) elt te /\
 ∃W:Nat->Nat->St->Hp->Prop,(∃m,W 0 m (qv nt fr σ) (upd H1 acc (.lst []))) /\
 ∀ i m σ' H',W i m σ' H'->(J.stop i H'/\Q (.ref acc) H')\/(J.go i H'/\∀x H'',J.yld i H' x H''->g x σ' H'' λσ2 H2=>tt σ2 H2 λb H3=>
  if b=true then te σ2 H3 λy H4=>∃ys,H4 acc=some (.lst ys)/\ys.length<yas/\∃m',m'<m/\W (i+1) m' σ2 (upd H4 acc (.lst (ys++[y])))else ∃m',m'<m/\W (i+1) m' σ2 H3)
section
variable{X:Cx}{tg iter elt:Expr}{ifs:List Expr}{scope:Scope}{pos:Pos}{wi:TI}{N':List Str}{nt:Nat}{fr:List Nat}
theorem qfZ (hi:PIH X tg iter wi) (S:jy X scope N' nt fr)
  (hs:∀x,ybP iter X.env x=pure x:=by intro _;rfl):PE X (.ListComp elt [⟨tg,iter,ifs,0⟩] scope pos) (qkF X tg ifs elt scope N' wi nt fr):=by
 intro pins s σ H Q I hw
 obtain⟨cl,hcl,cl1,cl2⟩:=ua (env:=X.env) (scope:=scope) (λy hy hf=>I.ok.has y.1 (.inl (S.frees y hy hf)))
 rw[eval_ListComp]
 refine yd6 (use:=none) rfl hs hcl S.kind S.names (thn (hi pins s σ H _ I hw) λv s1 h1=>thn h1 λitv s2 h2=>?_)
 obtain⟨it,fp,tn,J,H2,e,I2,T,st2,f2,hal,hR⟩:=h2
 subst e
 have hacc:H2 s2.heap.objs.size=none:=I2.hok.fresh (yag _)
 have hc:AloneA X.A (upd H2 s2.heap.objs.size (.lst [])):=Sk.AloneA.laid hal hacc
 refine yaM (yeS S.nocell (by intro y hy;simp at hy) (λh₁ hns1 hsb1=>?_) S.kind)
 dsimp only at hns1 hsb1 |-
 have I3:Inv X pins σ (upd H2 s2.heap.objs.size (.lst [])) {s2 with heap:=s2.heap.push {cls:=.type "list",dict:=none,data:=.seq ([]:List Value).toArray} } :=
  I2.lnew (t':=s2.toks) (its:=[]) .nil (ya5 _)
 generalize hs3:({s2 with heap:=s2.heap.push {cls:=.type "list",dict:=none,data:=.seq ([]:List Value).toArray} }:yab)=s3 at I3
 have hh3:s2.heap.push {cls:=.type "list",dict:=none,data:=.seq ([]:List Value).toArray}=s3.heap:=by rw[<-hs3]
 rw[hh3]at hns1 hsb1
 have old:∀b o,s3.heap.get? b=some o->h₁.get? b=some o:=λb o q=>hsb1.extBut b o (yar (yaf q)) (Heap.get?_push_of_some _ q)
 have objs2:∀b∈fp,∃o,s2.heap.get? b=some o:=λb hb=>by
  obtain⟨o,q,_⟩:=T.obj 0 _ st2 b hb
  exact⟨o,q⟩
 have keep23:∀b o,s2.heap.get? b=some o->s3.heap.get? b=some o:=λb o q=>by rw[<-hh3];exact Heap.get?_push_of_some _ q
 have fpne:∀b∈fp,b≠s2.heap.objs.size:=λb hb=>by
  obtain⟨o,q⟩:=objs2 b hb
  exact yar (yaf q)
 have f3:∀b∈fp,qaN X pins (upd H2 s2.heap.objs.size (.lst [])) b:=λb hb=>⟨by rw[qh (fpne b hb)];exact(f2 b hb).1,(f2 b hb).2⟩
 have J0:Inv (qU X scope N' fp cl s3.heap.objs.size s3 (upd H2 s2.heap.objs.size (.lst [])) (X.pn++pins)) [] (qv nt fr σ) (upd H2 s2.heap.objs.size (.lst [])) {s3 with heap:=h₁,toks:=s3.toks} :=
  wx S I3 f3 (λb hb=>(objs2 b hb).imp λo q=>keep23 b o q) cl1 cl2 ⟨_,hns1⟩ old
 obtain⟨g,tt,te,hg,hf,he,W,⟨m0,w0⟩,turn⟩:=hR s2.heap.objs.size fp cl s3.heap.objs.size s3 (upd H2 s2.heap.objs.size (.lst [])) (X.pn++pins) hacc
 have T0:tn 0 h₁:=T.keep 0 _ _ st2 λb hb o q=>old b o (keep23 b o q)
 have s3e:∀tk:Nat,({s2 with heap:=h₁,toks:=tk}:yab)={s3 with heap:=h₁,toks:=tk}:=λtk=>by rw[<-hs3]
 have loop:∀tk:Nat,ybz (model X.prog X.w) X.A (.compLoop (.ListComp elt [⟨tg,iter,ifs,0⟩] scope pos) 0 (.ref it) (.ref s2.heap.objs.size) (yeR scope cl s3.heap.objs.size X.env))
   (yf0 (model X.prog X.w) X.A X.xe none (EP X pins σ Q) (.ref s2.heap.objs.size) s3.heap.objs.size) {s3 with heap:=h₁,toks:=tk}:=λtk=>by
  have stat:∀{H':Hp},(∀b∈fp,H' b=none)->∀b∈fp,qaN (qU X scope N' fp cl s3.heap.objs.size s3 (upd H2 s2.heap.objs.size (.lst [])) (X.pn++pins)) [] H' b:=λ{H'} hn b hb=>by
   obtain⟨o,q⟩:=objs2 b hb
   have hbC:b≠s3.heap.objs.size:=yar (yaf (keep23 b o q))
   refine⟨hn b hb,hbC,λz=>?_,.inl hb,λx c hx=>(f2 b hb).2.2.2.2.1 x c (cl1 x c hx),λp hp=>?_⟩
   ·rcases List.mem_cons.mp (I2.stkSub b z)with z|z
    ·exact(f2 b hb).2.1 z
    ·exact(f2 b hb).2.2.1 z
   ·have hp':p∈X.pn++pins:=by
     rcases mA_.mp (show p∈(X.pn++pins)++[]from hp)with z|z
     ·exact z
     ·cases z
    exact(f2 b hb).2.2.2.2.2 p hp'
  have fr0:∀b∈fp,upd H2 s2.heap.objs.size (.lst []) b=none:=λb hb=>(f3 b hb).1
  refine vt (λn s'=>∃i σ' H',Inv (qU X scope N' fp cl s3.heap.objs.size s3 (upd H2 s2.heap.objs.size (.lst [])) (X.pn++pins)) [] σ' H' s'/\tn i s'.heap/\(∀b∈fp,H' b=none)/\W i n σ' H') ?_ m0
   ⟨0,qv nt fr σ,_,J0.tok tk,T0,fr0,w0⟩
  rintro n s4 ⟨i,σ4,H4,J4,st4,fr4,w4⟩
  rcases turn i n σ4 H4 w4 with⟨stop,qn⟩|⟨go,step⟩
  ·refine thn (T.done (qU X scope N' fp cl s3.heap.objs.size s3 (upd H2 s2.heap.objs.size (.lst [])) (X.pn++pins)) rfl rfl rfl hc i [] s4 σ4 H4 _ J4 (stat fr4) st4 stop) λr s5 ⟨hr,J5⟩=>?_
   subst hr
   obtain⟨m5,n5,_⟩:=J5.loc
   refine⟨m5,n5,λh' sb=>⟨.ref s2.heap.objs.size,H4,qcs I3 f3 J5 sb,rfl,qn⟩⟩
  ·refine thn (T.item (qU X scope N' fp cl s3.heap.objs.size s3 (upd H2 s2.heap.objs.size (.lst [])) (X.pn++pins)) rfl rfl rfl hc i [] s4 σ4 H4 _ J4 (stat fr4) st4 go) λr s5 ⟨u,hr,h5⟩=>?_
   subst hr
   refine thn h5 λ_ s6 ⟨x,H6,J6,r6,y6,st6,fr6⟩=>?_
   have J6':=J6.pinned (stat fr6) (T.obj _ _ st6)
   have again:∀{σ7:St}{H7:Hp}{s7:yab},Inv (qU X scope N' fp cl s3.heap.objs.size s3 (upd H2 s2.heap.objs.size (.lst [])) (X.pn++pins)) ([]++wm fp s6.heap) σ7 H7 s7->(∃m',m'<n/\W (i+1) m' σ7 H7) ->
     ∃m,m<n/\∃i σ' H',Inv (qU X scope N' fp cl s3.heap.objs.size s3 (upd H2 s2.heap.objs.size (.lst [])) (X.pn++pins)) [] σ' H' s7/\tn i s7.heap/\(∀b∈fp,H' b=none)/\W i m σ' H':=λ{σ7 H7 s7} I7 hm=>by
    obtain⟨m',hm,w7⟩:=hm
    refine⟨m',hm,i+1,σ7,H7,I7.unpinned,T.keep _ _ _ st6 λb hb o q=>(I7.pin (b,o) (mr_ _ (mr_ _ (jq hb q)))).1,λb hb=>?_,w7⟩
    obtain⟨o,q,d⟩:=T.obj _ _ st6 b hb
    exact(I7.pin (b,o) (mr_ _ (mr_ _ (jq hb q)))).2.1
   refine thn (hg _ s6 σ4 H6 x u _ J6' r6 (step x H6 y6)) λ_ s7 ⟨σ7,H7,J7,q7⟩=>?_
   refine thn (hf _ s7 σ7 H7 _ J7 q7) λok s8 ⟨H8,J8,q8⟩=>?_
   cases ok with
   |false=>
    rw[if_neg yal]at q8 |-
    exact again J8 q8
   |true=>
    rw[if_pos rfl]at q8 |-
    refine thn (he _ s8 σ7 H8 _ J8 q8) λz s9 ⟨y,H9,J9,r9,ys,hys,hz,hm⟩=>?_
    refine thn (vi _ s9 σ7 H9 (.ref s2.heap.objs.size) [y] (.ref s2.heap.objs.size) [z] (λ_ H'=>H'=upd H9 s2.heap.objs.size (.lst (ys++[y]))) J9 rfl (.cons r9 .nil) ⟨_,ys,y,rfl,rfl,hys,hz,rfl⟩) λ_ s10 ⟨_,H10,J10,_,e10⟩=>?_
    subst e10
    exact again J10 hm
 have zf:∀tk:Nat,ybz (model X.prog X.w) X.A (.compStart (.ListComp elt [⟨tg,iter,ifs,0⟩] scope pos) 0 (.ref it) (.ref s2.heap.objs.size) (yeR scope cl s3.heap.objs.size X.env))
   (yf0 (model X.prog X.w) X.A X.xe none (EP X pins σ Q) (.ref s2.heap.objs.size) s3.heap.objs.size) {s3 with heap:=h₁,toks:=tk}:=λtk=>
  yet (loop tk) (T.self X.A 0 _ _ _ T0 (loop tk))
 have fin:=zf (s2.toks+([]:List (Str×Value)).length)
 rw[<-s3e]at fin
 rw[<-hh3]at fin
 rw[hh3]at fin |-
 exact fin
end
def DIH(X:Cx)(c:Fc)(tg it:Expr)(f:M (List D)):Prop:=∃w,PIH X tg it w/\∀Z σ H Q,Rep X.K c Z σ H->WpI X.K c σ H Q (f Z)->w σ H Q
section
variable{X:Cx}{c:Fc}{tg a b e:Expr}{pos:Pos}
theorem wE {f:M (List D)} {p:Pos} (hg:Gl X "range") (hm:X.mg "range"=none) (ha:DA X c [a] f) (hs:yad [a] X.env=[(false,eval a X.env)]:=by rfl):DIH X c tg (.Call (.Name "range" p) [a] [] pos) (jd f):=by
 obtain⟨t,p,w⟩:=ha
 refine⟨_,qds hg hm p hs,λZ σ H Q r h=>w Z σ H _ r (WpL.bndI h λds Z1 vs H1 r1 i1 g1 h1=>?_)⟩
 obtain⟨es,e,h2⟩:=u5 h1
 unfold qfL at e
 split at e
 ·rename_i j
  obtain⟨v,rfl,e2⟩:=IsL.inv1 i1
  cases e2
  by_cases hb:(decide (-(2 ^ 62)<=j)&&decide (j<2 ^ 62))=true
  ·rw[if_pos hb]at e
   cases e
   rw[yan]at hb
   exact⟨j,rfl,of_decide_eq_true hb.1,of_decide_eq_true hb.2,h2 _ H1 r1 (qgQ 0 _) .refl⟩
  ·rw[if_neg hb]at e
   cases e
 ·cases e
theorem qcL {it elt:Expr} {ifs:List Expr} {scope:Scope} {N':List Str} {nt:Nat} {fr:List Nat} {fo:Option (Nat×Nat)} {f:M (List D)} {g:D->Env->Option Env} {t:M Bool} {k:M D} (hal:∀Z σ H,Rep X.K c Z σ H->AloneA X.A H) (hi:DIH X c tg it f) (S:jy X scope N' nt fr)
  (hfo:qhW c nt fr fo) (hz:fo=none)
  (hb:∀fp cl C s₀ H₀ pn B0 H1 Io' acc S',(∀Z σ H,Rep X.K (cin B0 H1 (foO fo) Io' acc S') Z σ H->AloneA X.A H)->DG (qU X scope N' fp cl C s₀ H₀ pn) (cin B0 H1 (foO fo) Io' acc S') tg g/\DF (qU X scope N' fp cl C s₀ H₀ pn) (cin B0 H1 (foO fo) Io' acc S') ifs t/\DE (qU X scope N' fp cl C s₀ H₀ pn) (cin B0 H1 (foO fo) Io' acc S') elt k)
  (hs:∀x,ybP it X.env x=pure x:=by intro _;rfl):DE X c (.ListComp elt [⟨tg,it,ifs,0⟩] scope pos) (zP nt fr fo f g t k):=by
 obtain⟨wi,pi,wI⟩:=hi
 refine⟨_,qfZ pi S hs,λZ σ H Q r h=>wI Z σ H _ r (WpI.bnd h λds Z1 J H1 r1 iok g1 h1=>?_)⟩
 refine⟨hal _ _ _ r1,?_⟩
 intro acc fp cl C s₀ H₀ pn hn
 obtain⟨⟨tg',pg,wg⟩,⟨tt,pt,wt⟩,⟨te,pe,we⟩⟩:=hb fp cl C s₀ H₀ pn (Cn c σ) H1 (qaL σ fo) acc (λj=>(qv nt fr σ)[j]?) (λZ2 σ2 H2 q=>Sk.AloneA.cin (hal _ _ _ r1) hn (λa=>by rw[hz];exact id) q)
 refine⟨tg',tt,te,pg,pt,pe,?_⟩
 cases ew:qX g t k ds [] (zL nt fr Z1) with
 |exc x Z'=>rw[ew]at h1;exact h1.elim
 |bad=>rw[ew]at h1;exact h1.elim
 | ok p =>
  rw[ew]at h1
  obtain⟨ys,Ze⟩:=p
  have h1:∀v H',Rep X.K c (qjb fo Ze Z1) σ H'->Is X.K (Cn c σ) H' (.lst ys) v->Gr c.O σ H1 H'->Q v H':=h1
  have accO:∀j∈foO fo,(qv nt fr σ)[j]? ≠ some (some (.ref acc)):=λj hj e=>by
   have r0:=r1.entry (acc:=acc) hn hfo
   cases fo with
   |none=>cases hj
   |some p=>
    obtain⟨i',j'⟩:=p
    have e2:j=i':=by simpa [foO] using hj
    subst e2
    obtain⟨k2,j2,e1,e2,e3⟩:=jr e
    have hk2:k2=j-nt:=by omega
    subst hk2
    rw[hfo.2.2.1]at e2
    cases e2
    obtain⟨a,us,e4,e5,_⟩:=r1.own j' hfo.1 _ e3
    cases e4;rw[hn]at e5;cases e5
  refine ⟨λi m σ' H'=>m=ds.length-i/\i<=ds.length/\∃Z' zs xs,Rep X.K (cin (Cn c σ) H1 (foO fo) (qaL σ fo) acc λj=>(qv nt fr σ)[j]?) Z' σ' H'/\(∀j∈foO fo,σ'[j]? = (qv nt fr σ)[j]?)/\H' acc=some (.lst xs)/\IsL X.K (Cn (cin (Cn c σ) H1 (foO fo) (qaL σ fo) acc λj=>(qv nt fr σ)[j]?) σ') H' zs xs/\qX g t k (ds.drop i) zs Z'=.ok (ys,Ze),
   ⟨ds.length,by simp,ya5 _,zL nt fr Z1,[],[],r1.entry hn hfo,λ_ _=>rfl,qk,rfl,by simpa using ew⟩,?_⟩
  rintro i m σ' H' ⟨rfl,hi,Z',zs,xs,r',so,ha,iz,w⟩
  obtain⟨_,gr⟩:=r1.leave hn hfo (λi j e=>so i (by rw[e];simp[foO])) r'
  have ex:Ext (CnT c σ H1) H1 H':=⟨gr.ext.tup,gr.ext.frz,λb o hb hq=>gr.ext.at_ b o hb.1.2 hq⟩
  have accC:∀τ:St,(∀j∈foO fo,τ[j]? = (qv nt fr σ)[j]?)->Cl (foO fo) τ acc:=λτ hτ j hj e=>accO j hj (by rw[<-hτ j hj];exact e)
  by_cases hlt:i<ds.length
  ·refine .inr ⟨iok.go H' i ds[i] ex (by simp[hlt]),λx H'' y=>?_⟩
   obtain⟨sm,ix⟩:=iok.yl H' i ds[i] x H'' ex (by simp[hlt]) y
   rw[ux hlt]at w
   unfold qX at w
   have ix2:Is X.K (Cn (cin (Cn c σ) H1 (foO fo) (qaL σ fo) acc λj=>(qv nt fr σ)[j]?) σ') H'' ds[i] x:=Is.ext Ext.refl (λa ha _=>⟨⟨ha.1,λe=>by
    have:=ha.2
    rw [e,hn]at this;cases this⟩,λj hj e=>by
     rw[so j hj]at e
     cases fo with
     |none=>cases hj
     |some p=>
      obtain⟨i',j'⟩:=p
      have e2:j=i':=by simpa [foO,cin] using hj
      subst e2
      obtain⟨k2,j2,e1,e2,e3⟩:=jr e
      have hk2:k2=j-nt:=by omega
      subst hk2
      rw[hfo.2.2.1]at e2
      cases e2
      exact ha.1.2 j' hfo.1 e3⟩) ix
   cases e1:g ds[i] Z' with
   |none=>simp only[e1]at w;cases w
   | some Z2=>
    simp only[e1]at w
    refine wg Z' σ' H'' ds[i] x Z2 _ (r'.same sm) ix2 e1 λσ2 r2 g2 o2=>?_
    have so2:∀j∈foO fo,σ2[j]? = (qv nt fr σ)[j]? := λj hj=>(o2 j hj).trans (so j hj)
    have ha2:H'' acc=some (.lst xs):=sm _ _ ha
    have iz2:=g2.isL (IsL.ext (Ext.of_same sm) (λ_ h _=>h) iz)
    cases e2:t Z2 with
    |exc x Z3=>simp only[e2]at w;cases w
    |bad=>simp only[e2]at w;cases w
    | ok p2=>
     obtain⟨bb,Z3⟩:=p2
     refine wt Z2 σ2 H'' _ r2 ?_
     rw[e2]
     intro H3 r3 g3
     have ha3:H3 acc=some (.lst xs):=g3.ext.at_ _ _ (accC σ2 so2) ha2
     have iz3:=g3.isL iz2
     cases bb with
     |false=>
      rw[if_neg yal]
      simp only[e2]at w
      exact⟨ds.length-(i+1),by omega,rfl,hlt,Z3,zs,xs,r3,so2,ha3,iz3,w⟩
     | true=>
      rw[if_pos rfl]
      simp only[e2]at w
      cases e3:k Z3 with
      |exc x Z4=>simp only[e3]at w;cases w
      |bad=>simp only[e3]at w;cases w
      | ok p3=>
       obtain⟨d4,Z4⟩:=p3
       simp only[e3]at w
       refine we Z3 σ2 H3 _ r3 ?_
       rw[e3]
       intro y4 H4 r4 i4 g4
       have ha4:H4 acc=some (.lst xs):=g4.ext.at_ _ _ (accC σ2 so2) ha3
       have hsz:qD (zs.length+1)=true:=by
        cases e5:qD (zs.length+1) with
        |true=>rfl
        |false=>rw[e5]at w;simp at w
       rw[if_pos hsz]at w
       have hsz':zs.length+1<=yas:=of_decide_eq_true hsz
       have r5:=r4.grow (ys:=xs++[y4]) ha4 (λj hj e=>accC σ2 so2 j hj e)
       have ext5:Ext (Cn (cin (Cn c σ) H1 (foO fo) (qaL σ fo) acc λj=>(qv nt fr σ)[j]?) σ2) H4 (upd H4 acc (.lst (xs++[y4]))):=⟨λb us hb=>by rw[qh (uW hb ha4 (by intro z;cases z))];exact hb,λb o u hb=>by rw[qh (uW hb ha4 (by intro z;cases z))];exact hb,λb o hb hq=>by rw[qh hb.1.2];exact hq⟩
       refine⟨xs,ha4,by rw[iz3.length];omega,ds.length-(i+1),by omega,rfl,hlt,Z4,zs++[d4],xs++[y4],r5,so2,qk,?_,w⟩
       exact IsL.append (IsL.ext ext5 (λ_ h _=>h) (g4.isL iz3)) (IsL.one (Is.ext ext5 (λ_ h _=>h) i4))
  ·have hie:i=ds.length:=by omega
   subst hie
   rw[ycK (yag _)]at w
   unfold qX at w
   cases w
   obtain⟨r6,g6⟩:=r1.leave hn hfo (λi j e=>so i (by rw[e];simp[foO])) r'
   exact .inl ⟨iok.stop H' ex,h1 _ H' r6 ⟨acc,xs,rfl,r1.new hn,ha,IsL.ext Ext.refl (λa ha hs=>ha.1.1) iz⟩ g6⟩
end
theorem j6.units{k:Nat}{A:yam}(r:j6 k A):A.units+64<cLine:=by have:=r.un;omega
section
variable{X:Cx}{c:Fc}{e:Expr}{es:List Expr}{pos:Pos}
theorem qiv {k:Nat} (hr:j6 k X.A):OpR X (yaS .Eq) (qfi X.K false):=by
 intro pins s σ H x y v u Q I rx ry h
 obtain⟨d,e,A,h1,h2,o1,o2,q⟩:=h
 obtain⟨as,r1,_⟩:=z6 I (uR o1) h1 rx
 obtain⟨bs,r2,_⟩:=z6 I (uR o2) h2 ry
 exact yeu r1 r2 (uz o1) (uz o2) (j6.units hr) ⟨.bl _,H,I,rfl,by simpa using q⟩
theorem ql0{K:Fr0}{A:yam}{e:Addr}{H6:Hp}(al:AloneA (A.mark (some (.ref e))) H6):∀Z σ H,Rep K (ch H6) Z σ H->AloneA (A.mark (some (.ref e))) H:=Sk.AloneA.rep (c:=ch H6) al (λ_ z=>z)
theorem qiw{k:Nat}{A:yam}{e:Addr}(hr:yc k A):j6 k (A.mark (some (.ref e))):=⟨hr.dp,hr.un,hr.gd⟩
theorem qez{k:Nat}(hr:j6 k X.A):OpR X (yaS .Eq) (λx y H Q=>rEq x y H Q\/qfi X.K false x y H Q):=OpR.or qjH (qiv hr)
theorem qf0 {k:Nat} {f:Addr} {fd:yaL} {ps:List Str} {F:List D->R D} {x:Str} {p:Pos} {g:M (List D)} (hal:∀Z σ H,Rep X.K c Z σ H->AloneA X.A H)
  (G:qae X.prog X.w X.K X.mg X.base CX0 k f fd ps (spD X.K F)) (hr:j6 k X.A) (hg:Gl X x) (hm:X.mg x=some (.ref f)) (hk:yaq X.K (.ref f)=true) (hb:yt X.K fd ps [])
  (ha:DA X c (e::es) g) (hd:(x==("__debug__":Str))=false:=by decide) (he:yad (e::es) X.env=(false,eval e X.env)::yad es X.env:=by rfl) (hpl:(yaI pos (yad es X.env)).any (·.1)=false:=by rfl):DE X c (.Call (.Name x p) (e::es) [] pos) (qr F g):=by
 obtain⟨t,pa,w⟩:=ha
 refine⟨_,qcz (E:=λ_ _ _=>False) G hr hg hm hk hb .nil (λ_ _ _ _ _ _ _ z=>z.elim) pa hd he hpl,λZ σ H Q r h=>w Z σ H _ r (WpL.bnd h λds Z1 vs H1 r1 i1 g1 h1=>⟨hal _ _ _ r1,?_⟩)⟩
 rw[yaK]
 refine⟨ds,Cn c σ,i1,r1.tb,?_⟩
 cases ef:F ds with
 |bad=>simp only[ef]at h1;exact h1.elim
 |exc z Z'=>simp only[ef]at h1;exact h1.elim
 |ok d=>
  simp only[ef]at h1
  exact λv H' sm i=>h1 v H' (r1.same sm) (Is.ext Ext.refl (λa ha _=>ha.elim id r1.new) i) (.of_same sm)
end
section
variable{prog:yaj}{w:World}{A:yam}{R:yds->yab->Prop}{I:Addr}{fp wr:List Addr}{n:Nat}{P:Nat->Value->Prop}{St:Nat->Heap->Prop}{dv:Value}
end
section
variable{prog:yaj}{w:World}{A:yam}{E:Value->yab->Prop}{s:yab}
end
section
variable{prog:yaj}{w:World}{A:yam}{R:yds->yab->Prop}{I:Addr}{fp wr:List Addr}{n:Nat}{P:Nat->Value->Prop}{St:Nat->Heap->Prop}{dv:Value}
end
section
variable{prog:yaj}{w:World}{A:yam}{E:Value->yab->Prop}{s:yab}
end
section
variable{prog:yaj}{w:World}{A:yam}{E:Value->yab->Prop}{s:yab}
end
section
variable{X:Cx}
end
section
variable{X:Cx}{c:Fc}{a b e:Expr}{pos:Pos}
def qhh(F:List D->List D->Option D)(f g:M (List D)):M D:=bnd f λxs=>bnd g λzs=>lift (F xs zs)
end
def qnv (xs zs:List D):Option D:=match xs,zs with
 | [.lst ds],[z]=>(jZ ds).map λns=>if ns=[]then z else .int (qlU ns)
 |_,_=>none
def slB (x:D) (lo hi:Option Int):Option D:=match x with
 |.tup ds=>some (.tup (qlP ds lo hi))
 |.lst ds=>some (.lst (qlP ds lo hi))
 |_=>none
def qmO(f:M D)(g k:M (Option Int)):M D:=bnd f λd=>bnd g λl=>bnd k λu=>lift (slB d l u)
section
variable{X:Cx}{c:Fc}{a b e:Expr}{pos p2:Pos}
def ql1 (x y:D):Option (List D):=match x,y with
 |.lst ds,.int k=>if(decide (-(2 ^ 62)<=k)&&decide (k<2 ^ 62))&&(qD (ds.length*k.toNat)&&immL ds)then some (yak k.toNat ds).flatten else none
 |_,_=>none
def qmP(f g:M D):M (List D):=bnd f λx=>bnd g λy=>lift (ql1 x y)
def qnw (f:M D):M (List D):=bnd f λx=>lift (match x with
 |.lst ds=>if immL ds then some ds else none
 |.tup ds=>if immL ds then some ds else none
 |_=>none)
def qeA (i:Nat) (f:M D):M D:=λZ=>match zc i Z with
 |none => .bad
 |some _=>(bnd f λd Z=>match d,zc i Z with
  |.lst es,some ds=>if immL es&&qD (ds.length+es.length)then .ok (.non,Z.set i (some (.lst (ds++es))))else .bad
  |_,_ => .bad) Z
theorem qf1 {pins:List (Addr×Obj)} {σ:St} {H:Hp} {s:yab} (I:Inv X pins σ H s) (j:Nat):Inv X pins (σ.set j none) H s:=by
 refine⟨I.ok,I.os,I.bare,I.base,?_,I.cell,I.free,I.freeC,I.pin,I.hok,by rw[lS_];exact I.len⟩
 obtain⟨m,hn,hl⟩:=I.loc
 refine⟨m,hn,λi x v e1 e2 e3=>?_⟩
 by_cases hij:j=i
 ·subst hij
  rw[List.getElem?_set]at e2
  simp only[if_true]at e2
  split at e2<;>cases e2
 ·rw[List.getElem?_set_ne hij]at e2
  exact hl i x v e1 e2 e3
def qeB (i j:Nat):MS:=λZ=>match zc j Z with
 |some ds => .ok (.nx ((Z.set i (some (.lst ds))).set j none))
 |none => .bad
theorem Rep.moved {K:Fr0} {Z:Env} {σ:St} {H:Hp} {i j:Nat} {ds:List D} (r:Rep K c Z σ H) (hj:j∈c.O) (hP:j ∉ c.P) (hi:i ∉ c.O) (hd:Z[j]? = some (some (.lst ds))) (hil:i<σ.length):∃a,σ[j]? = some (some (.ref a)) /\
  Rep K c ((Z.set i (some (.lst ds))).set j none) ((σ.set i (some (.ref a))).set j none) H/\GrS c.O σ H ((σ.set i (some (.ref a))).set j none) H:=by
 obtain⟨ds',a,xs,e1,hσ,hH,il⟩:=r.getO hj hd
 cases e1
 have hij:i≠j:=λe=>hi (e▸hj)
 have hB:c.B a:=by
  obtain⟨a',_,e2,_,e3⟩:=r.own j hj _ hσ
  cases e2
  exact r.b0.1 a (e3.resolve_right λz=>hP z.1)
 have get:∀k,k≠i->k≠j->((σ.set i (some (.ref a))).set j none)[k]? = σ[k]? := λk h1 h2=>by
  rw[List.getElem?_set_ne (yaZ h2),List.getElem?_set_ne (yaZ h1)]
 have getj:∀{v:V},((σ.set i (some (.ref a))).set j none)[j]? ≠ some (some v):=λ{v} e=>by
  rw[List.getElem?_set]at e
  simp only[if_true]at e
  split at e<;>cases e
 have cl:∀b,Cl c.O σ b->Cl c.O ((σ.set i (some (.ref a))).set j none) b:=λb hb k hk e=>by
  by_cases h2:k=j
  ·subst h2;exact getj e
  ·exact hb k hk (by rw[<-get k (λe=>hi (e▸hk)) h2];exact e)
 have cla:Cl c.O ((σ.set i (some (.ref a))).set j none) a:=λk hk e=>by
  by_cases h2:k=j
  ·subst h2;exact getj e
  ·rw[get k (λe=>hi (e▸hk)) h2]at e
   exact h2 (r.inj k j a hk hj e hσ)
 refine⟨a,hσ,⟨?_,λk d hk=>?_,λk hk v hv=>?_,λk l b hk hl h1 h2=>?_,r.b0,r.kp,r.dm,r.pO,λk hk=>?_⟩,⟨Ext.refl,λb hb _=>cl b hb,λ_ h=>h⟩⟩
 ·simp only[lS_];exact r.len
 ·have kj:k≠j:=λe=>by
   subst e
   rw[List.getElem?_set]at hk
   simp only[if_true]at hk
   split at hk<;>cases hk
  rw[List.getElem?_set_ne (yaZ kj)]at hk
  by_cases ki:k=i
  ·subst ki
   rw[List.getElem?_set_self (by rw[r.len];exact hil)]at hk
   cases hk
   refine⟨.ref a,by rw[List.getElem?_set_ne (yaZ kj),List.getElem?_set_self hil],.inr ⟨hi,a,xs,rfl,⟨hB,cla⟩,hH,IsL.ext Ext.refl (λb hb _=>⟨hb.1,cl b hb.2⟩) il⟩⟩
  ·rw[List.getElem?_set_ne (yaZ ki)]at hk
   obtain⟨v,h1,h2⟩:=r.val k d hk
   refine⟨v,by rw[get k ki kj];exact h1,?_⟩
   rcases h2 with⟨g1,ds2,b2,xs2,g3,g5,g6,g7⟩|⟨h3,h4⟩
   ·exact .inl ⟨g1,ds2,b2,xs2,g3,g5,g6,IsL.ext Ext.refl (λb hb _=>⟨hb.1,cl b hb.2⟩) g7⟩
   ·exact .inr ⟨h3,Is.ext Ext.refl (λb hb _=>⟨hb.1,cl b hb.2⟩) h4⟩
 ·have kj:k≠j:=λe=>by subst e;exact getj hv
  rw[get k (λe=>hi (e▸hk)) kj]at hv
  exact r.own k hk v hv
 ·have kj:k≠j:=λe=>by subst e;exact getj h1
  have lj:l≠j:=λe=>by subst e;exact getj h2
  rw[get k (λe=>hi (e▸hk)) kj]at h1
  rw[get l (λe=>hi (e▸hl)) lj]at h2
  exact r.inj k l b hk hl h1 h2
 ·have kO:=r.pO k hk
  rw[get k (λe=>hi (e▸kO)) (λe=>hP (e▸hk))]
  exact r.ps k hk
theorem qix {i j:Nat} {x y:Str} {pos' p1:Pos} (hN:X.N.Nodup) (hj:j∈c.O:=by exact of_decide_eq_true rfl) (hP:j ∉ c.P:=by exact of_decide_eq_false rfl) (ho:i ∉ c.O:=by exact of_decide_eq_false rfl) (hi:X.N[i]? = some x:=by rfl) (hjN:X.N[j]? = some y:=by rfl) (hx:Loc X.env.scope x:=by first|exact ybn rfl|exact yaY rfl)
  (hv:Vis X.env.scope y:=by first|exact ybn rfl|exact yaY (ybn rfl)|exact yaY (yaY rfl)) (hd:(y==("__debug__":Str))=false:=by decide) (hcd:(y==("__classdict__":Str))=false:=by decide)
  (hs:ydp (.Name y p1) (some (.Name x pos')) pos.line X.env=pure false:=by rfl) (hf:X.fn x=true\/X.env.scope.names.lookup x=some .local:=by first|exact .inl rfl|exact .inr rfl|assumption) :
  DS X c (.Assign [.Name x pos'] (.Name y p1) pos) (qeB i j):=by
 refine⟨λD σ H=>σ.length=X.N.length->∃v,σ[j]? = some (some v)/\D.nx ((σ.set i (some v)).set j none) H,?_,λZ σ H D r h hl=>?_⟩
 ·intro pins s σ H D I hq
  obtain⟨v,hσ,q⟩:=hq I.len
  have p:=qdK (pos:=pos) (pos':=pos') hN hi hx (y7 (pos:=p1) hjN hv hd hcd) hs hf pins s σ H ({D with nx:=λσ' H'=>σ'=σ.set i (some v)/\H'=H}:qc7) I ⟨v,hσ,rfl,rfl⟩
  refine ya3 p (λfl s1 h1=>?_) (λ_ _ z=>z)
  cases fl with
  |next=>
   obtain⟨σ1,H1,I1,rfl,rfl⟩:=h1
   exact⟨_,_,qf1 I1 j,q⟩
  |brk=>exact h1
  |cont=>exact h1
  |ret u=>exact h1
 ·unfold qeB at h
  cases e0:zc j Z with
  |none=>rw[e0]at h;exact h.elim
  | some ds=>
   rw[e0]at h
   have hd:Z[j]? = some (some (.lst ds)):=by
    unfold zc at e0
    split at e0
    ·rename_i z e;cases e0;exact e
    ·cases e0
   have hil:i<σ.length:=by rw[hl];exact(gI_.mp hi).1
   obtain⟨a,hσ,r2,g2⟩:=r.moved hj hP ho hd hil
   exact⟨.ref a,hσ,h _ H r2 g2⟩
def qmQ (f:M (List D)):M (List D):=λZ=>match f Z with
 |.ok ([.tup _],_)=>qii f Z
 |_=>wD f Z
end
section
variable{Z:Env}{f g:M D}{l k:M (List D)}
theorem qlj (F:List D->List D->Option D):qhh F l k Z=match l Z with|.ok (xs,Z1)=>(match k Z1 with|.ok (zs,Z2)=>(match F xs zs with|some d => .ok (d,Z2)|none => .bad)|.exc x Z' => .exc x Z'|.bad => .bad)|.exc x Z' => .exc x Z'|.bad => .bad:=by
 simp only[qhh,bnd]
 cases l Z with
 |ok z=>
  obtain⟨z1,Z1⟩:=z
  dsimp only
  cases k Z1 with
  |ok z=>obtain⟨z2,Z2⟩:=z;(dsimp only;cases F z1 z2<;>rfl)
  |exc x Z'=>rfl
  |bad=>rfl
 |exc x Z'=>rfl
 |bad=>rfl
theorem qmR:qmP f g Z=match f Z with|.ok (x,Z1)=>(match g Z1 with|.ok (y,Z2)=>(match ql1 x y with|some ds => .ok (ds,Z2)|none => .bad)|.exc x Z' => .exc x Z'|.bad => .bad)|.exc x Z' => .exc x Z'|.bad => .bad:=by
 simp only[qmP,bnd]
 cases f Z with
 |ok z=>
  obtain⟨z1,Z1⟩:=z
  dsimp only
  cases g Z1 with
  |ok z=>obtain⟨z2,Z2⟩:=z;(dsimp only;cases ql1 z1 z2<;>rfl)
  |exc x Z'=>rfl
  |bad=>rfl
 |exc x Z'=>rfl
 |bad=>rfl
theorem qkG (i:Nat):qeA i f Z=match zc i Z with
  |none => .bad
  |some _=>(match f Z with|.ok (d,Z1)=>(match d,zc i Z1 with|.lst es,some ds=>(if immL es&&qD (ds.length+es.length)then .ok (.non,Z1.set i (some (.lst (ds++es))))else .bad)|_,_ => .bad)|.exc x Z' => .exc x Z'|.bad => .bad):=by
 unfold qeA
 cases zc i Z with
 |none=>rfl
 |some z=>
  simp only[bnd]
  cases f Z with
  |ok z=>obtain⟨z1,Z1⟩:=z;rfl
  |exc x Z'=>rfl
  |bad=>rfl
theorem qmS (p q:M (Option Int)):qmO f p q Z=match f Z with|.ok (d,Z1)=>(match p Z1 with|.ok (l,Z2)=>(match q Z2 with|.ok (u,Z3)=>(match slB d l u with|some r => .ok (r,Z3)|none => .bad)|.exc x Z' => .exc x Z'|.bad => .bad)|.exc x Z' => .exc x Z'|.bad => .bad)|.exc x Z' => .exc x Z'|.bad => .bad:=by
 simp only[qmO,bnd]
 cases f Z with
 | ok z=>
  obtain⟨z1,Z1⟩:=z
  dsimp only
  cases p Z1 with
  |ok z=>
   obtain⟨z2,Z2⟩:=z
   dsimp only
   cases q Z2 with
   |ok z=>obtain⟨z3,Z3⟩:=z;(dsimp only;cases slB z1 z2 z3<;>rfl)
   |exc x Z'=>rfl
   |bad=>rfl
  |exc x Z'=>rfl
  |bad=>rfl
 |exc x Z'=>rfl
 |bad=>rfl
end
section
variable{X:Cx}{c:Fc}{e:Expr}{es:List Expr}{pos:Pos}
theorem dC {k j:Nat} {ps:List Str} {F:List D->R D} {x:Str} {p:Pos} {g:M (List D)} (C:ji X.prog X.w X.K X.mg X.base k x ps (spD X.K F)) (hr:yc j X.A) (ha:DA X c (e::es) g)
  (hk:k<=j:=by decide) (hg:Gl X x:=by rfl) (hd:(x==("__debug__":Str))=false:=by decide) (he:yad (e::es) X.env=(false,eval e X.env)::yad es X.env:=by rfl) (hpl:(yaI pos (yad es X.env)).any (·.1)=false:=by rfl):DE X c (.Call (.Name x p) (e::es) [] pos) (qr F g):=by
 obtain⟨f,fd,G,m,kk,b⟩:=C.ex
 exact qh0 G (hr.mono hk) hg m kk b ha hd he hpl
theorem nC {k j:Nat} {ps:List Str} {F:List D->R D} {x:Str} {p:Pos} {g:M (List D)} (C:ji X.prog X.w X.K X.mg X.base k x ps (spD X.K F)) (hr:yc j X.A) (ha:DA X c (e::es) g)
  (hk:k<=j:=by decide) (hg:Gl X x:=by rfl) (hd:(x==("__debug__":Str))=false:=by decide) (he:yad (e::es) X.env=(false,eval e X.env)::yad es X.env:=by rfl) (hpl:(yaI pos (yad es X.env)).any (·.1)=false:=by rfl):DN X c (.Call (.Name x p) (e::es) [] pos) (yI F g):=by
 obtain⟨f,fd,G,m,kk,b⟩:=C.ex
 exact qh8 G (hr.mono hk) hg m kk b ha hd he hpl
theorem iC {k j i:Nat} {ps:List Str} {F:List D->List D->R (D×List D)} {x y:Str} {p p1:Pos} {g:M (List D)} (C:ji X.prog X.w X.K X.mg X.base k x ps (qgS X.K F)) (hr:yc j X.A) (ha:DA X c es g)
  (hk:k<=j:=by decide) (hg:Gl X x:=by rfl) (ho:i∈c.O:=by exact of_decide_eq_true rfl) (hN:X.N[i]? = some y:=by rfl) (hv:Vis X.env.scope y:=by first|exact ybn rfl|exact yaY (ybn rfl)|exact yaY (yaY rfl)) (hdy:(y==("__debug__":Str))=false:=by decide) (hcd:(y==("__classdict__":Str))=false:=by decide)
  (hd:(x==("__debug__":Str))=false:=by decide) (he:yad (.Name y p1::es) X.env=(false,eval (.Name y p1) X.env)::yad es X.env:=by rfl) (hpl:(yaI pos (yad es X.env)).any (·.1)=false:=by rfl):DE X c (.Call (.Name x p) (.Name y p1::es) [] pos) (qL F i g):=by
 obtain⟨f,fd,G,m,kk,b⟩:=C.ex
 exact qei G (hr.mono hk) hg m kk b ha ho hN hv hdy hcd hd he hpl
theorem xC {k j:Nat} {ps:List Str} {F:List D->R D} {x:Str} {p:Pos} {g:M (List D)} {E:XK} {cl:Str->Option Addr} {RN:List Str} (L:XL2 X c cl E) (hcl:∀n,RN.contains n=true->(cl n).isSome=true) (C:yg X.prog X.w X.K X.mg X.base k x ps (spX X.K cl F)) (hr:yc j X.A) (ha:DA X c (e::es) g)
  (hk:k<=j:=by decide) (hg:Gl X x:=by rfl) (hd:(x==("__debug__":Str))=false:=by decide) (he:yad (e::es) X.env=(false,eval e X.env)::yad es X.env:=by rfl) (hpl:(yaI pos (yad es X.env)).any (·.1)=false:=by rfl):DE X c (.Call (.Name x p) (e::es) [] pos) (jD RN F g):=by
 obtain⟨f,fd,G,m,kk,b⟩:=C.ex
 exact qfU L hcl G (hr.mono hk) hg m kk b ha hd he hpl
theorem lC {k j:Nat} {ps:List Str} {F:List D->R D} {x:Str} {p:Pos} {g:M (List D)} (hal:∀Z σ H,Rep X.K c Z σ H->AloneA X.A H) (C:qbY X.prog X.w X.K X.mg X.base k x ps (spD X.K F)) (hr:j6 j X.A) (ha:DA X c (e::es) g)
  (hk:k<=j:=by decide) (hg:Gl X x:=by rfl) (hd:(x==("__debug__":Str))=false:=by decide) (he:yad (e::es) X.env=(false,eval e X.env)::yad es X.env:=by rfl) (hpl:(yaI pos (yad es X.env)).any (·.1)=false:=by rfl):DE X c (.Call (.Name x p) (e::es) [] pos) (qr F g):=by
 obtain⟨f,fd,G,m,kk,b⟩:=C.ex
 exact qf0 hal G (hr.mono hk) hg m kk b ha hd he hpl
theorem gI {x:Str} {i:Int} (h:∃t,X.mg x=some (.int i t)) (hg:Gl X x:=by rfl) (hd:(x==("__debug__":Str))=false:=by decide):DE X c (.Name x pos) (ret (.int i)):=by
 obtain⟨t,h⟩:=h
 exact qd4 (v:=.int i) (d:=.int i) hg h ⟨_,rfl⟩ (λ_ _=>rfl) hd
theorem gT {x:Str} {ns:List Int} (h:∃a,X.mg x=some (.ref a)/\qlh X.K a ns) (hg:Gl X x:=by rfl) (hd:(x==("__debug__":Str))=false:=by decide):DE X c (.Name x pos) (ret (.tup (ns.map .int))):=by
 obtain⟨a,h1,h2⟩:=h
 exact qfR hg h1 h2 hd
end
theorem nd(N:List Str)(h:N.Nodup:=by decide +kernel):N.Nodup:=h
theorem cs {X:Cx} (N N':List Str) (nt:Nat) (fr:List Nat) (outer:Scope) {scope:Scope} (h0:scope.kind=.function:=by rfl) (h1:∀y∈scope.names,y.2 ≠ .cell:=by decide +kernel) (h2:∀y∈scope.names,y.2=.local->scope.names.lookup y.1=some .local:=by decide +kernel)
  (h3:∀y∈scope.names,y.2=.free->outer.names.lookup y.1=some .cell:=by decide +kernel) (h4:N'.length=nt+fr.length:=by rfl) (h5:∀p∈fr.zipIdx,N'[nt+p.2]? = N[p.1]? /\ ((N[p.1]?).bind λx=>scope.names.lookup x)=some .free:=by decide +kernel)
  (h6:X.env.scope=outer:=by rfl) (h7:X.N=N:=by rfl):jy X scope N' nt fr:=qh9.ok (outer:=outer) (N:=N) ⟨h0,h1,h2,h3,h4,h5⟩ h6 h7
theorem f0{c:Fc}{nt:Nat}(fr O:List Nat)(e:c.O=O:=by rfl)(h:∀j∈fr,j ∉ O:=by decide):qhW c nt fr none:=λj hj=>by rw[e];exact h j hj
theorem f1 {c:Fc} (nt:Nat) (fr O:List Nat) (i j:Nat) (e:c.O=O:=by rfl) (h1:j∈O:=by decide) (h2:nt<=i:=by decide) (h3:fr[i-nt]? = some j:=by rfl) (h4:∀p∈fr.zipIdx,nt+p.2≠i->p.1 ∉ O:=by decide):qhW c nt fr (some (i,j)) :=
 qib (by rw[e];exact h1) h2 h3 (by rw[e];exact h4)
section
variable{X:Cx}{c:Fc}
end
end L2.Sk
namespace L2.Sk
open PySem PySem.Spec PyProof.Rows
section
variable{X:Cx}{c:Fc}{a b e:Expr}{pos:Pos}
def qeC (i:Nat) (f:M D):M D:=λZ=>match zc i Z with
 |none => .bad
 |some _=>(bnd f λd Z=>match zc i Z with
  |some ds=>if qD (ds.length+1)then .ok (.non,Z.set i (some (.lst (d::ds))))else .bad
  |none => .bad) Z
end
section
variable{prog:yaj}{w:World}{A:yam}{E:Value->yab->Prop}{s:yab}
end
section
variable{X:Cx}{c:Fc}{a e:Expr}{pos:Pos}{tg:Expr}
def ql2:List D->Option (List D)
 | [.tup xs]=>some xs.reverse
 |_=>none
def qmT(f:M (List D)):M (List D):=bnd f λds=>lift (ql2 ds)
theorem qmU {l:M (List D)} {Z:Env}:qmT l Z=match l Z with|.ok (d,Z1)=>(match ql2 d with|some ds => .ok (ds,Z1)|none => .bad)|.exc x Z' => .exc x Z'|.bad => .bad:=by
 simp only[qmT,bnd]
 cases l Z with
 |ok z=>obtain⟨z1,Z1⟩:=z;(dsimp only;cases ql2 z1<;>rfl)
 |exc x Z'=>rfl
 |bad=>rfl
theorem qkH {f:M D} {Z:Env} (i:Nat):qeC i f Z=match zc i Z with
  |none => .bad
  |some _=>(match f Z with
   |.ok (d,Z1)=>(match zc i Z1 with|some ds=>(if qD (ds.length+1)then .ok (.non,Z1.set i (some (.lst (d::ds))))else .bad)|none => .bad)
   |.exc x Z' => .exc x Z'|.bad => .bad):=by
 unfold qeC
 cases zc i Z with
 |none=>rfl
 |some z=>
  simp only[bnd]
  cases f Z with
  |ok z=>obtain⟨z1,Z1⟩:=z;rfl
  |exc x Z'=>rfl
  |bad=>rfl
end
end L2.Sk
namespace HT
open PySem PySem.Spec PyProof.Rows
section
variable{prog:yaj}{w:World}{A:yam}{E:Value->yab->Prop}{s:yab}
end
end HT
namespace L2
open PySem PySem.Spec PyProof.Rows
section
variable{X:Cx}{e:Expr}{te:TE}{ste:Expr}{ts:TO}{pos p2:Pos}
end
end L2
namespace L2.Sk
open PySem PySem.Spec PyProof.Rows
theorem IsL.rev {K:Fr0} {A:Addr->Prop} {H:Hp}:∀{ds:List D}{xs:List V},IsL K A H ds xs->IsL K A H ds.reverse xs.reverse:=by
 intro ds
 induction ds with
 |nil=>
  intro xs h
  cases xs with
  |nil=>exact h
  |cons x xs=>exact absurd h.length (by simp)
 |cons d ds ih=>
  intro xs h
  obtain⟨x,ys,rfl,h1,h2⟩:=h
  rw[ycF,ycF]
  have one:IsL K A H [d] [x]:=⟨x,[],rfl,h1,IsL.take 0 h2⟩
  exact IsL.append (ih h2) one
def ql3:D->Option D
 |.tup ds=>some (.tup ds.reverse)
 |.lst ds=>some (.lst ds.reverse)
 |_=>none
def qkI(f:M D):M D:=bnd f λd=>lift (ql3 d)
section
variable{X:Cx}{c:Fc}{a:Expr}{pos p2 p3 p4:Pos}{cj:Nat}
theorem ql4 {f:M D} {Z:Env}:qkI f Z=match f Z with|.ok (d,Z1)=>(match ql3 d with|some x => .ok (x,Z1)|none => .bad)|.exc x Z' => .exc x Z'|.bad => .bad:=by
 simp only[qkI,bnd]
 cases f Z with
 |ok z=>obtain⟨z1,Z1⟩:=z;(dsimp only;cases ql3 z1<;>rfl)
 |exc x Z'=>rfl
 |bad=>rfl
end
section
variable{X:Cx}{c:Fc}
end
end L2.Sk
namespace L2
open PySem PySem.Spec PyProof.Rows
section
variable{X:Cx}{pins:List (Addr×Obj)}{σ:St}{H:Hp}{s:yab}
theorem qf2{H:Hp}{a:Addr}{o:HO}(h:H a=none):zK H (upd H a o):=λb u q=>by rw[qh (qq q h)];exact q
end
end L2
namespace L2.Srt
open PySem PySem.W PyProof.Rows
def runK {α:Type} (cmp:Nat->Nat->Bool):KasT α->α
 |.ret a=>a
 |.ask i j k=>runK cmp (k (cmp i j))
def Fits {α:Type} (n:Nat) (R:α->Prop):KasT α->Prop
 |.ret a=>R a
 |.ask i j k=>i<n/\j<n/\∀b,Fits n R (k b)
theorem Fits.bind {α β:Type} {n:Nat} {R:α->Prop} {R':β->Prop} {f:α->KasT β} (hf:∀a,R a->Fits n R' (f a)):∀{t:KasT α},Fits n R t->Fits n R' (t.bind f)
 |.ret _,h=>hf _ h
 |.ask _ _ _,⟨h1,h2,h3⟩=>⟨h1,h2,λb=>Fits.bind hf (h3 b)⟩
theorem Fits.run {α:Type} {n:Nat} {R:α->Prop} {cmp:Nat->Nat->Bool}:∀{t:KasT α},Fits n R t->R (runK cmp t)
 |.ret _,h=>h
 |.ask i j k,h=>Fits.run (t:=k (cmp i j)) (h.2.2 (cmp i j))
def Pl(n:Nat)(p:Array Nat):Prop:=p.size=n/\p.toList.Perm (yat n)
theorem Pl.of_perm{n:Nat}{p q:Array Nat}(h:Pl n p)(hq:q.Perm p):Pl n q:=⟨hq.size_eq.trans h.1,(Array.perm_iff_toList_perm.mp hq).trans h.2⟩
theorem Pl.lt {n:Nat} {p:Array Nat} (h:Pl n p) (hn:0<n) (k:Nat):p.getD k 0<n:=by
 by_cases hk:k<p.size
 ·have e:p.getD k 0=p[k]:=by simp[Array.getD,hk]
  rw[e]
  have hm:p[k]∈p.toList:=by simp
  exact mR_.mp (h.2.mem_iff.mp hm)
 ·have e:p.getD k 0=0:=by simp[Array.getD,hk]
  rw[e];exact hn
theorem Pl.rev{n:Nat}{p:Array Nat}(h:Pl n p)(i j:Nat):Pl n (kas_rev p i j):=h.of_perm (mirror_perm _ _ _ _)
theorem qan {n:Nat} (hn:0<n) {p:Array Nat} (h:Pl n p):∀f m,Fits n (λ_=>True) (kas_asc p f m)
 |0,_=>yb1
 |f+1,m=>⟨h.lt hn _,h.lt hn _,λc=>by
  dsimp only
  split
  ·exact yb1
  ·exact qan hn h f (m+1)⟩
theorem uf {n:Nat} (hn:0<n):∀f {p:Array Nat} (_:Pl n p) m q,Fits n (λr=>Pl n r.1) (kas_desc f p m q)
 |0,_,h,_,_=>h
 | f+1,p,h,m,q=>⟨h.lt hn _,h.lt hn _,λc=>by
  dsimp only
  split
  ·split
   ·exact uf hn f (h.rev _ _) _ _
   ·exact uf hn f h _ _
  ·refine⟨h.lt hn _,h.lt hn _,λd=>?_⟩
   dsimp only
   split
   ·exact h
   ·exact uf hn f h _ _⟩
theorem wG {n:Nat} (hn:0<n) {p:Array Nat} (h:Pl n p) (m nrem:Nat):Fits n (λr=>Pl n r.2) (kas_tail3 m nrem p) :=
 Fits.bind (R:=λ_=>True) (n:=n) (R':=λr:Nat×Array Nat=>Pl n r.2) (f:=λk => .ret (k,kas_rev p 0 m)) (λ_ _=>h.rev 0 m) (qan hn (h.rev _ _) _ _)
theorem ug {n:Nat} (hn:0<n) {p:Array Nat} (h:Pl n p) (m nrem:Nat):Fits n (λr=>Pl n r.2) (kas_descPart m nrem p) :=
 Fits.bind (R:=λr=>Pl n r.1) (λr hr=>by
  split
  ·exact wG hn (hr.rev _ _) _ _
  ·exact wG hn hr _ _) (uf hn _ h _ _)
theorem qdt {n:Nat} (hn:0<n) {p:Array Nat} (h:Pl n p) (nrem:Nat):Fits n (λr=>Pl n r.2) (kas_count nrem p) :=
 Fits.bind (R:=λ_=>True) (λm _=>by
  split
  ·exact h
  ·split
   ·refine⟨h.lt hn _,h.lt hn _,λc=>?_⟩
    dsimp only
    split
    ·exact h
    ·exact ug hn (h.rev _ _) _ _
   ·exact ug hn h _ _) (qan hn h _ _)
theorem uD {n:Nat} (hn:0<n) {p:Array Nat} (h:Pl n p) (k:Nat):∀f l r,Fits n (λ_=>True) (kas_place p k f l r)
 |0,_,_=>yb1
 | f+1,l,r=>by
  unfold kas_place
  split
  ·exact yb1
  ·refine⟨h.lt hn _,h.lt hn _,λc=>?_⟩
   dsimp only
   split
   ·exact uD hn h k f _ _
   ·exact uD hn h k f _ _
theorem qcM {n:Nat} (hn:0<n):∀f {p:Array Nat} (_:Pl n p) k,Fits n (Pl n) (kas_bin f p k)
 |0,_,h,_=>h
 |f+1,p,h,k=>Fits.bind (R:=λ_=>True) (λl _=>qcM hn f (h.of_perm (bubble_perm _ _ _)) _) (uD hn h k _ _ _)
theorem fits_sort {n:Nat} (hn:0<n):Fits n (Pl n) (kas_sort n) :=
 Fits.bind (R:=λr=>Pl n r.2) (λr hr=>by
  split
  ·exact qcM hn _ hr _
  ·exact hr) (qdt hn ⟨by simp,by simp⟩ _)
def ord(ks:List Int):List Nat:=if ks.length<2 then yat ks.length else(runK (λi j=>decide (ks.getD i 0<ks.getD j 0)) (kas_sort ks.length)).toList
theorem ord_perm (ks:List Int):(ord ks).Perm (yat ks.length):=by
 unfold ord
 split
 ·exact .refl _
 ·exact(Fits.run (fits_sort (by omega))).2
theorem map_getD_range {α:Type} (d:α) (xs:List α):(yat xs.length).map (λi=>xs.getD i d)=xs:=by
 refine List.ext_getElem (by simp) λi h1 h2=>?_
 simp at h1 |-
 simp[h1]
section
variable{prog:yaj}{w:World}{A:yam}{s:yab}
end
end L2.Srt
set_option maxHeartbeats 1000000
namespace L2
open PySem PySem.Spec PyProof.Rows
structure SS (X:Cx) (H0:Hp) (s0:yab) (H:Hp) (s:yab):Prop where
 os:s.os=s0.os
 bare:ycn s.gens
 un:Un (frs X.stack) [] H0 H s0.heap s.heap
 hok:HOk X.prog X.w H s.heap
 same:zK H0 H
section
variable{X:Cx}{pins:List (Addr×Obj)}{σ:St}{H0 H:Hp}{s0 s:yab}{h':Heap}{b a kS:Addr}
theorem SS.inv (z:SS X H0 s0 H s) (I:Inv X pins σ H0 s0):Inv X pins σ H s:=by
 obtain⟨hh,g,d,t,os'⟩:=s
 obtain rfl:os'=s0.os:=z.os
 exact I.call (h':=hh) (g':=g) (d':=d) (t':=t) (ch:=[]) z.un z.hok z.bare (λb z=>absurd z (by simp))
theorem SS.of(I:Inv X pins σ H s):SS X H s H s:=⟨rfl,I.bare,.refl,I.hok,λ_ _ h=>h⟩
theorem SS.kept (z:SS X H0 s0 H s) (k:∀b u,s.heap.get? b=some u->h'.get? b=some u) (tk:Nat):SS X H0 s0 H {s with heap:=h',toks:=tk} :=
 ⟨z.os,z.bare,z.un.trans (Un.kept k),z.hok.kept k,z.same⟩
theorem SS.poke (z:SS X H0 s0 H s) (hb:H b=none) (hb0:s0.heap.objs.size<=b) (sb:ya6 b s.heap h') (tk:Nat):SS X H0 s0 H {s with heap:=h',toks:=tk}:=by
 have ne:∀c o,s0.heap.get? c=some o->c≠b:=λc o e=>yar (yau (yaf e) hb0)
 refine⟨z.os,z.bare,⟨λc o e n f x=>(sb.2 c (ne c o e)).trans (z.un.keep c o e n f x),λc o e n f x=>?_,z.un.free,λc o e x=>?_,z.un.tups,z.un.frzs,z.un.tbls⟩,λc u q=>?_,z.same⟩
 ·obtain⟨sl,q⟩:=z.un.slot c o e n f x
  exact⟨sl,(sb.2 c (ne c o e)).trans q⟩
 ·obtain⟨o',q⟩:=z.un.there c o e x
  exact⟨o',(sb.2 c (ne c o e)).trans q⟩
 ·refine(z.hok c u q).stay (λd v hd r=>(sb.2 d ?_).trans r) (λ_ q=>q) λ_ _ q=>q
  rintro rfl
  rcases hd with rfl|hd
  ·rw[hb]at q;cases q
  ·rw[hb]at hd;cases hd
end
section
variable{X:Cx}{H0 H:Hp}{s0 s:yab}{a kS:Addr}{A:yam}{E:Value->yab->Prop}{f:Value}{vs:List Value}{ks:List Int}{e1:Nat}{P:yfo->yab->Prop}
abbrev qhi(ks:List Int)(vs:List Value):List Value:=(Srt.ord ks).map λi=>vs.getD i yap
theorem qf3 (h:ks.length=vs.length):(qhi ks vs).length=vs.length:=by
 rw[lM_,(Srt.ord_perm ks).length_eq,lR_,h]
abbrev qkJ (X:Cx) (H0:Hp) (s0:yab) (a:Addr) (out:List Value) (P:yfo->yab->Prop):Prop :=
 ∀H' s' c,SS X H0 s0 H' s'->H' a=none->s'.heap.get? a=some (yb5 "list" out.toArray c)->P (.done (.ret .none)) s'
end
section
variable{X:Cx}{pins:List (Addr×Obj)}{σ:St}{H:Hp}{s:yab}{l f:Addr}{vs:List Value}{ks:List Int}{Q:Value->yab->Prop}{E:Value->yab->Prop}
end
end L2
set_option maxHeartbeats 1000000
namespace L2
open PySem PySem.Spec PyProof.Rows
section
variable{X:Cx}{N':List Str}{fr:List Nat}{q x:Str}{params:yeh}{body:Expr}{scope:Scope}{k:Nat}
end
end L2
namespace L2.Sk
open PySem PySem.Spec PyProof.Rows
def qmV (Z:Env):List Nat->Option (List D)
 | []=>some []
 |j::fr=>match Z[j]?,qmV Z fr with
  |some (some d),some ds=>some (d::ds)
  |_,_=>none
def qkK (g:M D) (n:Nat) (cs:List D):List D->Option (List Int)
 | []=>some []
 |d::ds=>match g (jm n (d::cs)),qkK g n cs ds with
  |.ok (.int k,_),some ks=>some (k::ks)
  |_,_=>none
def qiy(l:List Nat)(ds:List D):List D:=l.map λi=>ds.getD i .non
def qmW (n:Nat) (fr:List Nat) (f g:M D):M D:=bnd f λd Z=>match d with
 | .lst ds=>if ds.length<64 then match qmV Z fr with
   |some cs=>match qkK g n cs ds with
    |some ks => .ok (.lst (qiy (Srt.ord ks) ds),Z)
    |none => .bad
   |none => .bad
  else .bad
 |_ => .bad
section
variable{X:Cx}{c:Fc}{e:Expr}{p pos kpos lpos:Pos}{N':List Str}{fr:List Nat}{x:Str}{params:yeh}{body:Expr}{scope:Scope}{k:Nat}{c0 Pt:Addr}
end
end L2.Sk
namespace L2
open PySem PySem.Spec PyProof.Rows
theorem walk_lam {l:yek} {n k:Nat} {q:yaj} {loose:List Str} {XP:(Str->Option Value)->Heap->Prop} {YP:World->Heap->Prop} {d:DefRec} {K:Params->yah} {CX:World->CXT} {sp:World->Sp} {x:Str}
  (hn:l.most=some n) (hn2:n<=yas) (hdf:d.params.defaults=[]) (hr:yc k ydZ)
  (hY:∀(w:World)(h:Heap),YP w h->(K w.params).In h) {lm:World->Option (Addr×Addr×Pos×Str)}
  (hlm:∀(w:World)(mean:ExcName->Option Value)(mg mb:Str->Option Value)(h:Heap)(c Pt:Addr)(pos:Pos)(z:Str),Top q (PySem.W.looseW q loose) mean mg mb h->(K w.params).In h->lm w=some (c,Pt,pos,z) ->
   yeD h c Pt/\h.get? Pt=some (yeE #[])/\(K w.params).lookup Pt=none)
  (F : ∀(w:World)(mg:Str->Option Value)(fa:Addr)(h:Heap),(K w.params).In h->h.Ns yai mg->mg d.name=some (.ref fa) ->
   ∃ fd:yaL,(∀(s:yab)(u:Value),ydY s fd ⟨[u],[]⟩ [(x,u)]) /\
    ∀base:Heap,(K w.params).In base->base.Ns yai mg->uq l.prog w (K w.params) mg base (CX w) k fa fd [x] (sp w))
  (hsp:∀(w:World)(H:Hp)(a:Addr)(ns:List Int),ns.length<=n->qld H->(∀c Pt pos z,lm w=some (c,Pt,pos,z)->H Pt=some (.lam pos z))->SqL (K w.params) H a (ns.map V.int)->sp w [.ref a] H (λv _=>v=.bl true) λ_ _ _=>False)
  (hCX:∀(w:World)(H:Hp)(s:yab)(e:Value)(s':yab),CX w [] H s (λ_ _ _=>False) e s'->False) :
  PySem.W.WalkO q loose XP YP l.row.toRowW d [] (λf vs=>yf9 f vs):=by
 refine Att.attach_call hn hdf λw s₀ sQ mg mb fa o pm cd doc a vs ns G Y ho hd hcd hmg hobj hints hlen hg=>?_
 have KX:=hY w _ Y
 obtain⟨fd,hb,hF⟩:=F w mg fa _ KX G.T.g hmg
 exact qfA (lm:=lm w) KX G.T.g G.T.b G.T.builtins G.T.nolimit G.T.bmain (λc Pt pos z=>hlm w _ mg mb _ c Pt pos z G.T KX) hg hobj hints (yaF hlen hn2) hr hF hb (λH hO hT hS=>hsp w H a ns hlen hO hT hS) λH e s'=>hCX w H sQ e s'
end L2
namespace L2.Sk
open PySem PySem.Spec PyProof.Rows
section
variable{P:yaj}{w:World}{K:yah}{mg:Str->Option Value}{base:Heap}
end
section
variable{X:Cx}{c:Fc}{a b e:Expr}{pos:Pos}
def ql5 (i:Nat) (f:M D):M D:=λZ=>match zc i Z with
 |none => .bad
 | some _=>(bnd f λd Z=>match d,(zc i Z).bind jZ with
  |.int b,some ns=>match ns.findIdx? (·==b) with
   |some j => .ok (.non,Z.set i (some (.lst ((ns.eraseIdx j).map D.int))))
   |none => .bad
  |_,_ => .bad) Z
end
end L2.Sk
namespace L2.Sk
open PySem PySem.Spec PyProof.Rows
section
variable{X:Cx}
end
def qnS:D->D->Option D
 |.bl a,.bl b=>some (.bl (a==b))
 |_,_=>none
end L2.Sk
namespace L2
open PySem PySem.Spec PyProof.Rows
section
variable{X:Cx}{pos:Pos}
end
end L2
namespace L2.Sk
open PySem PySem.Spec PyProof.Rows
section
variable{X:Cx}{c:Fc}
end
end L2.Sk
set_option maxHeartbeats 1000000
namespace L2
open PySem PySem.Spec PyProof.Rows
abbrev uh:=Int×Int×List Int
def lt3(x y:uh):Bool:=if x.1=y.1 then if x.2.1=y.2.1 then HT.lexLt x.2.2 y.2.2 else decide (x.2.1<y.2.1)else decide (x.1<y.1)
theorem qb1:∀a:List Int,HT.lexLt a a=false
 | []=>rfl
 |x::a=>by rw[HT.lexLt_cons,if_pos rfl];exact qb1 a
theorem qcN:∀a b:List Int,HT.lexLt a b=true->HT.lexLt b a=false
 | [],[],_=>rfl
 | [],_::_,_=>rfl
 |_::_,[],h=>by cases h
 | x::a,y::b,h=>by
  rw[HT.lexLt_cons]at h |-
  by_cases c:x=y
  ·subst c
   rw[if_pos rfl]at h |-
   exact qcN a b h
  ·rw[if_neg c]at h
   rw[if_neg λz=>c z.symm]
   have:=of_decide_eq_true h
   exact decide_eq_false (by omega)
theorem qeD:∀a b c:List Int,HT.lexLt a c=true->HT.lexLt a b=true\/HT.lexLt b c=true
 |a,[],[],h=>by cases a<;>cases h
 |_,[],_::_,_ => .inr rfl
 | [],_::_,_,_ => .inl rfl
 |_::_,_::_,[],h=>by cases h
 | x :: a,y::b,z::c,h=>by
  rw[HT.lexLt_cons]at h
  rw[HT.lexLt_cons,HT.lexLt_cons]
  by_cases e1:x=y
  ·subst e1
   by_cases e2:x=z
   ·rw[if_pos e2]at h |-
    rw[if_pos rfl]
    exact qeD a b c h
   ·rw[if_neg e2]at h |-
    exact .inr h
  ·by_cases e2:y=z
   ·subst e2
    rw[if_neg e1]at h |-
    exact .inl h
   ·rw [if_neg e1,if_neg e2]
    by_cases e3:x=z
    ·subst e3
     simp only[decide_eq_true_eq]
     omega
    ·rw[if_neg e3]at h
     simp only[decide_eq_true_eq]at h |-
     omega
theorem qiz(x:uh):lt3 x x=false:=by unfold lt3;rw[if_pos rfl,if_pos rfl];exact qb1 _
theorem qf4 (x y:uh) (h:lt3 x y=true):lt3 y x=false:=by
 unfold lt3 at h |-
 by_cases c:x.1=y.1
 ·rw [if_pos c]at h;rw[if_pos c.symm]
  by_cases d:x.2.1=y.2.1
  ·rw[if_pos d]at h;rw[if_pos d.symm];exact qcN _ _ h
  ·rw[if_neg d]at h;rw[if_neg λz=>d z.symm]
   have:=of_decide_eq_true h
   exact decide_eq_false (by omega)
 ·rw[if_neg c]at h;rw[if_neg λz=>c z.symm]
  have:=of_decide_eq_true h
  exact decide_eq_false (by omega)
theorem qeE (x y z:uh) (h:lt3 x z=true):lt3 x y=true\/lt3 y z=true:=by
 obtain⟨x1,x2,x3⟩:=x
 obtain⟨y1,y2,y3⟩:=y
 obtain⟨z1,z2,z3⟩:=z
 unfold lt3 at h |-
 dsimp only at h |-
 by_cases e1:x1=y1
 ·subst e1
  by_cases e2:x1=z1
  ·rw [if_pos e2]at h |-
   rw[if_pos rfl]
   by_cases f1:x2=y2
   ·subst f1
    by_cases f2:x2=z2
    ·rw[if_pos f2]at h |-
     rw[if_pos rfl]
     exact qeD _ _ _ h
    ·rw[if_neg f2]at h |-
     exact .inr h
   ·by_cases f2:y2=z2
    ·subst f2
     rw[if_neg f1]at h |-
     exact .inl h
    ·rw [if_neg f1,if_neg f2]
     by_cases f3:x2=z2
     ·subst f3
      simp only[decide_eq_true_eq]
      omega
     ·rw[if_neg f3]at h
      simp only[decide_eq_true_eq]at h |-
      omega
  ·rw[if_neg e2]at h |-
   exact .inr h
 ·by_cases e2:y1=z1
  ·subst e2
   rw[if_neg e1]at h |-
   exact .inl h
  ·rw [if_neg e1,if_neg e2]
   by_cases e3:x1=z1
   ·subst e3
    simp only[decide_eq_true_eq]
    omega
   ·rw[if_neg e3]at h
    simp only[decide_eq_true_eq]at h |-
    omega
def qb2(ks:List uh)(k:uh):Int:=((ks.countP λy=>lt3 y k:Nat):Int)
def jE(ks:List uh):List Int:=ks.map (qb2 ks)
theorem qiA {ks:List uh} {x y:uh} (hx:x∈ks):decide (qb2 ks x<qb2 ks y)=lt3 x y:=by
 have mono:∀(p q:uh->Bool)(l:List uh),(∀z,p z=true->q z=true)->l.countP p<=l.countP q:=λp q l h=>List.countP_mono_left λz _=>h z
 cases c:lt3 x y with
 | true=>
  apply decide_eq_true
  have sub:∀z,lt3 z x=true->lt3 z y=true:=λz hz=>by
   rcases qeE z y x hz with h|h
   ·exact h
   ·rw[qf4 x y c]at h;cases h
  have strict:∀l:List uh,x∈l->l.countP (λz=>lt3 z x)<l.countP (λz=>lt3 z y):=λl=>by
   induction l with
   |nil=>intro h;cases h
   | cons a l ih=>
    intro h
    rw[List.countP_cons,List.countP_cons]
    rcases List.mem_cons.mp h with rfl|h
    ·rw[qiz,c]
     have:=mono (λz=>lt3 z x) (λz=>lt3 z y) l sub
     simp only[yaO,if_false,if_true]
     omega
    ·have:=ih h
     cases d:lt3 a x with
     |true=>rw[sub a d];simp only[if_true];omega
     |false=>simp only[yaO,if_false];split<;>omega
  have:=strict ks hx
  unfold qb2
  omega
 | false=>
  apply decide_eq_false
  have sub:∀z,lt3 z y=true->lt3 z x=true:=λz hz=>by
   rcases qeE z x y hz with h|h
   ·exact h
   ·rw[c]at h;cases h
  have:=mono (λz=>lt3 z y) (λz=>lt3 z x) ks sub
  unfold qb2
  omega
theorem qbb(ks:List uh):(jE ks).length=ks.length:=lM_ _
def K3V(h:Heap)(k:uh)(u:Value):Prop:=∃p q t1 t2 its,u=.ref p/\IsTup h p #[.int k.1 t1,.int k.2.1 t2,.ref q]/\IsTup h q its/\ybF its.toList k.2.2
inductive qcO (h:Heap):List uh->List Value->Prop
 |nil:qcO h [] []
 |cons {k:uh} {v:Value} {ks:List uh} {vs:List Value}:K3V h k v->qcO h ks vs->qcO h (k::ks) (v::vs)
theorem qcO.length {h:Heap} {ks:List uh} {vs:List Value} (x:qcO h ks vs):ks.length=vs.length:=by
 induction x with
 |nil=>rfl
 |cons _ _ ih=>rw[lC_,lC_,ih]
theorem qcO.get {h:Heap} {ks:List uh} {vs:List Value} (x:qcO h ks vs):∀{i:Nat},i<ks.length->K3V h (ks.getD i (0,0,[])) (vs.getD i yap):=by
 induction x with
 |nil=>intro i hi;exact absurd hi (ycs _)
 |cons a _ ih=>
  intro i hi
  cases i with
  |zero=>exact a
  |succ i=>exact ih (by simpa using hi)
section
variable{X:Cx}{pins:List (Addr×Obj)}{σ:St}{H:Hp}{s:yab}
end
theorem wH {prog:yaj} {w:World} {vs:List Value} {ns:List Int} (h:ybF vs ns):ItemsAre (ybx prog w) ns vs:=by
 induction h with
 |nil=>exact .nil
 |cons n t _ ih=>exact .cons (by simp[ybx,ycl]) ih
section
variable{prog:yaj}{w:World}{A:yam}{E:Value->yab->Prop}{s:yab}
theorem qkL {kx ky:uh} {u v:Value} {Q:Bool->yab->Prop} (hu:A.units<cLine) (hx:K3V s.heap kx u) (hy:K3V s.heap ky v) (h:Q (lt3 kx ky) s) :
  wpAny (model prog w) A (ye3 (ycj true) u v) Q E s:=by
 obtain⟨p,q,t1,t2,its,rfl,hp,hq,hi⟩:=hx
 obtain⟨p',q',t1',t2',its',rfl,hp',hq',hi'⟩:=hy
 obtain⟨o,ho,hc,n,hd⟩:=id hp
 obtain⟨o',ho',hc',n',hd'⟩:=id hp'
 refine PySem.W.kat_lt ho hd ho' hd' ?_
 show PySem.W.KatLex prog w A true (decide (3<3)) Q [(.int kx.1 t1,.int ky.1 t1'),(.int kx.2.1 t2,.int ky.2.1 t2'),(.ref q,.ref q')] 0 s
 unfold lt3 at h
 refine yd8 (yd0 ?_)
 by_cases c:kx.1=ky.1
 ·rw [if_pos c]at h
  rw[show(kx.1==ky.1)=true by simp[c]]
  refine yel (yd8 (yd0 ?_))
  by_cases d:kx.2.1=ky.2.1
  ·rw [if_pos d]at h
   rw[show(kx.2.1==ky.2.1)=true by simp[d]]
   refine yel (yd8 ?_)
   have kq:IsTupleKey (ybx prog w) s.heap kx.2.2 q:=by
    obtain⟨o2,a1,a2,n2,a3⟩:=hq
    exact⟨o2,its,n2,a1,a2,a3,wH hi⟩
   have kq':IsTupleKey (ybx prog w) s.heap ky.2.2 q':=by
    obtain⟨o2,a1,a2,n2,a3⟩:=hq'
    exact⟨o2,its',n2,a1,a2,a3,wH hi'⟩
   refine wpAny_eqBool_tuple hu kq kq' ?_
   by_cases e:kx.2.2=ky.2.2
   ·rw[decide_eq_true e]
    rw[e,qb1]at h
    exact yel (PySem.W.kat_nil h)
   ·rw[decide_eq_false e]
    exact yeJ (PySem.W.kat_one _ _ (HT.lt_tupInts hq hq' hi hi' hu h))
  ·rw[if_neg d]at h
   rw[show(kx.2.1==ky.2.1)=false by simp[d]]
   exact yeJ (PySem.W.kat_one _ _ (lt_int h))
 ·rw[if_neg c]at h
  rw[show(kx.1==ky.1)=false by simp[c]]
  exact yeJ (oneLt_int h)
theorem qf5 {ks:List uh} {vs:List Value} (x:qcO s.heap ks vs):∃fs:List Value,PySem.W.KatTups s.heap vs fs/\fs.length=ks.length/\∀v∈fs,∃i t,v=ycW i t:=by
 induction x with
 |nil=>exact⟨[],.nil,rfl,λv hv=>by cases hv⟩
 | @cons k v ks vs a _ ih=>
  obtain⟨fs,h1,h2,h3⟩:=ih
  obtain⟨p,q,t1,t2,its,rfl,⟨o,ho,hc,n,hd⟩,_,_⟩:=a
  refine⟨.int k.1 t1::fs,.cons ho hc hd rfl h1,by rw[lC_,lC_,h2],λv hv=>?_⟩
  rcases List.mem_cons.mp hv with rfl|hv
  ·exact⟨_,_,rfl⟩
  ·exact h3 v hv
theorem qeF {α:Type} {vs:List Value} {ks:List uh} {R:α->Prop} {G:α->yab->Prop} (hu:A.units<cLine) (hk:qcO s.heap ks vs):∀{t:PySem.W.KasT α},Srt.Fits ks.length R t ->
  G (Srt.runK (λi j=>decide ((jE ks).getD i 0<(jE ks).getD j 0)) t) s->t.kasWp (PySem.W.kas_ask prog w A (ycj true) vs) G s
 |.ret _,_,h=>h
 |.ask i j k,⟨h1,h2,h3⟩,h=>by
  have e1:(jE ks).getD i 0=qb2 ks (ks.getD i (0,0,[])):=by unfold jE;simp[h1]
  have e2:(jE ks).getD j 0=qb2 ks (ks.getD j (0,0,[])):=by unfold jE;simp[h2]
  have hm:ks.getD i (0,0,[])∈ks:=by simp[h1]
  have h':G (Srt.runK (λi j=>decide ((jE ks).getD i 0<(jE ks).getD j 0)) (k (decide ((jE ks).getD i 0<(jE ks).getD j 0)))) s:=h
  rw[e1,e2,qiA hm]at h'
  show wpAny (model prog w) A (ye3 (ycj true) (vs.getD i yap) (vs.getD j yap)) _ _ s
  exact qkL hu (hk.get h1) (hk.get h2) (qeF hu hk (h3 _) h')
end
section
variable{X:Cx}{pins:List (Addr×Obj)}{σ:St}{H0 H:Hp}{s0 s:yab}{a kS:Addr}{A:yam}{E:Value->yab->Prop}{f:Value}{vs:List Value}{ks:List uh}{e1:Nat}{P:yfo->yab->Prop}
end
section
variable{X:Cx}{pins:List (Addr×Obj)}{σ:St}{H:Hp}{s:yab}{l f:Addr}{vs:List Value}{ks:List uh}{Q:Value->yab->Prop}{E:Value->yab->Prop}
end
end L2
namespace L2
open PySem PySem.Spec PyProof.Rows
section
variable{X:Cx}{k:Nat}{f:Addr}{fd:yaL}{x:Str}{F:List Sk.D->Sk.R Sk.D}
end
end L2
namespace L2.Sk
open PySem PySem.Spec PyProof.Rows
def qmX:D->Option uh
 |.tup [.int a,.int b,.tup ts]=>match jZ ts with
  |some ns=>some (a,b,ns)
  |none=>none
 |_=>none
def qkM (F:List D->R D):List D->Option (List uh)
 | []=>some []
 | d::ds=>match F [d],qkM F ds with
  |.ok k,some ks=>match qmX k with
   |some k=>some (k::ks)
   |none=>none
  |_,_=>none
def qmY (F:List D->R D) (f:M D):M D:=bnd f λd Z=>match d with
 | .lst ds=>if ds.length<64 then match qkM F ds with
   |some ks => .ok (.lst (qiy (Srt.ord (jE ks)) ds),Z)
   |none => .bad
  else .bad
 |_ => .bad
section
variable{X:Cx}{c:Fc}{e:Expr}{p pos kpos p2:Pos}{x:Str}{k:Nat}
end
end L2.Sk
set_option maxHeartbeats 1000000
namespace L2.Sk
open PySem PySem.Spec PyProof.Rows
section
variable{X:Cx}{c:Fc}{a b e:Expr}{pos:Pos}
end
end L2.Sk
set_option maxHeartbeats 1000000
namespace L2
open PySem PySem.Spec PyProof.Rows
theorem wJ {h h':Heap} {a:Addr} {its:Array Value} (k:∀b u,h.get? b=some u->h'.get? b=some u) (t:IsTup h a its):IsTup h' a its:=by
 obtain⟨o,h1,h2,n,h3⟩:=t
 exact⟨o,k _ _ h1,h2,n,h3⟩
theorem qcO.kept {h h':Heap} {ks:List uh} {vs:List Value} (k:∀b u,h.get? b=some u->h'.get? b=some u) (x:qcO h ks vs):qcO h' ks vs:=by
 induction x with
 |nil=>exact .nil
 |cons a _ ih=>
  obtain⟨p,q,t1,t2,its,e,h1,h2,h3⟩:=a
  exact .cons ⟨p,q,t1,t2,its,e,wJ k h1,wJ k h2,h3⟩ ih
section
variable{X:Cx}{pins:List (Addr×Obj)}{σ:St}{H0 H:Hp}{s0 s:yab}{a:Addr}{A:yam}{E:Value->yab->Prop}{vs:List Value}{ks:List uh}{P:yfo->yab->Prop}
theorem qkN {n:Nat} (I0:Inv X pins σ H0 s0) (hu:A.units<cLine) (kv:qcO s0.heap ks vs) (z:SS X H0 s0 H s) (k0:∀b u,s0.heap.get? b=some u->s.heap.get? b=some u) (ho:s.heap.get? a=some (yb5 "list" vs.toArray n)) (na:H a=none) (la:s0.heap.objs.size<=a) (h64:vs.length<64)
  (fin:qkJ X H0 s0 a (qhi (jE ks) vs) P):wpAny (model X.prog X.w) A (yba.«list.sort» ⟨[.ref a],[]⟩) P E s:=by
 have hlen:ks.length=vs.length:=kv.length
 have hrl:(jE ks).length=vs.length:=(qbb ks).trans hlen
 have hlt:a<s.heap.objs.size:=yaf ho
 have sb:=yaG s.heap a (yaz λ_=>(#[]:Array Value))
 obtain⟨e1,ho1⟩:∃e1,(s.heap.update a (yaz λ_=>(#[]:Array Value))).get? a=some (yb5 "list" #[] e1):=⟨_,get?_update_seq ho λ_ => #[]⟩
 have z1:=z.poke na la sb s.toks
 have kp:∀b u,(s.heap.update a (yaz λ_=>(#[]:Array Value))).get? b=some u->(((s.heap.update a (yaz λ_=>(#[]:Array Value))).push (yb5 "tuple" vs.toArray 0)).push (yb5 "list" #[] 0)).get? b=some u :=
  λb u q=>Heap.get?_push_of_some _ (Heap.get?_push_of_some _ q)
 have z3:=z1.kept kp s.toks
 have ka:∀b u,s0.heap.get? b=some u->(((s.heap.update a (yaz λ_=>(#[]:Array Value))).push (yb5 "tuple" vs.toArray 0)).push (yb5 "list" #[] 0)).get? b=some u:=λb u q=>by
  refine kp b u ((sb.2 b ?_).trans (k0 b u q))
  exact yar (yau (yaf q) la)
 have kv3:=kv.kept ka
 rw[list_sort_plain]
 refine yaa (listItems_at ho rfl (yaa (ye0 ho rfl ?_ (by rw[sT_,yaX];omega) (ya5 _))))
 refine yaa (seqEpoch_at ho1 rfl (yaa (ydl ?_ (by show vs.length<=_;rw[yaX];omega))))
 refine yaa (wpAny_newList (yaT ?_) (ya5 _))
 show wpAny (model X.prog X.w) A _ P E {s with heap:=((s.heap.update a (yaz λ_=>(#[]:Array Value))).push (yb5 "tuple" vs.toArray 0)).push (yb5 "list" #[] 0)}
 generalize hs3:({s with heap:=((s.heap.update a (yaz λ_=>(#[]:Array Value))).push (yb5 "tuple" vs.toArray 0)).push (yb5 "list" #[] 0)}:yab)=s3
 have z3':SS X H0 s0 H s3:=by rw[<-hs3];exact z3
 have ga:s3.heap.get? a=some (yb5 "list" #[] e1):=by rw[<-hs3];exact kp _ _ ho1
 have kv3':qcO s3.heap ks vs:=by rw[<-hs3];exact kv3
 dsimp only
 have tail:∀(st:SortSt),(arrOf st).map (·.2)=(qhi (jE ks) vs).toArray->failedOf st=none ->
   wpAny (model X.prog X.w) A (do
    let touched:=(<-seqEpoch a) != e1
    yee (.ref a) λ_=>(arrOf st).map (·.2)
    if let some e:=failedOf st then rule "list.sort.comparison-raised";throw e
    if touched then rule "list.sort.modified";raiseError "ValueError" "list modified during sort"
    ret .none) P E s3:=λst ho hf=>by
  have ol:=qf3 hrl
  have sb2:=yaG s3.heap a (yaz λ_=>(qhi (jE ks) vs).toArray)
  have z4:=z3'.poke na la sb2 s3.toks
  refine yaa (seqEpoch_at ga rfl ?_)
  rw[ho,hf]
  refine yaa (ye0 ga rfl ?_ (ya5 _) (by show(qhi (jE ks) vs).toArray.size<=_;rw[sT_,yaX];omega))
  simp only[bne_self_eq_false,yaO,if_false]
  exact yac (fin H _ _ z4 na (get?_update_seq ga λ_=>(qhi (jE ks) vs).toArray))
 by_cases h2:vs.length<2
 ·have h2':vs.toArray.size<2:=by rw[sT_];exact h2
  rw[if_pos h2',if_pos h2']
  refine yaa (yac ?_)
  rw[StateT.run_pure]
  refine yaa (yac ?_)
  refine tail _ ?_ rfl
  have e0:qhi (jE ks) vs=vs:=by
   show(Srt.ord (jE ks)).map _=vs
   unfold Srt.ord
   rw[if_pos (by omega),hrl]
   exact Srt.map_getD_range _ vs
  rw[e0]
  apply Array.toList_inj.mp
  show((vs.toArray.zip vs.toArray).map (·.2)).toList=vs.toArray.toList
  rw[Array.toList_map,ksk_zip,List.map_snd_zip (yag _)]
 ·have h2':¬vs.toArray.size<2:=by rw[sT_];exact h2
  rw[if_neg h2',if_neg h2']
  obtain⟨fs,t1,t2,t3⟩:=qf5 kv3'
  refine yaa ?_
  refine PySem.W.kat_kind (T:=.type "int") t1 (by omega) (λv hv=>?_) rfl ?_
  ·obtain⟨i,t,rfl⟩:=t3 v hv
   exact .now
  show wpAny _ _ _ _ _ _
  refine yaa (ya3 (PySem.W.kat_run (κ:=ycj true) (Q:=λst' s'=>s'=s3/\(arrOf st').map (·.2)=(qhi (jE ks) vs).toArray/\failedOf st'=none) (G:=λp s'=>s'=s3/\p.toList=Srt.ord (jE ks)) rfl (by omega) h64 (λp st' s' a1 a2 a3 a4=>?_) ?_) ?_ λ_ _ x=>x)
  ·refine⟨a4.1,?_,a3⟩
   rw[PySem.W.kat_snds rfl a2,a4.2]
  ·have ft:=Srt.fits_sort (n:=ks.length) (by omega)
   rw[<-hlen]
   refine qeF hu kv3' ft ⟨rfl,?_⟩
   unfold Srt.ord
   rw[if_neg (by omega),qbb]
  ·rintro⟨⟨⟩,st'⟩ s' ⟨rfl,h3,h4⟩
   exact tail st' h3 h4
end
end L2
namespace L2.Sk
open PySem PySem.Spec PyProof.Rows
def qkO:List D->Option (List uh)
 | []=>some []
 |d::ds=>match qmX d,qkO ds with
  |some k,some ks=>some (k::ks)
  |_,_=>none
def qmZ (i:Nat):M (List D):=λZ=>match zc i Z with
 | some ds=>if ds.length<64 then match qkO ds with
   |some ks => .ok (qiy (Srt.ord (jE ks)) ds,Z)
   |none => .bad
  else .bad
 |none => .bad
section
variable{X:Cx}{c:Fc}{pos:Pos}
end
def ltB:D->D->Option D
 |.int i,.int j=>some (.bl (decide (i<j)))
 |.tup xs,.tup ys=>match jZ xs,jZ ys with
  |some ns,some ms=>some (.bl (HT.lexLt ns ms))
  |_,_=>none
 |_,_=>none
end L2.Sk
set_option maxHeartbeats 1000000
namespace L2.Sk
open PySem PySem.Spec PyProof.Rows
def qkP (O:List Nat) (Z:Env):Bool:=O.all λj=>match Z[j]? with
 |some (some (.lst ds))=>immL ds
 |_=>true
open Classical in
noncomputable def qm0 (i:Nat) (O:List Nat) (F:List D->R D) (g:M (List D)) (t:M Bool):MS:=λZ=>match g Z with
 | .ok (ds,Z1)=>if immFs ds=true/\qkP O Z1=true/\i<Z1.length then match F ds with
   | .ok (.tup [.lst xs,.lst ys])=>match t (Z1.set i (some (.tup [.lst xs,.lst ys]))) with
     |.ok (b,Z2)=>if b=true then .ok (.rt (.bl false) Z2)else if Z2=Z1.set i (some (.tup [.lst xs,.lst ys]))/\xs.length+ys.length<1000 then .ok (.nx (Z1.set i none))else .bad
     |_ => .bad
   |_ => .bad
  else .bad
 |_ => .bad
section
variable{X:Cx}{c:Fc}
end
end L2.Sk
set_option maxHeartbeats 1000000
namespace L2.Sk
open PySem PySem.Spec PyProof.Rows
structure qjd (z:Str) (X:Cx) (scope:Scope) (N':List Str) (nt:Nat) (fr:List Nat):Prop where
 kind:scope.kind=.function
 cell:∀y∈scope.names,y.2=.cell->y.1=z
 cz:scope.names.lookup z=some .cell
 cf:∀n acc,ydt n scope.names acc=(z,n)::acc
 pc:∀h:Heap,pushCells h scope.names=h.push {cls:=.type "cell",data:=.cell none}
 names:∀y∈scope.names,y.2=.local->scope.names.lookup y.1=some .local
 frees:∀y∈scope.names,y.2=.free->X.env.kindOf y.1=some .cell/\y.1≠z
 len:N'.length=nt+fr.length
 slot:∀i j,fr[i]? = some j->∃x,N'[nt+i]? = some x/\X.N[j]? = some x/\scope.names.lookup x=some .free
section
variable{z:Str}{X:Cx}{tg iter elt:Expr}{ifs:List Expr}{scope:Scope}{pos:Pos}{wi:TI}{N':List Str}{nt:Nat}{fr:List Nat}
end
section
variable{X:Cx}{c:Fc}{tg:Expr}{pos:Pos}
end
end L2.Sk
set_option maxHeartbeats 1000000
namespace L2.Sk
open PySem PySem.Spec PyProof.Rows
abbrev vK (h:Heap) (z TI TO:Addr) (a:Nat) (b:Bool):Prop :=
 h.get? z=some {cls:=.type "zip",dict:=none,data:=.fields #[ya2 a,.bool b,.bool false,.ref TI,.ref TO],slots := #[]}
section
variable{prog:yaj}{w:World}{A:yam}{E:Value->yab->Prop}{s:yab}{z TI TO i1 i2:Addr}{fp1 fp2:List Addr}{n1 n2 k:Nat}{P1 P2:Nat->Value->Prop}{S1 S2:Nat->Heap->Prop}
theorem ql6 {M:Model} {a:Addr} {Q:Option Obj->yab->Prop} (h:Q (s.heap.get? a) s):wpAny M A (loadIfAlive a) Q E s:=λΓ p _=>by
 show Sem.wp M Γ (.loadIfAlive a .pure) _ _ p s
 rw[Sem.wp_loadIfAlive]
 exact h
theorem qcP {a:Nat} {b:Bool} {o:Obj} (zz:vK s.heap z TI TO a b) (ho:s.heap.get? a=some o) {Q:Bool->yab->Prop}
  (fin:∀h',vK h' z TI TO a true->ya6 z s.heap h'->Q false {s with heap:=h' }):wpAny (model prog w) A (yaE (.ref z)) Q E s:=by
 unfold yaE
 refine yaa (yaD zz rfl (x:=ya2 a) rfl ?_)
 show wpAny (model prog w) A (loadIfAlive (Int.toNat (a:Int)) >>= _) _ _ _
 refine yaa (ql6 ?_)
 have e:s.heap.get? (Int.toNat (a:Int))=some o:=ho
 rw[e]
 simp only[Option.isNone_some,yaO,if_false]
 refine yaa (yaD zz rfl (x:=ybb b) rfl ?_)
 cases b with
 |true=>
  have e1:(ybb true != ybb true)=false:=by decide
  simp only[e1,yaO,if_false]
  exact yac (fin s.heap zz (yfN ..))
 |false=>
  have e1:(ybb false != ybb true)=true:=by decide
  simp only[e1,if_true]
  refine yaa (ybr zz (by simp) λh1 zz1 b1=>yac (fin h1 zz1 b1))
theorem qiB (D1:Draws prog w A i1 fp1 n1 P1 S1) (D2:Draws prog w A i2 fp2 n2 P2 S2) (ap:ZAp z TI TO i1 i2 fp1 fp2) {a:Nat} {b:Bool} {o:Obj} (zz:vK s.heap z TI TO a b) (ho:s.heap.get? a=some o) (zI:ybj s.heap TI (.ref i1) (.ref i2))
  (t1:S1 k s.heap) (t2:S2 k s.heap) (l1:k<n1) (l2:k<n2) {Q:Value->yab->Prop}
  (fin:∀x y h' tk,P1 k x->P2 k y->vK h' z TI TO a true->S1 (k+1) h'->S2 (k+1) h'->ybj h' s.heap.objs.size x y ->
   (∀c o,c≠z->c≠i1->c≠i2->s.heap.get? c=some o->h'.get? c=some o)->Q (.ref s.heap.objs.size) {s with heap:=h',toks:=tk}) :
  wpAny (model prog w) A (yba.«zip.__next__» ⟨[.ref z],[]⟩) (λr s'=>∃v,r=.done (.ret v)/\Q v s') E s:=by
 show wpAny (model prog w) A (field (yae z) 2 >>= _) _ _ _
 refine yaa (yaD zz rfl (x:=ybb false) rfl ?_)
 show wpAny (model prog w) A (field (yae z) 3 >>= _) _ _ _
 refine yaa (yaD zz rfl (x:=yae TI) rfl (yaa (ya8 zI rfl ?_)))
 show wpAny (model prog w) A (yaE (yae z) >>= _) _ _ _
 refine yaa (qcP zz ho λh1 zz1 b1=>?_)
 simp only[yaO,if_false]
 refine yaa ?_
 simp only[<-yfp,ycr,ydk]
 refine yaa (yaa (yaT ?_))
 show wpAny (model prog w) A (yaA (yae i1) >>= _) _ _ _
 refine yaa (D1.item k _ _ _ l1 (D1.frame _ _ _ t1 (zb b1 ap.z1)) λx h2 tk2 px u1 b2=>yac (yac ?_))
 refine yaa (yaa (yaT ?_))
 show wpAny (model prog w) A (yaA (yae i2) >>= _) _ _ _
 have t2':S2 k h2:=D2.frame _ _ _ (D2.frame _ _ _ t2 (zb b1 ap.z2)) (zb b2 ap.i12)
 refine yaa (D2.item k _ _ _ l2 t2' λy h3 tk3 py u2 b3=>yac (yac (yac ?_)))
 refine yaa (m:=yf2 [x,y]) (ydl ?_)
 have sz:h3.objs.size=s.heap.objs.size:=by rw[b3.1,b2.1,b1.1]
 have zz3:vK h3 z TI TO a true:=b3.extBut _ _ ap.zi2 (b2.extBut _ _ ap.zi1 zz1)
 have v1:S1 (k+1) h3:=D1.frame _ _ _ u1 (zb b3 ap.i21)
 have up:∀c o,h3.get? c=some o->(h3.push {cls:=.type "tuple",data:=.seq #[x,y]}).get? c=some o:=λc o e=>Heap.get?_push_of_some _ e
 have new:ybj (h3.push {cls:=.type "tuple",data:=.seq #[x,y]}) s.heap.objs.size x y:=by
  have:ybj (h3.push {cls:=.type "tuple",data:=.seq #[x,y]}) h3.objs.size x y:=Heap.get?_push_size _ rfl
  rw[sz]at this
  exact this
 refine yac ⟨_,rfl,?_⟩
 show Q (yae h3.objs.size) _
 rw[sz]
 exact fin x y _ tk3 px py (up _ _ zz3) (D1.frame _ _ _ v1 λb hb o e=>up b o e) (D2.frame _ _ _ u2 λb hb o e=>up b o e) new λc o c1 c2 c3 e=>up c o (b3.extBut _ _ c3 (b2.extBut _ _ c2 (b1.extBut _ _ c1 e)))
theorem qeG (hh:A.handled=none) (D1:Draws prog w A i1 fp1 n1 P1 S1) (D2:Draws prog w A i2 fp2 n2 P2 S2) (ap:ZAp z TI TO i1 i2 fp1 fp2) {a:Nat} {b:Bool} {o:Obj} (zz:vK s.heap z TI TO a b) (ho:s.heap.get? a=some o) (zI:ybj s.heap TI (.ref i1) (.ref i2))
  (t1:S1 k s.heap) (t2:S2 k s.heap) (hk:k=min n1 n2) {Q:Fin->yab->Prop}
  (fin:∀h' tk e,(∀c o,c≠z->c≠i1->c≠i2->s.heap.get? c=some o->h'.get? c=some o)->(∃o,h'.get? e=some o/\o.cls=.type "StopIteration")->E (.ref e) {s with heap:=h',toks:=tk}) :
  wpAny (model prog w) A (yba.«zip.__next__» ⟨[.ref z],[]⟩) Q E s:=by
 show wpAny (model prog w) A (field (yae z) 2 >>= _) _ _ _
 refine yaa (yaD zz rfl (x:=ybb false) rfl ?_)
 show wpAny (model prog w) A (field (yae z) 3 >>= _) _ _ _
 refine yaa (yaD zz rfl (x:=yae TI) rfl (yaa (ya8 zI rfl ?_)))
 show wpAny (model prog w) A (yaE (yae z) >>= _) _ _ _
 refine yaa (qcP zz ho λh1 zz1 b1=>?_)
 simp only[yaO,if_false]
 refine yaa ?_
 simp only[<-yfp,ycr,ydk]
 refine yaa (yaa (yaT ?_))
 show wpAny (model prog w) A (yaA (yae i1) >>= _) _ _ _
 have t1':S1 k h1:=D1.frame _ _ _ t1 (zb b1 ap.z1)
 by_cases h12:n1<=n2
 ·have e1:k=n1:=by rw[hk];exact Nat.min_eq_left h12
  rw[e1]at t1'
  refine yaa (D1.done _ _ _ t1' λh2 e b2 he=>?_)
  exact fin h2 s.toks e (λc o c1 c3 _ x=>b2 _ _ c3 (b1.extBut _ _ c1 x)) he
 ·have e1:k=n2:=by rw[hk];exact Nat.min_eq_right (by omega)
  refine yaa (D1.item k _ _ _ (by omega) t1' λx h2 tk2 px u1 b2=>yac (yac ?_))
  refine yaa (yaa (yaT ?_))
  show wpAny (model prog w) A (yaA (yae i2) >>= _) _ _ _
  have t2':S2 k h2:=D2.frame _ _ _ (D2.frame _ _ _ t2 (zb b1 ap.z2)) (zb b2 ap.i12)
  rw[e1]at t2'
  refine yaa (D2.done _ _ _ t2' λh4 e b4 he=>?_)
  exact fin h4 tk2 e (λc o c1 c3 c4 x=>b4 _ _ c4 (b2.extBut _ _ c3 (b1.extBut _ _ c1 x))) he
end
def jG (h:Heap) (lo:Nat) (ch:List Addr) (u v acc:Array Value) (n:Nat):Prop :=
 acc.size=n/\(∀(i:Nat)(x y:Value),i<n->u[i]? = some x->v[i]? = some y->∃p:Addr,acc[i]? = some (yae p)/\ybj h p x y/\lo<=p/\p ∉ ch)/\∀(i j:Nat)(p:Addr),acc[i]? = some (yae p)->acc[j]? = some (yae p)->i=j
theorem jG.keep {h h':Heap} {lo:Nat} {ch:List Addr} {u v acc:Array Value} {n:Nat} (P:jG h lo ch u v acc n) (k:∀c o,c ∉ ch->h.get? c=some o->h'.get? c=some o):jG h' lo ch u v acc n :=
 ⟨P.1,λi x y hi h1 h2=>by
  obtain⟨p,e1,e2,e3,e4⟩:=P.2.1 i x y hi h1 h2
  exact⟨p,e1,k p _ e4 e2,e3,e4⟩,P.2.2⟩
theorem jG.push {h:Heap} {lo:Nat} {ch:List Addr} {u v acc:Array Value} {n:Nat} {x y:Value} {p:Addr} (P:jG h lo ch u v acc n) (hx:u[n]? = some x) (hy:v[n]? = some y) (hp:ybj h p x y) (hlo:lo<=p) (hc:p ∉ ch) (hnew:∀i:Nat,acc[i]? ≠ some (yae p)):jG h lo ch u v (acc.push (.ref p)) (n+1):=by
 refine⟨by rw[yem,P.1],λi x' y' hi h1 h2=>?_,λi j q h1 h2=>?_⟩
 rotate_left
 ·rw [Array.getElem?_push]at h1 h2
  split at h1<;>split at h2
  ·omega
  ·cases h1
   exact absurd h2 (hnew j)
  ·cases h2
   exact absurd h1 (hnew i)
  ·exact P.2.2 i j q h1 h2
 by_cases e:i=n
 ·subst e
  rw[hx]at h1
  rw[hy]at h2
  cases h1
  cases h2
  refine⟨p,?_,hp,hlo,hc⟩
  rw[<-P.1]
  simp
 ·obtain⟨q,e1,e2,e3,e4⟩:=P.2.1 i x' y' (by omega) h1 h2
  refine⟨q,?_,e2,e3,e4⟩
  rw[Array.getElem?_push,if_neg (by rw[P.1];exact e)]
  exact e1
def LZ (z TI TO i1 i2 a1 a2 S:Addr) (u v:Array Value) (k:Nat) (h:Heap):Prop :=
 ((IsZip h z TI TO .none/\∃p q,ybj h TO p q)\/∃(a:Nat)(b:Bool)(o o':Obj),vK h z TI TO a b/\h.get? a=some o/\h.get? TO=some o'/\(a:Addr) ∉ [z,TO,i1,i2,S])/\ybj h TI (.ref i1) (.ref i2)/\(h.IsTupleIter i1 a1 k/\h.IsTuple a1 u)/\(h.IsTupleIter i2 a2 k/\h.IsTuple a2 v)
section
variable{prog:yaj}{w:World}{A:yam}{s:yab}{R:yds->yab->Prop}{z TI TO i1 i2 a1 a2 S:Addr}{u v:Array Value}
theorem LZ.keep {k:Nat} {h h':Heap} (L:LZ z TI TO i1 i2 a1 a2 S u v k h) (n1:S≠z) (n2:S≠TO) (n3:S≠TI) (n4:S≠i1) (n5:S≠i2) (n6:S≠a1) (n7:S≠a2) (kp:∀c o,c≠S->h.get? c=some o->h'.get? c=some o):LZ z TI TO i1 i2 a1 a2 S u v k h':=by
 obtain⟨f,q1,⟨q2,o2,g2,r2⟩,⟨q3,o3,g3,r3⟩⟩:=L
 refine⟨?_,kp _ _ n3.symm q1,⟨q2.at λo e=>kp _ o n4.symm e,o2,kp _ _ n6.symm g2,r2⟩,⟨q3.at λo e=>kp _ o n5.symm e,o3,kp _ _ n7.symm g3,r3⟩⟩
 rcases f with⟨f1,p,q,f2⟩|⟨a,b,o,o',f1,f2,f4,f3⟩
 ·exact .inl ⟨kp _ _ n1.symm f1,p,q,kp _ _ n2.symm f2⟩
 ·refine .inr ⟨a,b,o,o',kp _ _ n1.symm f1,kp _ _ (λe=>f3 ?_) f2,kp _ _ n2.symm f4,f3⟩
  rw[e]
  simp
theorem qiC {E:Value->yab->Prop} (hh:A.in1.handled=none) (ap:ZAp z TI TO i1 i2 [i1,a1] [i2,a2]) (m1:a1≠i1) (m2:a2≠i2) {k:Nat} (L:LZ z TI TO i1 i2 a1 a2 S u v k s.heap) (l1:k<u.size) (l2:k<v.size) (hS:∃o,s.heap.get? S=some o) (sa1:a1 ∉ [z,TO,i1,i2]) (sa2:a2 ∉ [z,TO,i1,i2]) {Q:Option Value->yab->Prop}
  (fin:∀x y h' tk,u[k]? = some x->v[k]? = some y->LZ z TI TO i1 i2 a1 a2 S u v (k+1) h'->ybj h' s.heap.objs.size x y->(∀c o,c ∉ [z,TO,i1,i2]->s.heap.get? c=some o->h'.get? c=some o)->(s.heap.objs.size:Addr) ∉ [z,TO,i1,i2,S]->Q (some (.ref s.heap.objs.size)) {s with heap:=h',toks:=tk}) :
  wpAny (model prog w) A (ybk (.ref z)) Q E s:=by
 obtain⟨f,q1,q2,q3⟩:=L
 have D1:=u7 (prog:=prog) (w:=w) hh i1 a1 m1 u
 have D2:=u7 (prog:=prog) (w:=w) hh i2 a2 m2 v
 have hT:s.TypeIs (.ref z) "zip":=by
  rcases f with⟨f1,_⟩|⟨a,b,o,o',f1,_⟩
  ·exact⟨_,f1,rfl⟩
  ·exact⟨_,f1,rfl⟩
 have lt:∀c∈[z,TO,i1,i2,S],c≠s.heap.objs.size:=λc hc=>by
  have hz:∃o,s.heap.get? c=some o:=by
   simp only[yav,nN_,or_false]at hc
   obtain⟨⟨o4,g4,_⟩,_⟩:=q2
   obtain⟨⟨o5,g5,_⟩,_⟩:=q3
   rcases hc with rfl|rfl|rfl|rfl|rfl
   ·obtain⟨o,e,_⟩:=hT
    exact⟨o,e⟩
   ·rcases f with⟨_,p,q,f2⟩|⟨_,_,_,o',_,_,f4,_⟩
    ·exact⟨_,f2⟩
    ·exact⟨_,f4⟩
   ·exact⟨_,g4⟩
   ·exact⟨_,g5⟩
   ·exact hS
  obtain⟨o,e⟩:=hz
  exact yar (yaf e)
 unfold ybk
 refine yaa (ybY (wpAny_callSpecial?_slot (name:=ybo "__next__") hT ydb (yaR ydb hT F.entry_zip_next ?_ (yfO _))))
 rcases f with⟨f1,p,q,f2⟩|⟨a,b,o,o',f1,f2,f4,f3⟩
 ·refine qkh D1 D2 ap f1 q1 f2 q2 q3 l1 l2 λx y h' tk px py zz zO u1 u2 new kp=>yac ?_
  have hsz:s.heap.objs.size<h'.objs.size:=yaf new
  refine fin x y h' tk px py ⟨.inr ⟨s.heap.objs.size,false,_,_,zz,new,zO,λhm=>lt _ hm rfl⟩,kp _ _ ap.zTI.symm ap.IO ap.Ii1 ap.Ii2 q1,u1,u2⟩ new (λc o hc e=>?_) (λhm=>lt _ hm rfl)
  simp only[yav,nN_,or_false,not_or]at hc
  exact kp c o hc.1 hc.2.1 hc.2.2.1 hc.2.2.2 e
 ·refine qiB D1 D2 ap f1 f2 q1 q2 q3 l1 l2 λx y h' tk px py zz u1 u2 new kp=>yac ?_
  have hsz:s.heap.objs.size<h'.objs.size:=yaf new
  have f3':=f3
  simp only[yav,nN_,or_false,not_or]at f3'
  refine fin x y h' tk px py ⟨.inr ⟨a,true,o,o',zz,kp _ _ f3'.1 f3'.2.2.1 f3'.2.2.2.1 f2,kp _ _ ap.zTO.symm ap.Oi1 ap.Oi2 f4,f3⟩,kp _ _ ap.zTI.symm ap.Ii1 ap.Ii2 q1,u1,u2⟩ new (λc o hc e=>?_) (λhm=>lt _ hm rfl)
  simp only[yav,nN_,or_false,not_or]at hc
  exact kp c o hc.1 hc.2.2.1 hc.2.2.2 e
theorem qiD {E:Value->yab->Prop} (hh:A.in1.handled=none) (ap:ZAp z TI TO i1 i2 [i1,a1] [i2,a2]) (m1:a1≠i1) (m2:a2≠i2) {k:Nat} (L:LZ z TI TO i1 i2 a1 a2 S u v k s.heap) (hk:k=min u.size v.size) {Q:Option Value->yab->Prop}
  (fin:∀h' tk,(∀c o,c ∉ [z,TO,i1,i2]->s.heap.get? c=some o->h'.get? c=some o)->Q none {s with heap:=h',toks:=tk}) :
  wpAny (model prog w) A (ybk (.ref z)) Q E s:=by
 obtain⟨f,q1,q2,q3⟩:=L
 have D1:=u7 (prog:=prog) (w:=w) hh i1 a1 m1 u
 have D2:=u7 (prog:=prog) (w:=w) hh i2 a2 m2 v
 have hT:s.TypeIs (.ref z) "zip":=by
  rcases f with⟨f1,_⟩|⟨a,b,o,o',f1,_⟩
  ·exact⟨_,f1,rfl⟩
  ·exact⟨_,f1,rfl⟩
 unfold ybk
 refine yaa (ybY (wpAny_callSpecial?_slot (name:=ybo "__next__") hT ydb (yaR ydb hT F.entry_zip_next ?_ (yfO _))))
 rcases f with⟨f1,p,q,f2⟩|⟨a,b,o,o',f1,f2,f4,f3⟩
 ·refine qfP hh D1 D2 ap f1 q1 f2 q2 q3 hk λh' tk e kp he=>?_
  obtain⟨o,ho,hcl⟩:=he
  refine yaa (ybU (T:="StopIteration") (b:=true) ⟨o,ho,hcl⟩ ycC (yac (fin h' tk λc o hc e=>?_)))
  simp only[yav,nN_,or_false,not_or]at hc
  exact kp c o hc.1 hc.2.1 hc.2.2.1 hc.2.2.2 e
 ·refine qeG hh D1 D2 ap f1 f2 q1 q2 q3 hk λh' tk e kp he=>?_
  obtain⟨o,ho,hcl⟩:=he
  refine yaa (ybU (T:="StopIteration") (b:=true) ⟨o,ho,hcl⟩ ycC (yac (fin h' tk λc o hc e=>?_)))
  simp only[yav,nN_,or_false,not_or]at hc
  exact kp c o hc.1 hc.2.2.1 hc.2.2.2 e
theorem qiE (hh:A.handled=none) (ap:ZAp z TI TO i1 i2 [i1,a1] [i2,a2]) (m1:a1≠i1) (m2:a2≠i2) (sa1:a1 ∉ [z,TO,i1,i2]) (sa2:a2 ∉ [z,TO,i1,i2]) (hS:S ∉ [z,TI,TO,i1,i2,a1,a2]) (lo:Nat) (hmin:min u.size v.size<=1000) (res:Value) :
  ∀(m k:Nat)(s:yab)(acc:Array Value)(c:Nat),m=min u.size v.size-k->k<=min u.size v.size->lo<=s.heap.objs.size->LZ z TI TO i1 i2 a1 a2 S u v k s.heap->jG s.heap lo [z,TO,i1,i2,S] u v acc k->s.heap.get? S=some {cls:=.type "list",dict:=none,data:=.seq acc c,slots := #[]} ->
  (∀h' tk acc' c',(∀b o,b ∉ [z,TO,i1,i2,S]->s.heap.get? b=some o->h'.get? b=some o)->h'.get? S=some {cls:=.type "list",dict:=none,data:=.seq acc' c',slots := #[]}->jG h' lo [z,TO,i1,i2,S] u v acc' (min u.size v.size)->R (.ok (.ret res)) {s with heap:=h',toks:=tk}) ->
  ybz (model prog w) A (.builtin "list.extend.loop" ⟨[.ref S,.ref z,res],[]⟩) R s:=by
 have hS':=hS
 simp only[yav,nN_,or_false,not_or]at hS'
 have cut:∀c,c ∉ [z,TO,i1,i2,S]->c ∉ [z,TO,i1,i2]:=λc hc h=>hc (by
  simp only[yav,nN_,or_false]at h
  rcases h with h|h|h|h<;>rw[h]<;>simp)
 have sS:S ∉ [z,TO,i1,i2]:=by
  simp only[yav,nN_,or_false,not_or]
  exact⟨hS'.1,hS'.2.2.1,hS'.2.2.2.1,hS'.2.2.2.2.1⟩
 intro m
 induction m with
 |zero=>
  intro k s acc c hm hk hlo L P hs fin
  refine ybg ye4 ?_
  rw[ybc ybW _]
  show wpAny (model prog w) A.in1 (ybk (yae z) >>= _) _ _ s
  refine yaa (qiD (A:=A.in1) hh ap m1 m2 L (by omega) λh' tk kp=>yac ?_)
  have ek:k=min u.size v.size:=by omega
  rw[ek]at P
  exact fin h' tk acc c (λb o hb e=>kp b o (cut b hb) e) (kp S _ sS hs) (P.keep λb o hb e=>kp b o (cut b hb) e)
 | succ m ih=>
  intro k s acc c hm hk hlo L P hs fin
  refine ybg ye4 ?_
  rw[ybc ybW _]
  show wpAny (model prog w) A.in1 (ybk (yae z) >>= _) _ _ s
  refine yaa (qiC (A:=A.in1) hh ap m1 m2 L (by omega) (by omega) ⟨_,hs⟩ sa1 sa2 λx y h' tk px py L' new kp nin=>?_)
  have hs':=kp S _ sS hs
  show wpAny (model prog w) A.in1 (updateSeq S (·.push (yae s.heap.objs.size)) >>= _) _ _ _
  refine yaa ?_
  have P':jG h' lo [z,TO,i1,i2,S] u v (acc.push (.ref s.heap.objs.size)) (k+1):=jG.push (P.keep λb o hb e=>kp b o (cut b hb) e) px py new hlo nin λi hi=>by
   have hik:i<k:=by
    have:=(Array.getElem?_eq_some_iff.mp hi).1
    rw[P.1]at this
    exact this
   obtain⟨p,e1,e2,_⟩:=P.2.1 i u[i] v[i] hik (Array.getElem?_eq_getElem (by omega)) (Array.getElem?_eq_getElem (by omega))
   rw[hi]at e1
   cases e1
   exact ybp _ (yaf e2)
  have oth:∀b o,b≠S->h'.get? b=some o->(h'.update S (yaz (·.push (yae s.heap.objs.size)))).get? b=some o:=λb o hb e=>(Heap.get?_update_other _ _ (yaZ hb)).trans e
  have nS:∀b,b ∉ [z,TO,i1,i2,S]->b≠S:=λb hb e=>hb (by rw[e];simp)
  refine yen hs' rfl (yac ⟨yck ybW _,ih (k+1) _ (acc.push (.ref s.heap.objs.size)) _ (by omega) (by omega) ?_ (L'.keep hS'.1 hS'.2.2.1 hS'.2.1 hS'.2.2.2.1 hS'.2.2.2.2.1 hS'.2.2.2.2.2.1 hS'.2.2.2.2.2.2 oth) (P'.keep λb o hb e=>oth b o (nS b hb) e) (Heap.get?_update_self _ hs' rfl) λh'' tk' acc' c' kp2 hs'' P''=>?_⟩) (by have:=P.1;rw[yaX];omega) (by show(acc.push _).size<=yas+1;rw[yem,yaX];have:=P.1;omega)
  ·show lo<=(h'.update S _).objs.size
   rw[ycV]
   have:=yaf new
   exact yaF hlo (ybH this)
  ·exact fin h'' tk' acc' c' (λb o hb e=>kp2 b o hb (oth b o (nS b hb) (kp b o (cut b hb) e))) hs'' P''
end
end L2.Sk
set_option maxHeartbeats 1000000
namespace L2.Sk
open PySem PySem.Spec PyProof.Rows
theorem qdu:yf8 (.type "zip") "__len__"=pure none:=by
 rw[ydc,ycb]
 kernel_rfl
theorem qb3:yf8 (.type "zip") "__length_hint__"=pure none:=by
 rw[ydc,ycb]
 kernel_rfl
section
variable{prog:yaj}{w:World}{A:yam}{s:yab}{R:yds->yab->Prop}{z TI TO i1 i2 a1 a2 S:Addr}{u v:Array Value}
theorem ql7 (hh:A.handled=none) (ap:ZAp z TI TO i1 i2 [i1,a1] [i2,a2]) (m1:a1≠i1) (m2:a2≠i2) (sa1:a1 ∉ [z,TO,i1,i2]) (sa2:a2 ∉ [z,TO,i1,i2]) (hS:S ∉ [z,TI,TO,i1,i2,a1,a2]) (hmin:min u.size v.size<=1000)
  (zz:IsZip s.heap z TI TO .none) (zO:∃p q,ybj s.heap TO p q) (zI:ybj s.heap TI (.ref i1) (.ref i2)) (t1:s.heap.IsTupleIter i1 a1 0/\s.heap.IsTuple a1 u) (t2:s.heap.IsTupleIter i2 a2 0/\s.heap.IsTuple a2 v)
  (lo:Nat) (hlo:lo<=s.heap.objs.size) (hs:s.heap.get? S=some {cls:=.type "list",data:=.seq #[]})
  (fin:∀h' tk acc' c',(∀b o,b ∉ [z,TO,i1,i2,S]->s.heap.get? b=some o->h'.get? b=some o)->h'.get? S=some {cls:=.type "list",dict:=none,data:=.seq acc' c',slots := #[]}->jG h' lo [z,TO,i1,i2,S] u v acc' (min u.size v.size)->R (.ok (.ret .none)) {s with heap:=h',toks:=tk}) :
  wpAny (model prog w) A.in1 (yba.«list.__init__» ⟨[.ref S,.ref z],[]⟩)
   (λr s'=>match r with|.done f=>R (.ok f) s'|.again c'=>c'.quiet=true/\ybz (model prog w) A c' R s') (λe s'=>R (.error e) s') s:=by
 have hS':=hS
 simp only[yav,nN_,or_false,not_or]at hS'
 have hT:s.TypeIs (.ref z) "zip":=⟨_,zz,rfl⟩
 show wpAny (model prog w) A.in1 (Builtin.List.listItems (yae S) >>= λold=>yee (yae S) (λ_ => #[]) >>= λ_=>letGo old.toList.reverse >>= λ_=>ybJ (yae S) (yae z) yap) _ _ s
 refine yaa (listItems_at hs rfl (yaa (ye0 hs rfl ?_ (ya5 _) (ya5 _))))
 have hs2:=Heap.get?_update_self (yaz λ_=>(#[]:Array Value)) hs rfl
 have o2:∀b o,b≠S->s.heap.get? b=some o->(s.heap.update S (yaz λ_=>(#[]:Array Value))).get? b=some o:=λb o hb e=>(Heap.get?_update_other _ _ (yaZ hb)).trans e
 refine yaa (yew ?_)
 generalize hm:s.heap.update S (yaz λ_=>(#[]:Array Value))=m at hs2 o2
 have szm:m.objs.size=s.heap.objs.size:=by rw[<-hm,ycV]
 unfold ybJ
 have hT2:({s with heap:=m}:yab).TypeIs (.ref z) "zip":=⟨_,o2 _ _ (yaZ hS'.1) zz,rfl⟩
 refine yaa (yfq hT2 ?_)
 have e1:ybV (yae S) (yae z)=false:=by simp[ybV,hS'.1]
 have e2:(yaP "zip"==yaP "list")=false:=by decide
 have e3:(yaP "zip"==yaP "tuple")=false:=by decide
 simp only[e1,e2,e3,Bool.or_false,yaO,if_false]
 have zz2:IsZip m z TI TO .none:=o2 _ _ (yaZ hS'.1) zz
 refine yaa (wpAny_pyIter_zip zz2 (yaa (yaT ?_)))
 unfold ydw
 refine yaa (yeo hT2 qdu ?_)
 show wpAny (model prog w) A.in1 (specialOf (yae z) (ybo "__length_hint__") >>= _) _ _ _
 refine yaa (yeo hT2 qb3 (yac ?_))
 show wpAny (model prog w) A.in1 (rule "list.extend.makes-room" >>= λ_=>yex (yae S) >>= λ_=>again (.builtin "list.extend.loop" ⟨[yae S,yae z,yap],[]⟩)) _ _ _
 refine yaa (yb0 (yaa ?_))
 show wpAny (model prog w) A.in1 (updateSeq S (·.push yap) >>= λ_=>updateSeq S (·.pop)) _ _ _
 refine yaa (yen hs2 rfl ?_)
 have hs3:=Heap.get?_update_self (yaz (·.push yap)) hs2 rfl
 refine yen (hz:=by seq_fits) hs3 rfl ?_
 have hs4:=Heap.get?_update_self (yaz (·.pop)) hs3 rfl
 have o4:∀b o,b≠S->s.heap.get? b=some o->((m.update S (yaz (·.push yap))).update S (yaz (·.pop))).get? b=some o:=λb o hb e=>(Heap.get?_update_other _ _ (yaZ hb)).trans ((Heap.get?_update_other _ _ (yaZ hb)).trans (o2 b o hb e))
 have sz4:((m.update S (yaz (·.push yap))).update S (yaz (·.pop))).objs.size=s.heap.objs.size:=by rw[ycV,ycV,szm]
 have L:LZ z TI TO i1 i2 a1 a2 S u v 0 ((m.update S (yaz (·.push yap))).update S (yaz (·.pop))):=LZ.keep (h:=s.heap) ⟨.inl ⟨zz,zO⟩,zI,t1,t2⟩ hS'.1 hS'.2.2.1 hS'.2.1 hS'.2.2.2.1 hS'.2.2.2.2.1 hS'.2.2.2.2.2.1 hS'.2.2.2.2.2.2 o4
 have nS:∀b,b ∉ [z,TO,i1,i2,S]->b≠S:=λb hb e=>hb (by rw[e];simp)
 exact yac ⟨yck ybW _,qiE hh ap m1 m2 sa1 sa2 hS lo hmin .none _ 0 _ _ _ rfl (ya5 _) (by show lo<=_;rw[sz4];exact hlo) L ⟨rfl,λi x y hi=>absurd hi (ycs _),λi j p h=>by simp at h⟩ hs4 λh' tk acc' c' kp hs' P=>fin h' tk acc' c' (λb o hb e=>kp b o hb (o4 b o (nS b hb) e)) hs' P⟩
end
section
variable{prog:yaj}{w:World}{A:yam}{s:yab}{E:Value->yab->Prop}{z TI TO i1 i2 a1 a2:Addr}{u v:Array Value}
end
end L2.Sk
set_option maxHeartbeats 1000000
namespace L2.Sk
open PySem PySem.Spec PyProof.Rows
section
variable{X:Cx}{H0 H:Hp}{s0 s:yab}{T:Addr}{o:HO}
theorem ss_lay (z:SS X H0 s0 H s) (ht:s0.heap.get? T=none) (hn:H T=none) (new:jj X.prog X.w (upd H T o) s.heap T o):SS X H0 s0 (upd H T o) s:=by
 have ne':∀c u,H c=some u->c≠T:=λc u q z=>by rw[z,hn]at q;cases q
 refine⟨z.os,z.bare,qbW z.un ht hn,λb u e=>?_,λb o e=>qf2 hn b o (z.same b o e)⟩
 by_cases hb:b=T
 ·subst hb
  rw[qk]at e
  cases e
  exact new
 ·rw[qh hb]at e
  exact(z.hok b u e).stay (λ_ _ _ q=>q) (λc q=>by rw[qh (ne' c _ q)];exact q) (λc xs q=>by rw[qh (ne' c _ q)];exact q) λc ob y q=>by rw[qh (ne' c _ q)];exact q
end
section
variable{X:Cx}{a b:Expr}{pos:Pos}
end
end L2.Sk
set_option maxHeartbeats 1000000
namespace L2.Sk
open PySem PySem.Spec PyProof.Rows
end L2.Sk
set_option maxHeartbeats 1000000
namespace L2.Sk
open PySem PySem.Spec PyProof.Rows
section
variable{X:Cx}
end
def qnT:D->D->Option D
 |.tup ds,.int k=>if ds.isEmpty then none else if k=0 then some (.tup [])else if k=1 then some (.tup ds)else z7 (.tup ds) (.int k)
 |x,y=>z7 x y
end L2.Sk
set_option maxHeartbeats 1000000
namespace L2.Sk
open PySem PySem.Spec PyProof.Rows
section
variable{X:Cx}{pins:List (Addr×Obj)}{σ:St}{H:Hp}{s:yab}{A:Addr->Prop}
end
def qiF(d:D):Bool:=(zB d).showable&&decide ((zB d).shown.length<=yas)&&decide ((zB d).depth<=50)
section
variable{X:Cx}
end
def qnx:List D->Option D
 | [d]=>if qiF d then some (.str (zB d).shown)else none
 |_=>none
end L2.Sk
namespace L2
open PySem PySem.Spec PyProof.Rows
section
variable{κ:Type}[DecidableEq κ]
def qkQ(kvs:List (κ×V))(k:κ):List (κ×V):=kvs.filter λkv=>decide (kv.1≠k)
theorem qjj.getD {o:Option V} {u:Option Value} {d:V} {d':Value} (r:qjj o u) (rd:zJ d d'):zJ (o.getD d) (u.getD d'):=by
 cases o with
 |none=>cases u with
  |none=>exact rd
  |some _=>exact(show False from r).elim
 |some _=>cases u with
  |none=>exact(show False from r).elim
  |some _=>exact r
theorem KV.any {kvs:List (κ×V)} {vs:List (κ×Value)} (r:KV kvs vs) (k:κ):(kvs.any λkv=>decide (kv.1=k))=vs.any λkv=>decide (kv.1=k):=by
 unfold KV at r
 induction r with
 |nil=>rfl
 |cons h t ih=>rw[ydD,ydD,ih,h.1]
theorem KV.drop {kvs:List (κ×V)} {vs:List (κ×Value)} (r:KV kvs vs) (k:κ):KV (qkQ kvs k) (without vs k):=by
 unfold KV at r |-
 unfold qkQ without
 induction r with
 |nil=>exact .nil
 | @cons p q ps qs h t ih=>
  obtain⟨h1,h2⟩:=h
  rw[ft_,ft_]
  by_cases e:p.1=k
  ·have a:¬decide (p.1≠k)=true:=by simp[e]
   have b:¬decide (q.1≠k)=true:=by simp[h1.symm.trans e]
   rw[if_neg a,if_neg b];exact ih
  ·have e':¬q.1=k:=λz=>e (h1.trans z)
   have a:decide (p.1≠k)=true:=by simp[e]
   have b:decide (q.1≠k)=true:=by simp[e']
   rw[if_pos a,if_pos b];exact .cons ⟨h1,h2⟩ ih
theorem KV.length{kvs:List (κ×V)}{vs:List (κ×Value)}(r:KV kvs vs):kvs.length=vs.length:=Paired.length r
end
section
variable{P:yaj}{w:World}{H:Hp}{h:Heap}{a:Addr}
end
section
variable{X:Cx}{pins:List (Addr×Obj)}{σ:St}{H:Hp}{s:yab}{a:Addr}{y v:V}{u r:Value}{o:Option V}{A:yam}{E:Value->yab->Prop}
end
section
variable{X:Cx}{pins:List (Addr×Obj)}{σ:St}{H:Hp}{s:yab}{a:Addr}{kvs:List (Key×V)}{k:Key}{u:Value}{A:yam}{E:Value->yab->Prop}
end
section
variable{X:Cx}{o i e value:Expr}{pos pos' tpos:Pos}{td ty tv:TE}
end
section
variable{X:Cx}{pos:Pos}
end
structure M1 (X:Cx) (o:Expr) (m:Str) (apos:Pos) (e:Expr) (cpos:Pos):Prop where
 base:ydE o m X.env (eval o X.env)=eval o X.env
 few:((yaI cpos (yad [e] X.env)).all (λx => !x.1)&&(yfZ cpos (yes [] X.env)).all (λx=>x.1.isSome)
  && decide (([e]:List Expr).length+([]:List ycY).length+(if([]:List ycY).isEmpty then 0 else 1)<30))=true
 line:(apos.endLine==cpos.line)=true
 trees:yaI cpos (yad [e] X.env)=[(false,eval e X.env)]
structure M2 (X:Cx) (o:Expr) (m:Str) (apos:Pos) (e f:Expr) (cpos:Pos):Prop where
 base:ydE o m X.env (eval o X.env)=eval o X.env
 few:((yaI cpos (yad [e,f] X.env)).all (λx => !x.1)&&(yfZ cpos (yes [] X.env)).all (λx=>x.1.isSome)
  && decide (([e,f]:List Expr).length+([]:List ycY).length+(if([]:List ycY).isEmpty then 0 else 1)<30))=true
 line:(apos.endLine==cpos.line)=true
 trees:yaI cpos (yad [e,f] X.env)=[(false,eval e X.env),(false,eval f X.env)]
section
variable{X:Cx}{pins:List (Addr×Obj)}{σ:St}{H:Hp}{s:yab}{a:Addr}{y d:V}{u r:Value}{o:Option V}{A:yam}{E:Value->yab->Prop}
end
section
variable{X:Cx}{o e f:Expr}{apos cpos:Pos}{td ty tx:TE}
end
section
variable{X:Cx}{pins:List (Addr×Obj)}{σ:St}{H:Hp}{s:yab}{a:Addr}{kvs:List (Key×V)}{A:yam}{E:Value->yab->Prop}
end
end L2
namespace L2
open PySem PySem.Spec PyProof.Rows
section
variable{X:Cx}{pins:List (Addr×Obj)}{σ:St}{H:Hp}{s:yab}{a:Addr}{kvs:List (Key×V)}{o:Obj}{u u':HO}
end
section
variable{X:Cx}{tg:Expr}
end
end L2
namespace L2.Sk
open PySem PySem.Spec PyProof.Rows
abbrev Kv:=List (Key×Int)
def toV(kvs:Kv):List (Key×V):=kvs.map λp=>(p.1,V.int p.2)
def qlk(kvs:Kv)(k:Int):Option Int:=(kvs.find? λp=>decide (p.1=ycm k)).map (·.2)
def qny(kvs:Kv)(k v:Int):Kv:=if(kvs.any λp=>decide (p.1=ycm k))=true then kvs.map (λp=>if p.1=ycm k then(p.1,v)else p)else kvs++[(ycm k,v)]
section
variable{X:Cx}{c:Fc}{a b e:Expr}{pos:Pos}
def qnz:D->D->Option D
 |.dic kvs,.int k=>(qlk kvs k).map D.int
 |_,_=>none
end
def gin (kvs0:Kv) (e1:M D) (jP jF jL jT jH:Nat):List D->Env->Kv->Option (Env×Kv)
 | [],Z,kvs=>some (Z,kvs)
 | d :: ds,Z,kvs=>match d with
  | .tup [x,y]=>(match e1 ((Z.set jF (some x)).set jL (some y)) with
   | .ok (.int t,Z2)=>(match (Z2.set jT (some (.int t)))[jP]?,(Z2.set jT (some (.int t)))[jL]? with
    | some (some (.int k)),some (some (.int l))=>(match qlk kvs0 k with
     | some v=>(match ((Z2.set jT (some (.int t))).set jH (some (.int (v+l))))[jT]?,((Z2.set jT (some (.int t))).set jH (some (.int (v+l))))[jH]? with
      | some (some (.int t')),some (some (.int h))=>if kvs.length<1000 then
        gin kvs0 e1 jP jF jL jT jH ds ((Z2.set jT (some (.int t))).set jH (some (.int (v+l)))) (qny kvs t' (if h<(qlk kvs t').getD h then h else(qlk kvs t').getD h))
       else none
      |_,_=>none)
     |none=>none)
    |_,_=>none)
   |_=>none)
  |_=>none
def qm1 (kvs0:Kv) (it:M (List D)) (e1:M D) (jP jF jL jT jH:Nat):List Key->Env->Kv->Option (Env×Kv)
 | [],Z,kvs=>some (Z,kvs)
 | k :: ks,Z,kvs=>match k with
  | .inl n=>(match it (Z.set jP (some (.int n))) with
   |.ok (ds,Z2)=>(match gin kvs0 e1 jP jF jL jT jH ds Z2 kvs with
    |some (Z3,kvs3)=>qm1 kvs0 it e1 jP jF jL jT jH ks Z3 kvs3
    |none=>none)
   |_=>none)
  |.inr _=>none
def qnA (Z:Env):Bool:=Z.all λo=>match o with
 |some d=>imm d
 |none=>true
def qnB (i iF:Nat) (it:M (List D)) (e1:M D) (jP jF jL jT jH:Nat):MS:=λZ=>match Z[iF]? with
 |some (some (.dic kvs0))=>if(qnA ((Z.set i none).set iF none)&&decide (i<Z.length))=true then(match qm1 kvs0 it e1 jP jF jL jT jH (kvs0.map (·.1)) ((Z.set i none).set iF none) kvs0 with
  |some (Z',kvs') => .ok (.nx ((Z'.set i (some (.dic kvs'))).set iF (some (.dic kvs'))))
  |none => .bad)else .bad
 |_ => .bad
abbrev cg(a:Addr)(Hf:Hp):Fc:=⟨[],[],λx=>Hf x=none,Hf,λx=>x=a,λ_ _=>False,λ_=>none⟩
structure RP (K:Fr0) (i iF:Nat) (a b:Addr) (Hf:Hp) (Z:Env) (kvs:Kv) (σ:St) (H:Hp):Prop where
 rep:Rep K (cg a Hf) Z σ H
 si:σ[i]? = some (some (.ref a))
 sF:σ[iF]? = some (some (.ref b))
 ha:H a=some (.dK (toV kvs))
def GA(a:Addr)(H H':Hp):Prop:=∀x o,x≠a->H x=some o->H' x=some o
theorem GA.trans{a:Addr}{H H1 H2:Hp}(g:GA a H H1)(k:GA a H1 H2):GA a H H2:=λx o n h=>k x o n (g x o n h)
section
variable{K:Fr0}{i iF:Nat}{a b:Addr}{Hf:Hp}{Z:Env}{kvs:Kv}{σ:St}{H H':Hp}
theorem RP.gr {Z':Env} (r:RP K i iF a b Hf Z kvs σ H) (rep:Rep K (cg a Hf) Z' σ H') (g:Gr [] σ H H'):RP K i iF a b Hf Z' kvs σ H' :=
 ⟨rep,r.si,r.sF,g.ext.at_ a _ (λ_ z=>by cases z) r.ha⟩
end
section
variable{X:Cx}{c:Fc}{i iF jP jF jL jT jH:Nat}{e1:Expr}{s1 s2 s3:Stmt}{g:M D}{a b:Addr}{Hf:Hp}{kvs0:Kv}
section
variable{K:Fr0}{Z Z':Env}{σ σ':St}{H H':Hp}{l p:Addr}{kv kv':List (Key×V)}{o:Obj}{kvs':Kv}
end
end
def qnU:List D->Option D
 | [.int i]=>if decide (i.natAbs.log2<1920)then some (.str (toString i))else none
 |_=>none
section
variable{X:Cx}{c:Fc}{e:Expr}{pos:Pos}
def qnC (i j1 j2:Nat) (f:M D):MS:=sbnd f λd Z=>match d,zc i Z,Z[j1]?,Z[j2]? with
 |.tup [d1,d2],some ds,some (some (.int n1)),some (some (.int n2))=>(match ixN ds.length n1,ixN ds.length n2 with
  |some q1,some q2=>if(imm d1&&imm d2)=true then .ok (.nx (Z.set i (some (.lst ((ds.set q1 d1).set q2 d2)))))else .bad
  |_,_ => .bad)
 |_,_,_,_ => .bad
end
section
variable{X:Cx}
end
def qnD:List D->Option D
 | [.tup ds]=>match jZ ds with
  |some (n::ns)=>some (.int (qmG (n::ns)))
  |_=>none
 |_=>none
section
variable{P:yaj}{w:World}{K:yah}{mg:Str->Option Value}{base:Heap}{k:Nat}{f:Addr}{fd:yaL}{ps:List Str}{x:Str}
end
end L2.Sk
set_option maxHeartbeats 1000000
namespace L2.St
open PySem
def qfj(xs:Array Nat):Prop:=∀i j u v:Nat,i<j->xs[i]? = some u->xs[j]? = some v->u<v
structure Cut (xs:Array Nat) (j p:Nat):Prop where
 le:p<=xs.size
 lo:∀i v,i<p->xs[i]? = some v->v<j
 hi:∀i v,p<=i->xs[i]? = some v->j<=v
theorem qeH {xs:Array Nat} (r:qfj xs) (j:Nat):∀f lo hi:Nat,hi-lo<=f->lo<=hi->hi<=xs.size->(∀i v,i<lo->xs[i]? = some v->v<j)->(∀i v,hi<=i->xs[i]? = some v->j<=v) ->
  Cut xs j (yfP xs j f lo hi)
 |0,lo,hi,hf,hl,hs,a,b=>by
  have e:lo=hi:=by omega
  subst e
  exact⟨hs,a,b⟩
 | f + 1,lo,hi,hf,hl,hs,a,b=>by
  unfold yfP
  by_cases h:lo<hi
  ·rw [if_pos h]
   have hm:(lo+hi)/2<xs.size:=by omega
   have gm:xs[(lo+hi)/2]? = some xs[(lo+hi)/2]:=Array.getElem?_eq_getElem hm
   have gd:xs.getD ((lo+hi)/2) j=xs[(lo+hi)/2]:=by rw[ycf,gm];rfl
   dsimp only
   rw[gd]
   by_cases c:xs[(lo+hi)/2]<j
   ·rw[if_pos c]
    refine qeH r j f _ _ (by omega) (by omega) hs (λi v hi' hv=>?_) b
    by_cases e:i=(lo+hi)/2
    ·subst e;rw[gm]at hv;cases hv;exact c
    ·exact Nat.lt_trans (r i _ v _ (by omega) hv gm) c
   ·rw[if_neg c]
    refine qeH r j f _ _ (by omega) (by omega) (by omega) a (λi v hi' hv=>?_)
    by_cases e:i=(lo+hi)/2
    ·subst e;rw[gm]at hv;cases hv;omega
    ·exact yaF (ych c) (ybH (r _ i _ v (by omega) gm hv))
  ·rw[if_neg h]
   have e:lo=hi:=by omega
   subst e
   exact⟨hs,a,b⟩
theorem vL {xs:Array Nat} (r:qfj xs) (j:Nat):Cut xs j (yaH xs j) :=
 qeH r j _ _ _ (by omega) (ya5 _) (yag _) (λi v h=>absurd h (ycs _)) λi v h e=>by
  rw[Array.getElem?_eq_none h]at e;cases e
theorem qdv {xs:Array Nat} (r:qfj xs):yaH xs 0=0:=by
 have c:=vL r 0
 rcases Nat.eq_zero_or_pos (yaH xs 0)with h|h
 ·exact h
 ·have hs:0<xs.size:=yau h c.le
  exact absurd (c.lo 0 _ h (Array.getElem?_eq_getElem hs)) (ycs _)
theorem qdw {xs:Array Nat} (r:qfj xs) {i v:Nat} (h:xs[i]? = some v):yaH xs (v+1)=i+1:=by
 have c:=vL r (v+1)
 have hi:i<xs.size:=by
  rcases yd9 i xs.size with z|z
  ·exact z
  ·rw[Array.getElem?_eq_none z]at h;cases h
 have h1:i<yaH xs (v+1):=by
  rcases yd9 i (yaH xs (v+1))with z|z
  ·exact z
  ·have:=c.hi i v z h;omega
 have h2:yaH xs (v+1)<=i+1:=by
  rcases yd9 (i+1) (yaH xs (v+1))with z|z
  ·have hs:i+1<xs.size:=yau z c.le
   have g:=Array.getElem?_eq_getElem hs
   have a:=c.lo _ _ z g
   have b:=r i (i+1) v _ (ycT _) h g
   omega
  ·exact z
 omega
theorem ins_get {α:Type} (xs:Array α) (p:Nat) (x:α) (h:p<=xs.size) (i:Nat):(ydP xs p x)[i]? = if i<p then xs[i]? else if i=p then some x else xs[i-1]? := by
 unfold ydP
 have e1:((xs.extract 0 p).push x).size=p+1:=by rw[yem,yfr];omega
 rw[Array.getElem?_append,e1]
 by_cases a:i<p+1
 ·rw [if_pos a,Array.getElem?_push,yfr]
  by_cases b:i=p
  ·subst b
   rw[if_pos (by omega),if_neg (ybp _),if_pos rfl]
  ·rw[if_neg (by omega),if_pos (by omega),Array.getElem?_extract,if_pos (by omega),yca]
 ·rw[if_neg a,if_neg (by omega),if_neg (by omega),Array.getElem?_extract]
  by_cases b:i-1<xs.size
  ·rw[if_pos (by omega)];congr 1;omega
  ·rw[if_neg (by omega),Array.getElem?_eq_none (by omega)]
theorem qf6 {xs:Array Nat} (r:qfj xs) {j:Nat} (hn:xs[yaH xs j]? ≠ some j):qfj (ydP xs (yaH xs j) j):=by
 have c:=vL r j
 have up:∀i v,yaH xs j<=i->xs[i]? = some v->j<v:=λi v h e=>by
  have a:=c.hi i v h e
  rcases yft a with z|z
  ·exact z
  ·subst z
   rcases yft h with y|y
   ·have hs:yaH xs j<xs.size:=by
     rcases yd9 i xs.size with q|q
     ·omega
     ·rw[Array.getElem?_eq_none q]at e;cases e
    have g:=Array.getElem?_eq_getElem hs
    have:=r _ i _ j y g e
    have:=c.hi _ _ (yag _) g
    omega
   ·rw[y]at hn;exact absurd e hn
 intro a b u v hab ha hb
 rw[ins_get _ _ _ c.le]at ha hb
 split at ha
 ·rename_i h1
  split at hb
  ·exact r a b u v hab ha hb
  ·split at hb
   ·cases hb;exact c.lo _ _ h1 ha
   ·exact Nat.lt_trans (c.lo _ _ h1 ha) (up _ _ (by omega) hb)
 ·split at ha
  ·cases ha
   rw[if_neg (by omega),if_neg (by omega)]at hb
   exact up _ _ (by omega) hb
  ·rw[if_neg (by omega),if_neg (by omega)]at hb
   exact r (a-1) (b-1) u v (by omega) ha hb
theorem qf7:qfj #[]:=λi j u v _ h=>by simp at h
def qiG(l:Bool)(t:ybO):Prop:=t.led=l/\(t.plain=true->qfj t.place)
theorem qiH {t:ybO} {j:Nat} (h:∀i,t.slot j ≠ .live i):t.place[yaH t.place j]? ≠ some j:=λe=>by
 refine h (yaH t.place j) ?_
 unfold SetTable.slot
 dsimp only
 rw[e,if_pos (beq_self_eq_true _)]
theorem qao {t:ybO} {f:Nat->Int} {h:Int}:∀(n:Nat)(p:SetTable.Probe){j:Nat}{dm:Option Nat},(∀d,p.dummy=some d->∀i,t.slot d ≠ .live i)->ydQ t f h n p=some (.empty j dm) ->
  (∀i,t.slot j ≠ .live i)/\∀d,dm=some d->∀i,t.slot d ≠ .live i
 |0,p,j,dm,hp,e=>by unfold ydQ at e;cases e
 | n + 1,p,j,dm,hp,e=>by
  unfold ydQ at e
  split at e
  ·rename_i q
   cases e
   exact⟨(λi=>by rw[q];intro z;cases z),hp⟩
  ·rename_i q
   refine qao n _ ?_ e
   intro d hd i
   have:d=p.j:=by
    unfold SetTable.advance at hd
    split at hd<;>(cases hd;rfl)
   subst this
   rw[q];intro z;cases z
  ·rename_i i q
   split at e
   ·cases e
   ·refine qao n _ ?_ e
    intro d hd
    refine hp d ?_
    unfold SetTable.advance at hd
    split at hd<;>exact hd
theorem qiI {t:ybO} {h:Int} {j:Nat} {b:Bool} (e:t.freeSlot h=some (j,b)):t.place[yaH t.place j]? ≠ some j:=by
 unfold SetTable.freeSlot at e
 split at e
 ·rename_i j' dm q
  cases e
  obtain⟨a,c⟩:=qao _ _ (λd hd=>by cases hd) q
  refine qiH ?_
  cases dm with
  |none=>exact a
  |some d=>exact c d rfl
 ·cases e
theorem yC{l:Bool}{t:ybO}(g:t.led=l)(n:Nat):qiG l (t.standIn n):=⟨g,λh=>by cases h⟩
theorem qf8 {l:Bool} {t:ybO} (g:qiG l t) (es:Array (Int×Value)) (h:Int) (x:Value):qiG l (layNew t es h x).2.1:=by
 unfold layNew
 split
 ·rename_i j b e
  dsimp only
  unfold SetTable.orStandIn
  split
  ·exact⟨g.1,λhp=>qf6 (g.2 hp) (qiI e)⟩
  ·exact yC g.1 _
 ·exact yC g.1 _
theorem qeI (o:Array (Option Nat)) (m:Nat):qfj (((yat m).filterMap λj=>(o.getD j none).map (j,·)).map (·.1)).toArray:=by
 have s:List.Sublist (((yat m).filterMap λj=>(o.getD j none).map (j,·)).map (·.1)) (yat m):=by
  have key:∀l:List Nat,List.Sublist ((l.filterMap λj=>(o.getD j none).map (j,·)).map (·.1)) l:=by
   intro l
   induction l with
   |nil=>exact .slnil
   |cons a l ih=>
    cases h:o.getD a none with
    |none=>rw[List.filterMap_cons_none (by rw[h];rfl)];exact ih.cons _
    |some b=>rw[List.filterMap_cons_some (by rw[h];rfl),mC_];exact ih.cons₂ _
  exact key _
 have p:=List.Pairwise.sublist s (List.pairwise_lt_range (n:=m))
 intro i j u v hij hu hv
 rw[List.getElem?_toArray]at hu hv
 obtain⟨h1,rfl⟩:=gI_.mp hu
 obtain⟨h2,rfl⟩:=gI_.mp hv
 exact List.pairwise_iff_getElem.mp p i j h1 h2 hij
theorem qdx {l:Bool} {t:ybO} (g:qiG l t) (es:Array (Int×Value)) (n:Nat):qiG l (yeU t es n).2.1:=by
 unfold yeU
 split
 ·rename_i t' od e
  dsimp only
  split
  ·unfold SetTable.relaid SetTable.laid at e
   cases hc:SetTable.layClean (SetTable.sizeAbove n-1) (es.map (·.1)) with
   |none=>rw[hc]at e;cases e
   |some ow=>
    rw[hc]at e
    cases e
    exact⟨g.1,λ_=>qeI ow _⟩
  ·exact yC g.1 _
 ·exact yC g.1 _
end L2.St
set_option maxHeartbeats 1000000
namespace L2.St
open PySem
def qfk(e:Int×Value):Int:=match e.2 with|.int n _=>n|_=>0
def addI(σ:List Int)(k:Int):List Int:=if k∈σ then σ else σ++[k]
def ui (prog:yaj) (w:World) (l:Bool) (h:Heap) (S:Addr) (σ:List Int):Prop :=
 ∃o es ep t,h.get? S=some o/\o.ExactSet/\o.data=.set es ep t/\yfC (ybx prog w) es.toList/\(es.toList.map qfk).Perm σ/\t.fits es.size=true/\qiG l t
section
variable{prog:yaj}{w:World}{A:yam}{E:Value->yab->Prop}{s:yab}{l:Bool}{S:Addr}{σ:List Int}{k:Int}{tk:Tok}
theorem qhj {es:List (Int×Value)} (hel:yfC (ybx prog w) es) {e:Int×Value} (he:e∈es):(ybx prog w).is k e.2=decide (qfk e=k):=by
 obtain⟨⟨k',h,_⟩,_⟩:=hel e he
 obtain⟨t,q⟩:=ydK h
 unfold qfk
 rw[q]
 show ycl k (.int k' t)=_
 by_cases z:k'=k
 ·subst z;simp[ycl]
 ·rw[decide_eq_false z]
  cases y:ycl k (.int k' t) with
  |false=>rfl
  |true=>exact absurd (Value.isInt_inj _ _ _ (show ycl k' (.int k' t)=true by simp[ycl]) y) z
theorem qb4 {es:Array (Int×Value)} (p:(es.toList.map qfk).Perm σ):es.size=σ.length:=by
 rw[<-p.length_eq,lM_,yaV]
theorem qf9 (σ:List Int) (k:Int):(addI σ k).length<=σ.length+1:=by
 unfold addI;split
 ·exact ycp _
 ·rw[lA_];exact yag _
theorem qga {o:Obj} {es:Array (Int×Value)} {ep:Nat} {t:ybO} (ho:s.heap.get? S=some o) (hex:o.ExactSet) (hd:o.data=.set es ep t) {es1:Array (Int×Value)} {t2:ybO} {σ':List Int}
  (hel:yfC (ybx prog w) es1.toList) (hp:(es1.toList.map qfk).Perm σ') (hz:es1.size<=1000) (hf:t2.fits es1.size=true) (g:qiG l t2) {gv:Bool->Sem Unit} (hg:∀(b:Bool)(sQ:yab)(Q':Unit->yab->Prop),Q' () sQ->wpAny (model prog w) A (gv b) Q' E sQ)
  {wd:Bool} {R:Option Bool->yab->Prop} (h:∀h',ya6 S s.heap h'->ui prog w l h' S σ'->R (some true) {s with heap:=h' }) :
  wpAny (model prog w) A (storeSet S es1 t2 >>= λ_=>if(!wd&&t2.tooFull)=true then(gv (yeU t2 es1 (ycc es1.size)).2.2 >>= λ_=>storeSet S (yeU t2 es1 (ycc es1.size)).1 (yeU t2 es1 (ycc es1.size)).2.1 >>= λ_=>pure (some true))else pure (some true)) R E s:=by
 have put:∀(hh:Heap)(oo:Obj)(ea:Array (Int×Value))(e0:Nat)(ta:ybO)(eb:Array (Int×Value))(tb:ybO),hh.get? S=some oo->oo.data=.set ea e0 ta->(hh.update S (yga eb tb)).get? S=some {oo with data:=.set eb (e0+1) tb}:=λhh oo ea e0 ta eb tb q r=>by
  have z:=Heap.get?_update_self (yga eb tb) q (by rw[putSet_of eb tb r];rfl)
  rwa [putSet_of eb tb r]at z
 have h1:=put s.heap o es ep t es1 t2 ho hd
 have sb:=yaG s.heap S (yga es1 t2)
 refine yaa (yfQ ho hd ?_ (by rw[yaX];omega))
 split
 ·have pm:=relayAll_perm t2 es1 (ycc es1.size)
  have ft:=relayAll_fits t2 es1 (ycc es1.size)
  have gd:=qdx g es1 (ycc es1.size)
  refine yaa (hg _ _ _ (yaa (yfQ h1 rfl (yac (h _ (sb.trans (yaG _ S _)) ?_)) ?_)))
  ·exact⟨_,_,_,_,put _ _ _ _ _ _ _ h1 rfl,hex,rfl,hel.perm pm,(pm.map qfk).trans hp,ft,gd⟩
  ·rw[<-yaV,pm.length_eq,yaV,yaX];omega
 ·exact yac (h _ sb ⟨_,_,_,_,h1,hex,rfl,hel,hp,hf,g⟩)
theorem add_int {Q:Bool->yab->Prop} (hS:ui prog w l s.heap S σ) (hb:σ.length<1000) (h:∀h' b,ya6 S s.heap h'->ui prog w l h' S (addI σ k)->Q b {s with heap:=h' }) :
  wpAny (model prog w) A (setAddHashed S (.int k tk) (ydW k)) Q E s:=by
 obtain⟨o,es,ep,t,ho,hex,hd,hel,hp,hf,g⟩:=hS
 have hz:=qb4 hp
 have hk:(ybx prog w).is k (.int k tk)=true:=intKind_is prog w k tk
 unfold setAddHashed setAddHashedIn
 refine yaT (yaa (ybR ho hd hf ?_))
 dsimp only
 rw[byScan_of (knd:=ybx prog w) (x:=.int k tk) rfl (by rw[hz];unfold scanBound;omega) hel,if_pos rfl]
 unfold setAddByScan
 refine yaa (yaa (yb0 (yaa (wpAny_setScan_of (knd:=ybx prog w) hk ho hd hf hel ?_))))
 cases hr:List.findIdx? (λe=>(ybx prog w).is k e.2) es.toList with
 | some j=>
  obtain⟨hj,hpj,_⟩:=List.findIdx?_eq_some_iff_getElem.mp hr
  have hm:k∈σ:=hp.mem_iff.mp (by
   rw[qhj hel (yea hj),decide_eq_true_eq]at hpj
   exact mP_.mpr ⟨_,yea hj,hpj⟩)
  have e:s={s with heap:=s.heap}:=by cases s;rfl
  refine yac (yac ?_)
  rw[e]
  exact h _ _ (yfN S s.heap) ⟨o,es,ep,t,ho,hex,hd,hel,(by unfold addI;rw[if_pos hm];exact hp),hf,g⟩
 | none=>
  have hm:k ∉ σ:=λhm=>by
   obtain⟨e,he,q⟩:=mP_.mp (hp.mem_iff.mpr hm)
   have z:=List.findIdx?_eq_none_iff.mp hr e he
   rw[qhj hel he,q,decide_eq_true rfl]at z
   cases z
  have gw:∀(b:Bool)(sQ:yab)(Q':Unit->yab->Prop),Q' () sQ->wpAny (model prog w) A (match b with|true=>rule "set.scan.the-table-gave-way"|false=>pure ()) Q' E sQ:=λb sQ Q' q=>by
   cases b
   ·exact yac q
   ·exact yb0 q
  have pm:=layNew_perm t es (ydW k) (.int k tk)
  have ft:=layNew_fits t es (ydW k) (.int k tk)
  have gd:=qf8 g es (ydW k) (.int k tk)
  dsimp only
  show wpAny _ _ (match layNew t es (ydW k) (.int k tk) with|_=>_) _ _ _
  generalize layNew t es (ydW k) (.int k tk)=L at pm ft gd |-
  obtain⟨es1,t1,wd,gave⟩:=L
  dsimp only at pm ft gd |-
  rw[yfR]at pm
  have hel1:yfC (ybx prog w) es1.toList:=(hel.push (knd:=ybx prog w) hk rfl).perm pm
  have hp1:(es1.toList.map qfk).Perm (addI σ k):=by
   unfold addI;rw[if_neg hm]
   refine(pm.map qfk).trans ?_
   rw[ybM]
   exact hp.append_right _
  have hz1:es1.size<=1000:=by have:=qb4 hp1;have:=qf9 σ k;omega
  have fin:∀h',ya6 S s.heap h'->ui prog w l h' S (addI σ k)->Q true {s with heap:=h' }:=λh' a b=>h h' true a b
  refine yaa (gw _ _ _ ?_)
  have go:=λ(R:Option Bool->yab->Prop)=>qga (R:=R) (E:=E) (A:=A) (l:=l) ho hex hd hel1 hp1 hz1 ft gd (gv:=λb=>match b with|true=>rule "set.scan.the-table-gave-way"|false=>pure ()) gw (wd:=wd)
  split
  ·rw[hashByValue_scannable 8 (x:=.int k tk) rfl]
   refine yaa (yac ?_)
   exact go _ λh' a b=>yac (fin h' a b)
  ·refine yaa (yac ?_)
   exact go _ λh' a b=>yac (fin h' a b)
end
end L2.St
set_option maxHeartbeats 3200000
namespace L2.St
open PySem
def addL(σ:List Int)(vs:List Int):List Int:=vs.foldl addI σ
theorem qbc:∀(vs σ:List Int),σ.length<=(addL σ vs).length
 | [],σ=>yag _
 |v::vs,σ=>by
  refine yaF ?_ (qbc vs (addI σ v))
  unfold addI;split
  ·exact yag _
  ·rw[lA_];exact Nat.le_add_right _ _
theorem ui.keep {prog:yaj} {w:World} {l:Bool} {h h':Heap} {S:Addr} {σ:List Int} (x:ui prog w l h S σ) (k:∀o,h.get? S=some o->h'.get? S=some o):ui prog w l h' S σ:=by
 obtain⟨o,es,ep,t,ho,r⟩:=x
 exact⟨o,es,ep,t,k o ho,r⟩
section
variable{prog:yaj}{w:World}{A:yam}{R:yds->yab->Prop}{I S:Addr}{fp wr:List Addr}{G:Array yd1->Array yd1->Prop}{n:Nat}{P:Nat->Value->Prop}{St:Nat->yab->Prop}{l:Bool}
theorem qgb (W:WalksS prog w A.in1 I fp wr G n P St) (hSf:S ∉ fp) (val:Nat->Int) (hval:∀i v,P i v->∃t,v=.int (val i) t):∀(k i:Nat)(s:yab)(σ:List Int),i+k=n->St i s->ui prog w l s.heap S σ->(addL σ ((ydo i k).map val)).length<1000 ->
  (∀s',Moved (S::wr) G s s'->ui prog w l s'.heap S (addL σ ((ydo i k).map val))->R (.ok (.ret .none)) s')->ybz (model prog w) A (.builtin "set.update.loop" ⟨[.ref S,.ref I],[]⟩) R s:=by
 have hSw:S ∉ wr:=λh=>hSf (W.sub _ h)
 have up:∀b∈wr,b∈S::wr:=λb hb=>mM _ hb
 intro k
 induction k with
 | zero=>
  intro i s σ hk hst hS _ hR
  obtain rfl:i=n:=hk
  refine ybg ycx (by
   rw[ybc ybK _]
   show wpAny (model prog w) A.in1 (ybk (.ref I) >>= _) _ _ s
   refine yaa (W.done s _ _ hst λs' hm=>yac (hR s' (hm.mono up) (hS.keep λo=>hm.heap S o hSw))))
 |succ k ih=>
  intro i s σ hk hst hS hb hR
  have hlt:i<n:=by omega
  refine ybg ycx ?_
  rw[ybc ybK _]
  show wpAny (model prog w) A.in1 (ybk (.ref I) >>= _) _ _ s
  refine yaa (W.item i s _ _ hlt hst λv s1 hP hst1 hm=>?_)
  obtain⟨t,rfl⟩:=hval i v hP
  have hS1:=hS.keep (h':=s1.heap) λo=>hm.heap S o hSw
  have hl:σ.length<1000:=yfu (qbc _ σ) hb
  show wpAny (model prog w) A.in1 (ycX [ycW (val i) t] (setAdd S (.int (val i) t)) >>= _) _ _ s1
  refine yaa (yaT ?_)
  unfold setAdd
  refine yaT (yaa ((ybx prog w).pyHash (k:=val i) (intKind_is prog w _ _) ?_))
  refine add_int (s:={s1 with toks:=s1.toks+1}) (σ:=σ) (k:=val i) hS1 hl λh' b sb hS2=>?_
  refine yac ⟨yck ybK _,ih (i+1) _ (addI σ (val i)) (by omega) (W.frame _ s1 _ _ hst1 (ycp _) λb hb o e=>?_) hS2 hb λs2 hm2 hS3=>hR s2 (Moved.trans W.gtrans ((hm.mono up).then_heap (ycp _) λb o hb e=>?_) hm2) hS3⟩
  ·exact(sb.2 b λz=>hSf (z▸hb)).trans e
  ·exact(sb.2 b λz=>hb (by rw[z];exact mS_)).trans e
end
def qhk(w:World):Bool := !(w.params.followText "set-order")
section
variable{prog:yaj}{w:World}{A:yam}{E:Value->yab->Prop}{s:yab}
def qfl(w:World):Obj:={cls:=.type "set",dict:=none,data:=.set #[] 0 (.fresh 0 0 (qhk w))}
theorem qiJ (a:Value) {Q:Value->yab->Prop} (h:Q (.ref s.heap.objs.size) {s with heap:=s.heap.push (qfl w)}) :
  ybz (model prog w) A (.call (.builtin "set.__new__") ⟨[.type "set",a],[]⟩) (wants Q E) s:=by
 refine codeAny_of_tree ?_
 show wpAny (model prog w) A.in1 (yd5 "set.__new__" ⟨[.type "set",a],[]⟩ >>= λ_=>again (.builtin "set.__new__" ⟨[.type "set",a],[]⟩)) _ _ s
 refine yaa (yev (PySem.F.newCall_set_1 a) (yac ⟨yck F.plain_set_new _,ybg F.entry_set_new (by
  rw[ybc F.plain_set_new _]
  unfold yba.«set.__new__» Builtin.Frozenset.newClass
  have hsub:=sub_set_self
  obtain⟨hp,g,d,tk,os⟩:=s
  dsimp only
  wp_walk
  refine yeb (yac ?_)
  dsimp only
  simp only[newObj]
  refine yaa (wpAny_alloc (yac ?_))
  exact yac h)⟩))
end
end L2.St
set_option maxHeartbeats 3200000
namespace L2.St
open PySem
theorem v9 (ns:List Int) (n:Nat) (h:ns.length=n):(ydo 0 n).map (λi=>ns.getD i 0)=ns:=by
 subst h
 refine yfS λi=>?_
 rw[gM_]
 by_cases c:i<ns.length
 ·rw[gG (by rw[yfv];exact c),List.getElem_range',ydd,gG c]
  simp[List.getD_eq_getElem?_getD,gG c]
 ·rw[List.getElem?_eq_none (by rw[yfv];omega),List.getElem?_eq_none (by omega)];rfl
theorem ints_len {vs:List Value} {ns:List Int} (h:ybv vs ns):ns.length=vs.length:=by
 induction h with
 |nil=>rfl
 |cons _ _ _ ih=>rw[lC_,lC_,ih]
section
variable{prog:yaj}{w:World}{A:yam}{E:Value->yab->Prop}{s:yab}
theorem qeJ (h:Heap) (S:Addr) (e:h.get? S=some (qfl w)):ui prog w (qhk w) h S [] :=
 ⟨_,#[],0,_,e,⟨rfl,rfl,rfl⟩,rfl,(λe he=>by simp at he),.nil,rfl,rfl,λ_=>qf7⟩
theorem call_setL {a:Addr} {items:Array Value} {ns:List Int} {Q:Value->yab->Prop} (hh:A.handled=none) (hl:s.heap.IsList a items) (hi:ybv items.toList ns) (hb:(addL [] ns).length<1000)
  (h:∀(h':Heap)(tk:Nat),ui prog w (qhk w) h' s.heap.objs.size (addL [] ns)->(∀b o,s.heap.get? b=some o->h'.get? b=some o)->Q (.ref s.heap.objs.size) {s with heap:=h',toks:=tk}) :
  wpAny (model prog w) A (call (.type "set") [.ref a]) Q E s:=by
 obtain⟨c,tl,hmro⟩:=F.called_set.mro
 have hmade:=F.called_set.made
 have hsub:=F.called_set.sub
 have h1:=F.called_set.notType
 have h2:=F.called_set.canCreate
 have hct:=F.typeCall_set_1 (.ref a)
 refine yf6 (codeAny_of_tree ?_)
 show wpAny _ _ (callAny (.type "set") _) _ _ _
 refine yac ⟨yfk _ (by decide +kernel),ybg F.entry_type_call ?_⟩
 rw[Around.under_plain (weight_type_call_type "set" [.ref a] []) rfl]
 repeat (any_goals (first|assumption|wp_step))
 refine yct (qiJ (.ref a) (E:=E) (Q:=λob sQ=>ob=.ref s.heap.objs.size/\sQ={s with heap:=s.heap.push (qfl w)}) ⟨rfl,rfl⟩) λr sQ hr=>?_
 cases r with
 |error e=>exact hr
 | ok fl=>
  cases fl with
  | ret ob=>
   obtain⟨rfl,rfl⟩:=hr
   have hS:(s.heap.push (qfl w)).get? s.heap.objs.size=some (qfl w):=Heap.get?_push_size _ rfl
   have hT:ydG {s with heap:=s.heap.push (qfl w)} (.ref s.heap.objs.size) "set":=⟨_,hS,rfl⟩
   have hli:=F.called_set.init.lookup
   have hbi:=F.called_set.init.bind (.ref s.heap.objs.size)
   repeat (any_goals (first|assumption|wp_step))
   refine yct (yc8 (R:=wants (λr sV=>r=.none/\∃h' tk,sV={s with heap:=h',toks:=tk}/\ui prog w (qhk w) h' s.heap.objs.size (addL [] ns)/\∀b o,s.heap.get? b=some o->h'.get? b=some o) E) F.called_set.init.plain F.entry_set_init (check_set_init_1 hT ?_)) λrK sV hr2=>?_
   ·obtain ⟨ol,hol,hcl,nl,hdl⟩:=hl
    obtain⟨ocls,odict,odata,oslots⟩:=ol
    simp only at hcl hdl
    subst hcl;subst hdl
    have hol':(s.heap.push (qfl w)).get? a=some {cls:=.type "list",dict:=odict,data:=.seq items nl,slots:=oslots}:=Heap.get?_push_of_some _ hol
    have hsls:=F.sub_list_set
    have hslf:=F.sub_list_frozenset
    have hne:(yaP "list"==yaP "dict")=false:=by decide
    have hl1:(s.heap.push (qfl w)).IsList a items:=⟨_,hol',rfl,nl,rfl⟩
    have hlS:a<s.heap.objs.size:=yaf hol
    have hh3:A.in1.in1.in1.handled=none:=by simp[hh]
    have sz:(s.heap.push (qfl w)).objs.size=s.heap.objs.size+1:=ybG _ _
    have hSf:s.heap.objs.size ∉ [(s.heap.push (qfl w)).objs.size,a]:=by
     rw[sz];intro z
     rcases List.mem_cons.mp z with z|z
     ·exact absurd z (yar (ycT _))
     ·exact absurd (ms_.mp z) (ybI hlS)
    unfold yba.«set.__init__» noKeywords Builtin.Frozenset.updateFrom
    generalize hPI:yd2=PI
    wp_walk
    subst hPI
    refine ybQ hl1 (yaa (yeI ?_))
    have e0:=v9 ns items.size ((ints_len hi).trans (yaV))
    refine qgb (l:=qhk w) (Walks.list hh3 _ a (by rw[sz];exact yar (yb6 hlS)) items).toS (S:=s.heap.objs.size) hSf (λi=>ns.getD i 0) (λi v hv=>PyProof.Rows.IntsAre.int_at hi i v (by rw[Array.getElem?_toList];exact hv)) items.size 0 _ [] (yca _)
     ⟨⟨_,Heap.get?_push_size _ rfl,rfl,rfl⟩,(hl1.push _)⟩ (qeJ _ _ (Heap.get?_push_of_some _ hS)) (by rw[e0];exact hb) λs' hm hS'=>?_
    rw[e0]at hS'
    obtain⟨h',g',d',tk',os'⟩:=s'
    obtain rfl:g'=s.gens:=hm.gens
    obtain rfl:d'=s.drawn:=hm.drawn
    obtain rfl:os'=s.os:=hm.os
    show wpAny _ _ _ _ _ _
    refine yac ?_
    show wpAny _ _ (ret yap) _ _ _
    refine yac ⟨rfl,h',tk',rfl,hS',λb o e=>?_⟩
    have hb':=yaf e
    refine hm.heap b o ?_ (Heap.get?_push_of_some _ (Heap.get?_push_of_some _ e))
    rw[sz];intro z
    rcases List.mem_cons.mp z with z|z
    ·exact absurd z (yar hb')
    ·exact absurd (ms_.mp z) (yar (yb6 hb'))
   ·cases rK with
    |error e=>exact hr2
    | ok fl2=>
     cases fl2 with
     |ret r=>
      obtain⟨rfl,h',tk,rfl,hS',hk'⟩:=hr2
      repeat (any_goals (first|assumption|wp_step))
      exact h _ _ hS' hk'
     |_=>exact hr2.elim
  |_=>exact hr.elim
end
end L2.St
set_option maxHeartbeats 3200000
namespace L2.St
open PySem
theorem jg:Slot "set_iterator" "__next__" "set_iterator.__next__":=.of (owner:="set_iterator") (n:="__next__") (by rw[ydc,ycb];kernel_rfl) (by decide +kernel) (by decide +kernel) (by decide +kernel) (by first|exact .inl (by decide +kernel)|exact .inr (by decide +kernel)) (by rw[yeK];kernel_rfl)
theorem qap:Slot "set_iterator" "__iter__" "set_iterator.__iter__":=.of (owner:="set_iterator") (n:="__iter__") (by rw[ydc,ycb];kernel_rfl) (by decide +kernel) (by decide +kernel) (by decide +kernel) (by first|exact .inl (by decide +kernel)|exact .inr (by decide +kernel)) (by rw[yeK];kernel_rfl)
theorem qaq:yf4 table "set_iterator.__next__"=some yba.«set_iterator.__next__»:=entryFor_of_tree (by kernel_rfl)
theorem qeK:yf4 table "set_iterator.__iter__"=some yba.«dict_keyiterator.__iter__»:=entryFor_alias (id':="dict_keyiterator.__iter__") (by kernel_rfl) rfl (by decide +kernel) (by kernel_rfl)
theorem qiK:yf4 table "set.__iter__"=some yba.«frozenset.__iter__»:=entryFor_alias (id':="frozenset.__iter__") (by kernel_rfl) rfl (by decide +kernel) (by kernel_rfl)
theorem qar(a:Value):argsOk "set_iterator.__next__" ⟨[a],[]⟩:=by unfold argsOk;kernel_rfl
theorem qeL(a:Value):argsOk "set_iterator.__iter__" ⟨[a],[]⟩:=by unfold argsOk;kernel_rfl
theorem uE {α:Type}:∀(l:List α)(i:Nat)(h:i<l.length),yc1 (l[i]::l.eraseIdx i) l
 |a::l,0,h => .refl _
 |a::l,i+1,h=>by
  have ih:=uE l i (Nat.lt_of_succ_lt_succ h)
  rw[List.eraseIdx_cons_succ,List.getElem_cons_succ]
  exact(List.Perm.swap _ _ _).trans (ih.cons _)
theorem qeM {α:Type} (nx:Nat->Nat):∀(f k:Nat)(left:List α)(out:Array α),left.length=f->yc1 (yfw nx f k left out).toList (out.toList++left)
 |0,k,left,out,h=>by
  unfold yfw
  rw[List.length_eq_zero_iff.mp h,yaK]
 |f+1,k,left,out,h=>by
  unfold yfw
  have hl:nx k%left.length<left.length:=ygb _ (by omega)
  rw[gG hl]
  dsimp only
  refine(qeM nx f (k+1) _ _ (by rw[ydH hl];omega)).trans ?_
  rw[yfR,aA_]
  exact List.Perm.append_left _ (uE _ _ hl)
theorem qeN {α:Type} (nx:Nat->Nat) (xs:Array α):yc1 (pickOrder nx xs).toList xs.toList:=by
 have h:=qeM nx xs.size 0 xs.toList #[] (yaV)
 exact h
section
variable{prog:yaj}{w:World}{A:yam}{E:Value->yab->Prop}{s:yab}
theorem qas {M:Model} {src:Source} {n:Nat} {Q:Nat->yab->Prop} (hn:n≠0) (h:∀i d,i<n->Q i {s with drawn:=d}):wpAny M A (choose src n) Q E s :=
 λ_ _ _=>⟨hn,h _ _ (ygb _ (Nat.pos_of_ne_zero hn))⟩
theorem qbd {α:Type}:∀(n:Nat)(xs:List α)(s:yab){Q:List α->yab->Prop},xs.length=n->(∀ys d,yc1 ys xs->Q ys {s with drawn:=d})->wpAny (model prog w) A (drawOrder n xs) Q E s
 |0,xs,s,Q,hn,h=>by
  have e:xs=[]:=List.length_eq_zero_iff.mp hn
  subst e
  unfold drawOrder
  exact yac (h [] s.drawn .nil)
 |n+1,[],s,Q,hn,h=>by cases hn
 |n+1,x::xs,s,Q,hn,h=>by
  unfold drawOrder
  refine yaa (qas (by simp) λi d hi=>?_)
  rw[gG hi]
  dsimp only
  refine yaa (qbd n _ _ (by rw[ydH hi];omega) λys d' hp=>yac ?_)
  exact h _ d' ((List.Perm.cons _ hp).trans (uE _ _ hi))
end
end L2.St
set_option maxHeartbeats 3200000
namespace L2.St
open PySem
def qb5(h:Heap)(I S:Addr)(f:Value)(i n ep:Nat):Prop:=∃o,h.get? I=some o/\o.cls=.type "set_iterator"/\o.data=.fields #[f,.int i 0,.ref S,.int n 0,.int ep 0]
theorem qb5.ty{s:yab}{I S:Addr}{f:Value}{i n ep:Nat}(x:qb5 s.heap I S f i n ep):s.TypeIs (.ref I) "set_iterator":=let ⟨o,h,c,_⟩:=x;⟨o,h,c⟩
theorem qb5.keep{h h':Heap}{I S:Addr}{f:Value}{i n ep:Nat}(x:qb5 h I S f i n ep)(k:∀o,h.get? I=some o->h'.get? I=some o):qb5 h' I S f i n ep:=let ⟨o,h,c⟩:=x;⟨o,k o h,c⟩
section
variable{prog:yaj}{w:World}{A:yam}{E:Value->yab->Prop}{s:yab}{I S:Addr}{o:Obj}{es:Array (Int×Value)}{ep:Nat}{t:ybO}
theorem uj {h:Heap} {f:Value} {i n:Nat} (x:qb5 h I S f i n ep) (j:Nat) (v:Value):∃o',(h.update I (ybe (·.setIfInBounds j v))).get? I=some o'/\o'.cls=.type "set_iterator"/\o'.data=.fields (#[f,.int i 0,.ref S,.int n 0,.int ep 0].setIfInBounds j v):=by
 obtain⟨o,h1,c,d⟩:=x
 exact⟨_,Heap.get?_update_self _ h1 (yb8 (ybi d _)),(ydO ..).trans c,ybi d _⟩
theorem qgc {i sl nx:Nat} {x:Value} {Q:Option Value->yab->Prop} (hit:qb5 s.heap I S (.int sl 0) i es.size ep) (ho:s.heap.get? S=some o) (hd:o.data=.set es ep t) (hf:t.fits es.size=true)
  (hn:∀(E':Value->yab->Prop)(Q':Option (Value×Nat)->yab->Prop),Q' (some (x,nx)) s->wpAny (model prog w) A.in1 (ydm S sl i ep) Q' E' s)
  (hQ:∀h',qb5 h' I S (.int nx 0) (i+1) es.size ep->ya6 I s.heap h'->Q (some x) {s with heap:=h' }):wpAny (model prog w) A (ybk (.ref I)) Q E s:=by
 have hT:=hit.ty (s:=s)
 obtain⟨oi,hoi,hc,hdi⟩:=id hit
 unfold ybk
 refine yaa (ybY (wpAny_callSpecial?_slot (name:=ybo "__next__") hT jg (yaR jg hT qaq ?_ (qar _))))
 unfold yba.«set_iterator.__next__»
 refine yaa (yac ?_)
 refine yaa (ydn hoi hdi ?_)
 dsimp only
 refine yaa (ybX ho hd hf ?_)
 rw[if_neg (by simp)]
 refine yaa (hn _ _ ?_)
 dsimp only
 obtain⟨o1,g1,c1,d1⟩:=uj hit 0 (.int nx 0)
 refine yaa (ya9 hoi hdi (by simp) ?_)
 have it1:qb5 (s.heap.update I (ybe (·.setIfInBounds 0 (.int nx 0)))) I S (.int nx 0) i es.size ep:=⟨o1,g1,c1,d1⟩
 obtain⟨o2,g2,c2,d2⟩:=uj it1 1 (.int ((i:Int)+1) 0)
 refine yaa (ya9 g1 d1 (by simp) ?_)
 refine yac ⟨x,rfl,yac (hQ _ ⟨o2,g2,c2,d2⟩ ((yaG ..).trans (yaG ..)))⟩
theorem qgd {i p:Nat} {T:Addr} {oT:Obj} {ps:Array Value} {c:Nat} {k:Int} {x:Value} {Q:Option Value->yab->Prop} (hit:qb5 s.heap I S (.ref T) i es.size ep) (ho:s.heap.get? S=some o) (hd:o.data=.set es ep t) (hf:t.fits es.size=true)
  (hT1:s.heap.get? T=some oT) (hT2:oT.data=.seq ps c) (hp:ps[i]? = some (.int p 0)) (hx:es[p]? = some (k,x))
  (hQ:∀h',qb5 h' I S (.ref T) (i+1) es.size ep->ya6 I s.heap h'->Q (some x) {s with heap:=h' }):wpAny (model prog w) A (ybk (.ref I)) Q E s:=by
 have hT:=hit.ty (s:=s)
 obtain⟨oi,hoi,hc,hdi⟩:=id hit
 unfold ybk
 refine yaa (ybY (wpAny_callSpecial?_slot (name:=ybo "__next__") hT jg (yaR jg hT qaq ?_ (qar _))))
 unfold yba.«set_iterator.__next__»
 refine yaa (yac (yaa (ydn hoi hdi ?_)))
 dsimp only
 refine yaa (ybX ho hd hf ?_)
 rw[if_neg (by simp)]
 refine yaa (ya8 hT1 hT2 ?_)
 simp only[ybl,hp]
 unfold setNextDrawn
 refine yaa (yaa (ybR ho hd hf ?_))
 dsimp only
 rw[if_neg (by simp),hx]
 refine yac ?_
 obtain⟨o2,g2,c2,d2⟩:=uj hit 1 (.int ((i:Int)+1) 0)
 refine yaa (ya9 hoi hdi (by simp) ?_)
 exact yac ⟨x,rfl,yac (hQ _ ⟨o2,g2,c2,d2⟩ (yaG ..))⟩
theorem wK {α:Type} {Q:α->yab->Prop} (hh:A.handled=none) (h:∀e h',ydG {s with heap:=h' } e "StopIteration"->(∀b o,s.heap.get? b=some o->h'.get? b=some o)->E e {s with heap:=h' }) :
  wpAny (model prog w) A (yfl (.type "StopIteration") [] >>= λe=>yf3 e) Q E s:=by
 refine yaa ?_
 simp only[yfl,yf2]
 refine yaa (yaM ?_ (by size_fits))
 refine yaa (m:=yb9 _ _) (yev (a:=yap) (by first|rfl|(simp only[yb9];rfl)) (yaM ?_ (by size_fits)))
 simp only[yf3]
 refine yaa (yeZ ?_)
 rw[hh]
 refine yaa (yac (yfX ?_))
 refine h _ _ ?_ λb o e=>Heap.get?_push_of_some _ (Heap.get?_push_of_some _ e)
 exact⟨_,Heap.get?_push_size _ rfl,rfl⟩
theorem qiL {i sl:Nat} {Q:Option Value->yab->Prop} (hh:A.handled=none) (hit:qb5 s.heap I S (.int sl 0) i es.size ep) (ho:s.heap.get? S=some o) (hd:o.data=.set es ep t) (hf:t.fits es.size=true)
  (hn:∀(E':Value->yab->Prop)(Q':Option (Value×Nat)->yab->Prop),Q' none s->wpAny (model prog w) A.in1 (ydm S sl i ep) Q' E' s)
  (hQ:∀h',(∀b o,b≠I->s.heap.get? b=some o->h'.get? b=some o)->Q none {s with heap:=h' }):wpAny (model prog w) A (ybk (.ref I)) Q E s:=by
 have hT:=hit.ty (s:=s)
 obtain⟨oi,hoi,hc,hdi⟩:=id hit
 unfold ybk
 refine yaa (ybY (wpAny_callSpecial?_slot (name:=ybo "__next__") hT jg (yaR jg hT qaq ?_ (qar _))))
 unfold yba.«set_iterator.__next__»
 refine yaa (yac (yaa (ydn hoi hdi ?_)))
 dsimp only
 refine yaa (ybX ho hd hf ?_)
 rw[if_neg (by simp)]
 refine yaa (hn _ _ ?_)
 dsimp only
 refine yaa (ya9 hoi hdi (by simp) ?_)
 have sb:=yaG s.heap I (ybe (·.setIfInBounds 2 yap))
 refine wK (s:={s with heap:=s.heap.update I (ybe (·.setIfInBounds 2 yap))}) hh λe h' ty k=>?_
 exact yaa (ybU (b:=true) ty ycC (yac (hQ h' λb o hb q=>k b o ((sb.2 b hb).trans q))))
theorem qiM {i:Nat} {T:Addr} {oT:Obj} {ps:Array Value} {c:Nat} {Q:Option Value->yab->Prop} (hh:A.handled=none) (hit:qb5 s.heap I S (.ref T) i es.size ep) (ho:s.heap.get? S=some o) (hd:o.data=.set es ep t) (hf:t.fits es.size=true)
  (hT1:s.heap.get? T=some oT) (hT2:oT.data=.seq ps c) (hp:ps[i]? = none)
  (hQ:∀h',(∀b o,b≠I->s.heap.get? b=some o->h'.get? b=some o)->Q none {s with heap:=h' }):wpAny (model prog w) A (ybk (.ref I)) Q E s:=by
 have hT:=hit.ty (s:=s)
 obtain⟨oi,hoi,hc,hdi⟩:=id hit
 unfold ybk
 refine yaa (ybY (wpAny_callSpecial?_slot (name:=ybo "__next__") hT jg (yaR jg hT qaq ?_ (qar _))))
 unfold yba.«set_iterator.__next__»
 refine yaa (yac (yaa (ydn hoi hdi ?_)))
 dsimp only
 refine yaa (ybX ho hd hf ?_)
 rw[if_neg (by simp)]
 refine yaa (ya8 hT1 hT2 ?_)
 simp only[ybl,hp]
 obtain⟨o1,g1,c1,d1⟩:=uj hit 0 (.int 0 0)
 refine yaa (ya9 hoi hdi (by simp) ?_)
 refine yaa (ya9 g1 d1 (by simp) ?_)
 have sb:=(yaG s.heap I (ybe (·.setIfInBounds 0 (ya2 0)))).trans (yaG (s.heap.update I (ybe (·.setIfInBounds 0 (ya2 0)))) I (ybe (·.setIfInBounds 2 yap)))
 refine wK (s:={s with heap:=(s.heap.update I (ybe (·.setIfInBounds 0 (ya2 0)))).update I (ybe (·.setIfInBounds 2 yap))}) hh λe h' ty k=>?_
 exact yaa (ybU (b:=true) ty ycC (yac (hQ h' λb o hb q=>k b o ((sb.2 b hb).trans q))))
end
end L2.St
set_option maxHeartbeats 3200000
namespace L2.St
open PySem
section
variable{prog:yaj}{w:World}{A:yam}{E:Value->yab->Prop}{s:yab}{I S:Addr}{o:Obj}{es:Array (Int×Value)}{ep:Nat}{t:ybO}
theorem qat {Q:Bool->yab->Prop} (h:Q (w.params.followText "set-order") s):wpAny (model prog w) A setsByText Q E s:=by
 unfold setsByText
 exact yaa (yeb (yac h))
theorem ql8 {sl i:Nat} {Q:Option (Value×Nat)->yab->Prop} (hb:w.params.followText "set-order"=true) (ho:s.heap.get? S=some o) (hd:o.data=.set es ep t) (hf:t.fits es.size=true)
  (h:Q (((pickOrder (w.params.setOrder S ep) es)[i]?).map λe=>(e.2,sl)) s):wpAny (model prog w) A (ydm S sl i ep) Q E s:=by
 unfold ydm
 refine yaa (ybR ho hd hf (yaa (qat ?_)))
 rw[hb]
 dsimp only
 rw[if_pos rfl,if_neg (by simp)]
 unfold setWalk
 refine yaa (yaa (ybR ho hd hf (yaa (qat ?_))))
 rw[hb,if_pos rfl]
 exact yaa (yeb (yac (yac h)))
theorem ql9 {sl i:Nat} {Q:Option (Value×Nat)->yab->Prop} (hb:w.params.followText "set-order"=false) (hl:t.led=true) (hp:(!t.plain&&decide (es.size>1))=false) (ho:s.heap.get? S=some o) (hd:o.data=.set es ep t) (hf:t.fits es.size=true)
  (h:Q (match es[yaH t.place sl]?,t.place[yaH t.place sl]? with|some (_,x),some j=>some (x,j+1)|_,_=>none) s):wpAny (model prog w) A (ydm S sl i ep) Q E s:=by
 unfold ydm
 refine yaa (ybR ho hd hf (yaa (qat ?_)))
 rw[hb]
 dsimp only
 rw[if_neg (by decide)]
 show wpAny _ _ (if(!t.plain&&decide (es.size>1))=true then _ else _) _ _ _
 rw[hp,if_neg (by decide)]
 show wpAny _ _ ((if(!t.led && !es.isEmpty)=true then unsupported "set:maker-not-led" else pure ()) >>= _) _ _ _
 rw[hl,if_neg (by simp)]
 exact yaa (yac (yac h))
theorem qge {f:Nat->Nat} {vs:List Value} (hh:A.handled=none) (hne:S≠I) (hd:o.data=.set es ep t) (hf:t.fits es.size=true) (hlen:vs.length=es.size)
  (hn:∀(A':yam)(i:Nat)(s:yab)(E':Value->yab->Prop)(Q':Option (Value×Nat)->yab->Prop),s.heap.get? S=some o->i<=vs.length->Q' ((vs[i]?).map λx=>(x,f (i+1))) s->wpAny (model prog w) A' (ydm S (f i) i ep) Q' E' s) :
  WalksS prog w A I [I,S] [I] (λa b=>b=a) vs.length (λi v=>vs[i]? = some v) (λi s=>qb5 s.heap I S (.int (f i) 0) i es.size ep/\s.heap.get? S=some o) where
 sub:=λb hb=>by rw[ms_.mp hb];exact mS_
 grefl:=λ_=>rfl
 gtrans:=λ_ _ _ a b=>b.trans a
 frame:=λi s h' tk st _ k=>⟨st.1.keep (k I (by simp)),k S (by simp) _ st.2⟩
 item:=λi s Q E hi st hQ=>by
  have e:vs[i]? = some vs[i]:=gG hi
  refine qgc (x:=vs[i]) (nx:=f (i+1)) st.1 st.2 hd hf (λE' Q' q=>hn _ i s E' Q' st.2 (ybH hi) (by rw[e];exact q)) λh' it sb=>?_
  exact hQ _ _ e ⟨it,(sb.2 S hne).trans st.2⟩ ⟨λb o hb q=>(sb.2 b λz=>hb (by rw[z];exact mS_)).trans q,rfl,rfl,rfl,yag _⟩
 done:=λs Q E st hQ=>by
  refine qiL hh st.1 st.2 hd hf (λE' Q' q=>hn _ _ s E' Q' st.2 (yag _) (by rw[List.getElem?_eq_none (yag _)];exact q)) λh' k=>?_
  exact hQ _ ⟨λb o hb q=>k b o (λz=>hb (by rw[z];exact mS_)) q,rfl,rfl,rfl,yag _⟩
 self:=λi s Q E st hQ=>by
  have hT:=st.1.ty (s:=s)
  refine ydR hT qap (yaR qap hT qeK ?_ (qeL _))
  show wpAny _ _ (ret (.ref I)) _ _ s
  exact yac ⟨_,rfl,"set_iterator",_,hT,jg.lookup,hQ⟩
theorem qgf {T:Addr} {oT:Obj} {c:Nat} {ps:List Nat} {vs:List Value} (hh:A.handled=none) (hne:S≠I) (hnT:T≠I) (hd:o.data=.set es ep t) (hf:t.fits es.size=true) (hT2:oT.data=.seq (ps.map λ(i:Nat)=>ya2 i).toArray c)
  (hlen:ps.length=vs.length) (hv:∀i p:Nat,ps[i]? = some p->∃k x,es[p]? = some (k,x)/\vs[i]? = some x) :
  WalksS prog w A I [I,S,T] [I] (λa b=>b=a) vs.length (λi v=>vs[i]? = some v) (λi s=>qb5 s.heap I S (.ref T) i es.size ep/\s.heap.get? S=some o/\s.heap.get? T=some oT) where
 sub:=λb hb=>by rw[ms_.mp hb];exact mS_
 grefl:=λ_=>rfl
 gtrans:=λ_ _ _ a b=>b.trans a
 frame:=λi s h' tk st _ k=>⟨st.1.keep (k I (by simp)),k S (by simp) _ st.2.1,k T (by simp) _ st.2.2⟩
 item:=λi s Q E hi st hQ=>by
  have e:ps[i]? = some (ps[i]'(by omega)):=gG (by omega)
  obtain⟨k,x,e1,e2⟩:=hv i _ e
  refine qgd (p:=ps[i]'(by omega)) (x:=x) st.1 st.2.1 hd hf st.2.2 hT2 (by rw[List.getElem?_toArray,gM_,e];rfl) e1 λh' it sb=>?_
  exact hQ _ _ e2 ⟨it,(sb.2 S hne).trans st.2.1,(sb.2 T hnT).trans st.2.2⟩ ⟨λb o hb q=>(sb.2 b λz=>hb (by rw[z];exact mS_)).trans q,rfl,rfl,rfl,yag _⟩
 done:=λs Q E st hQ=>by
  refine qiM hh st.1 st.2.1 hd hf st.2.2 hT2 (by rw[List.getElem?_toArray,gM_,List.getElem?_eq_none (by omega)];rfl) λh' k=>?_
  exact hQ _ ⟨λb o hb q=>k b o (λz=>hb (by rw[z];exact mS_)) q,rfl,rfl,rfl,yag _⟩
 self:=λi s Q E st hQ=>by
  have hT:=st.1.ty (s:=s)
  refine ydR hT qap (yaR qap hT qeK ?_ (qeL _))
  show wpAny _ _ (ret (.ref I)) _ _ s
  exact yac ⟨_,rfl,"set_iterator",_,hT,jg.lookup,hQ⟩
end
end L2.St
set_option maxHeartbeats 3200000
namespace L2.St
open PySem
theorem qbe {es:List (Int×Value)} {prog:yaj} {w:World} (hel:yfC (ybx prog w) es):∀{vs:List Value},yc1 vs (es.map (·.2))->∃ns,ybv vs ns/\ns.Perm (es.map qfk):=by
 have h1:∀{vs:List Value},(∀v∈vs,∃k t,v=.int k t)->∃ns,ybv vs ns/\ns=vs.map λv=>qfk (0,v):=by
  intro vs
  induction vs with
  |nil=>intro _;exact⟨[],.nil,rfl⟩
  |cons v vs ih=>
   intro h
   obtain⟨k,t,rfl⟩:=h v mS_
   obtain⟨ns,a,b⟩:=ih λv hv=>h v (mM _ hv)
   exact⟨k::ns,.cons k t a,by rw[b];rfl⟩
 intro vs p
 obtain ⟨ns,a,rfl⟩:=h1 (vs:=vs) (λv hv=>by
  obtain⟨e,he,rfl⟩:=mP_.mp (p.mem_iff.mp hv)
  obtain⟨⟨k,hk,_⟩,_⟩:=hel e he
  obtain⟨t,q⟩:=ydK hk
  exact⟨k,t,q⟩)
 refine⟨_,a,(p.map _).trans ?_⟩
 rw[mm_]
 exact List.Perm.refl _
def qkR (prog:yaj) (w:World) (S:Addr) (n0:Nat) (σ:List Int) (I:Addr) (s:yab):Prop :=
 ∃(vs:List Value)(ns:List Int)(fp:List Addr)(St:Nat->yab->Prop),ybv vs ns/\ns.Perm σ/\(∀A':yam,A'.handled=none->WalksS prog w A' I fp [I] (λa b=>b=a) vs.length (λi v=>vs[i]? = some v) St)/\St 0 s/\(∀b∈fp,b=S\/n0<=b)/\n0<=I/\∀s' i,St i s'->s'.TypeIs (.ref I) "set_iterator"
section
variable{prog:yaj}{w:World}{A:yam}{E:Value->yab->Prop}{s:yab}{S:Addr}{σ:List Int}
theorem qgg {Q:Value->yab->Prop} (hb:σ.length<1000) (hS:ui prog w (qhk w) s.heap S σ) (hQ:∀I h' d,qkR prog w S s.heap.objs.size σ I {s with heap:=h',drawn:=d}->(∀b o,s.heap.get? b=some o->h'.get? b=some o)->Q (.ref I) {s with heap:=h',drawn:=d}) :
  wpAny (model prog w) A (yd2 (.ref S)) Q E s:=by
 obtain⟨o,es,ep,t,ho,hex,hd,hel,hp,hf,g⟩:=hS
 have hT:s.TypeIs (.ref S) "set":=⟨o,ho,hex.1⟩
 have hlt:S<s.heap.objs.size:=yaf ho
 refine ydR hT F.slot_set_iter (yaR F.slot_set_iter hT qiK ?_ (F.args_set_iter_1 _))
 unfold yba.«frozenset.__iter__»
 refine yaa (m:=Builtin.Frozenset.slot0 "__iter__" ⟨[.ref S],[]⟩) (yac ?_)
 unfold Builtin.Frozenset.sizeOf
 refine yaa (yaa (ybX ho hd hf (yac ?_)))
 unfold setDrawn
 refine yaa (yaa (ybR ho hd hf (yaa (qat (yac ?_)))))
 show wpAny _ _ (if(!(w.params.followText "set-order")&&(!t.plain&&decide (es.size>1)))=true then _ else _) _ _ _
 by_cases hdr:(!(w.params.followText "set-order")&&(!t.plain&&decide (es.size>1)))=true
 ·rw [if_pos hdr]
  refine yaa (qbd es.size (yat es.size) s lR_ λys d hy=>?_)
  have hz:=qb4 hp
  refine yaa (ydl ?_ (by rw[lM_,hy.length_eq,lR_,yaX];omega))
  refine yaa (yfT (Heap.get?_push_of_some _ ho) hd hf ?_)
  unfold newFields
  refine yaa (yaM (yac ⟨_,rfl,"set_iterator",_,⟨_,Heap.get?_push_size _ rfl,rfl⟩,jg.lookup,?_⟩))
  have sz:∀ob:Obj,(s.heap.push ob).objs.size=s.heap.objs.size+1:=λob=>ybG _ _
  have l1:∀p∈ys,p<es.size:=λp h=>mR_.mp (hy.mem_iff.mp h)
  have pv:yc1 (ys.map λp=>(es.toList.map (·.2)).getD p yap) (es.toList.map (·.2)):=by
   refine(hy.map _).trans ?_
   have:=Srt.map_getD_range yap (es.toList.map (·.2))
   rw[lM_,yaV]at this
   rw[this]
  obtain⟨ns,a1,a2⟩:=qbe hel pv
  refine hQ _ _ _ ⟨_,ns,_,_,a1,a2.trans hp,λA' hh=>qgf (T:=s.heap.objs.size) (ps:=ys) (o:=o) (t:=t) hh ?_ ?_ hd hf (oT:={cls:=.type "tuple",data:=.seq (ys.map λ(i:Nat)=>ya2 i).toArray}) rfl (by rw[lM_]) λi p e=>?_,⟨⟨_,Heap.get?_push_size _ rfl,rfl,rfl⟩,Heap.get?_push_of_some _ (Heap.get?_push_of_some _ ho),Heap.get?_push_of_some _ (Heap.get?_push_size _ rfl)⟩,?_,?_,λs' i st=>st.1.ty⟩ λb o e=>Heap.get?_push_of_some _ (Heap.get?_push_of_some _ e)
  ·rw[sz];exact yar (yb6 hlt)
  ·rw[sz];exact yar (ycT _)
  ·have hp':=l1 p (ycg e)
   refine⟨es[p].1,es[p].2,Array.getElem?_eq_getElem hp',?_⟩
   rw[gM_,e,ydd,List.getD_eq_getElem?_getD,gM_,Array.getElem?_toList,Array.getElem?_eq_getElem hp']
   rfl
  ·intro b hb
   rw[sz]at hb
   rcases List.mem_cons.mp hb with rfl|hb
   ·exact .inr (ycp _)
   ·rcases List.mem_cons.mp hb with rfl|hb
    ·exact .inl rfl
    ·rw[ms_.mp hb];exact .inr (yag _)
  ·rw[sz];exact ycp _
 ·rw [if_neg hdr]
  refine yaa (yac (yaa (yfT ho hd hf ?_)))
  unfold newFields
  refine yaa (yaM (yac ⟨_,rfl,"set_iterator",_,⟨_,Heap.get?_push_size _ rfl,rfl⟩,jg.lookup,?_⟩))
  have fin:∀(f:Nat->Nat)(vs:List Value),f 0=0->yc1 vs (es.toList.map (·.2))->(∀(A':yam)(i:Nat)(s:yab)(E':Value->yab->Prop)(Q':Option (Value×Nat)->yab->Prop),s.heap.get? S=some o->i<=vs.length->Q' ((vs[i]?).map λx=>(x,f (i+1))) s->wpAny (model prog w) A' (ydm S (f i) i ep) Q' E' s) ->
    Q (.ref s.heap.objs.size) {s with heap:=s.heap.push {cls:=.type "set_iterator",data:=.fields [ya2 0,ya2 0,.ref S,ya2 es.size,ya2 ep].toArray} }:=λf vs f0 pv hn=>by
   obtain⟨ns,a1,a2⟩:=qbe hel pv
   have hlen:vs.length=es.size:=by rw[pv.length_eq,lM_,yaV]
   refine hQ _ _ s.drawn ⟨vs,ns,_,_,a1,a2.trans hp,λA' hh=>qge (o:=o) (t:=t) (f:=f) hh (yar hlt) hd hf hlen hn,⟨⟨_,Heap.get?_push_size _ rfl,rfl,by rw[f0];rfl⟩,Heap.get?_push_of_some _ ho⟩,?_,yag _,λs' i st=>st.1.ty⟩ λb o e=>Heap.get?_push_of_some _ e
   intro b hb
   rcases List.mem_cons.mp hb with rfl|hb
   ·exact .inr (yag _)
   ·exact .inl (ms_.mp hb)
  cases hbt:w.params.followText "set-order" with
  |true=>
   refine fin (λ_=>0) ((pickOrder (w.params.setOrder S ep) es).toList.map (·.2)) rfl ((qeN _ _).map _) λA' i s' E' Q' ho' hi hq=>?_
   refine ql8 hbt ho' hd hf ?_
   rw[gM_,Array.getElem?_toList,Option.map_map]at hq
   exact hq
  | false=>
   have hl:t.led=true:=by rw[g.1];unfold qhk;rw[hbt];rfl
   rw[hbt,yeL,ybC,Bool.not_eq_true]at hdr
   have hpl:t.place.size=es.size:=by
    simp only[SetTable.fits,yan,beq_iff_eq]at hf
    exact hf.1
   have rs:qfj t.place:=by
    cases hpn:t.plain with
    |true=>exact g.2 hpn
    |false=>
     rw[hpn,yeL,ybC,decide_eq_false_iff_not]at hdr
     intro i j u v hij hu hv
     have:t.place[j]? = none:=Array.getElem?_eq_none (by omega)
     rw[this]at hv;cases hv
   refine fin (λi=>if i=0 then 0 else t.place.getD (i-1) 0+1) (es.toList.map (·.2)) rfl (.refl _) λA' i s' E' Q' ho' hi hq=>?_
   refine ql9 hbt hl hdr ho' hd hf ?_
   have eb:yaH t.place (if i=0 then 0 else t.place.getD (i-1) 0+1)=i:=by
    by_cases z:i=0
    ·subst z;exact qdv rs
    ·rw[if_neg z]
     rw[lM_,yaV]at hi
     have hs:i-1<t.place.size:=by omega
     have q:=Array.getElem?_eq_getElem hs
     rw[ycf,q]
     have:=qdw rs q
     rw[show i-1+1=i by omega]at this
     exact this
   rw[eb]
   rw[gM_,Array.getElem?_toList,if_neg (Nat.succ_ne_zero i),Nat.add_sub_cancel]at hq
   by_cases z:i<es.size
   ·have q:=Array.getElem?_eq_getElem (show i<t.place.size by omega)
    rw[Array.getElem?_eq_getElem z,q]
    rw[Array.getElem?_eq_getElem z,ycf,q]at hq
    exact hq
   ·rw[Array.getElem?_eq_none (by omega)]
    rw[Array.getElem?_eq_none (by omega)]at hq
    exact hq
theorem collect_set {Q:List Value->yab->Prop} (hh:A.handled=none) (hb:σ.length<1000) (hS:ui prog w (qhk w) s.heap S σ)
  (hQ:∀vs ns h' d tk,ybv vs ns->ns.Perm σ->(∀b o,s.heap.get? b=some o->h'.get? b=some o)->Q vs {s with heap:=h',drawn:=d,toks:=tk}):wpAny (model prog w) A (collect (.ref S)) Q E s:=by
 have hlt:S<s.heap.objs.size:=by obtain⟨o,_,_,_,ho,_⟩:=hS;exact yaf ho
 have kp:∀(ob:Obj) b o,s.heap.get? b=some o->(s.heap.push ob).get? b=some o:=λob b o e=>Heap.get?_push_of_some _ e
 unfold collect
 refine yaa (yeI (ybg F.entry_proto_collect ?_))
 rw[ybc F.plain_proto_collect _]
 show wpAny (model prog w) A.in1 (newList [] >>= λl=>again (.builtin "list.__iadd__" ⟨[l,.ref S],[]⟩)) _ _ s
 refine yaa (yaM (yac ⟨yck yfU _,ybg F.entry_list_iadd ?_⟩))
 rw[ybc yfU _]
 have hS1:=hS.keep (h':=s.heap.push {cls:=.type "list",data:=.seq ([]:List Value).toArray}) λo=>kp _ S o
 have hT:ydG {s with heap:=s.heap.push {cls:=.type "list",data:=.seq ([]:List Value).toArray} } (.ref S) "set":=by obtain⟨o,_,_,_,ho,hex,_⟩:=hS1;exact⟨o,ho,hex.1⟩
 show wpAny (model prog w) A.in1 (ybJ (.ref s.heap.objs.size) (.ref S) (.ref s.heap.objs.size)) _ _ _
 unfold ybJ
 refine yaa (yfq hT ?_)
 have h1:ybV (.ref s.heap.objs.size) (.ref S)=false:=by
  simp only[ybV,beq_eq_false_iff_ne,ne_eq]
  exact ybI hlt
 rw[if_neg (by rw[h1];decide)]
 refine yaa (qgg (s:={s with heap:=s.heap.push {cls:=.type "list",data:=.seq ([]:List Value).toArray} }) hb hS1 λI h2 d W k2=>?_)
 have hT2:ydG {s with heap:=h2,drawn:=d} (.ref S) "set":=by obtain⟨o,_,_,_,ho,hex,_⟩:=hS1;exact⟨o,k2 S o ho,hex.1⟩
 have hsp:splitId "set.__len__"=some ("set","__len__"):=by decide +kernel
 refine yaa (yaT ?_)
 unfold ydw
 refine yaa (yeo hT2 F.slot_set_len.lookup ?_)
 dsimp only
 rw[hsp]
 dsimp only
 refine yaa (ybU (b:=true) hT2 (by rw[yeK];kernel_rfl) ?_)
 rw[if_neg (by decide),if_pos (by decide +kernel)]
 refine yaa (yfq hT2 ?_)
 dsimp only
 refine yac ?_
 rw[if_pos (by decide +kernel)]
 refine yaa (yb0 ?_)
 obtain⟨vs,ns,fp,St,hI,hP,hW,st,hfp,hIn,hty⟩:=W
 have g0:h2.get? s.heap.objs.size=some (PyProof.Rows.seqObj "list" #[] 0):=k2 _ _ (Heap.get?_push_size _ rfl)
 unfold yex
 refine yaa (yaa (ydI (xs := #[]) (n:=0) g0 rfl ?_ (ya5 _) (by rw[yaX];decide)))
 have g1:=PyProof.Rows.get?_update_seq g0 λa=>a.push yap
 refine ydI g1 rfl ?_ (by rw[yaX];decide) (by rw[yaX];decide)
 have g2:=PyProof.Rows.get?_update_seq g1 λa=>a.pop
 have sb:=(yaG h2 s.heap.objs.size (yaz λa=>a.push yap)).trans (yaG (h2.update s.heap.objs.size (yaz λa=>a.push yap)) s.heap.objs.size (yaz λa=>a.pop))
 generalize (h2.update s.heap.objs.size (yaz λa=>a.push yap)).update s.heap.objs.size (yaz λa=>a.pop)=h3 at g2 sb
 have hz:vs.length=σ.length:=by rw[<-ints_len hI,hP.length_eq]
 have sz:(s.heap.push {cls:=.type "list",data:=.seq ([]:List Value).toArray}).objs.size=s.heap.objs.size+1:=ybG _ _
 have nf:s.heap.objs.size ∉ fp:=λh=>by
  rcases hfp _ h with z|z
  ·exact absurd z (ybI hlt)
  ·have z:s.heap.objs.size+1<=s.heap.objs.size:=by rw[<-sz];exact z
   exact absurd z (Nat.not_succ_le_self _)
 have st3:=(hW A.in1 hh).frame 0 _ h3 s.toks st (yag _) λb hb o e=>(sb.2 b λz=>nf (z▸hb)).trans e
 refine yac ⟨yck ybW _,codeAny_extend_loopS (hW A.in1 hh) (by rw[yaX];omega) _ nf _ vs.length 0 _ _ _ (by omega) (ya5 _) st3 g2 (ItemsOf.nil _) λs' acc c hm hS' hacc=>?_⟩
 show wpAny (model prog w) A (load s.heap.objs.size >>= _) _ _ s'
 refine yaa (wpAny_load hS' (yac ?_))
 have ea:acc.toList=vs:=by
  refine yfS λj=>?_
  rw[Array.getElem?_toList]
  by_cases c:j<vs.length
  ·have q:=Array.getElem?_eq_getElem (show j<acc.size by rw[hacc.1];exact c)
   rw[q];exact(hacc.2 j _ q).symm
  ·rw[Array.getElem?_eq_none (by rw[hacc.1];omega),List.getElem?_eq_none (by omega)]
 rw[ea]
 obtain⟨h',g',d',tk',os'⟩:=s'
 obtain rfl:g'=s.gens:=hm.gens
 obtain rfl:d'=d:=hm.drawn
 obtain rfl:os'=s.os:=hm.os
 refine hQ vs ns h' d' tk' hI hP λb o e=>hm.heap b o (λz=>?_) ((sb.2 b (yar (yaf e))).trans (k2 b o (kp _ b o e)))
 have hb':=yaf e
 rcases List.mem_cons.mp z with z|z
 ·exact absurd z (yar hb')
 ·rw[ms_.mp z]at hb'
  have q:s.heap.objs.size+1<=I:=by rw[<-sz];exact hIn
  exact absurd hb' (Nat.not_lt.mpr (Nat.le_of_succ_le q))
end
end L2.St
set_option maxHeartbeats 3200000
namespace L2
open PySem PySem.Spec PyProof.Rows
def qgh (k:Int):List Int->List Int
 | []=>[k]
 |a::l=>if k<=a then k::a::l else a::qgh k l
theorem vM (k:Int):∀l:List Int,(qgh k l).Perm (k::l)
 | [] => .refl _
 |a::l=>by
  unfold qgh
  split
  ·exact .refl _
  ·exact((vM k l).cons a).trans (.swap _ _ _)
theorem qbf (k:Int):∀l:List Int,l.Pairwise (·<=·)->(qgh k l).Pairwise (·<=·)
 | [],_=>by unfold qgh;exact List.pairwise_singleton _ _
 | a :: l,h=>by
  unfold qgh
  have h1:=List.pairwise_cons.mp h
  split
  ·rename_i c
   exact List.pairwise_cons.mpr ⟨λx hx=>by
    rcases List.mem_cons.mp hx with rfl|hx
    ·exact c
    ·exact Int.le_trans c (h1.1 x hx),h⟩
  ·rename_i c
   refine List.pairwise_cons.mpr ⟨λx hx=>?_,qbf k l h1.2⟩
   rcases List.mem_cons.mp ((vM k l).mem_iff.mp hx)with rfl|hx
   ·omega
   ·exact h1.1 x hx
def wf(ns:List Int):List Int:=(St.addL [] ns).foldr qgh []
theorem uk:∀l:List Int,(l.foldr qgh []).Perm l
 | [] => .refl _
 |a::l=>(vM a _).trans ((uk l).cons a)
theorem qbg:∀l:List Int,(l.foldr qgh []).Pairwise (·<=·)
 | [] => .nil
 |a::l=>qbf a _ (qbg l)
theorem qcQ {ns ms:List Int} (p:ms.Perm (St.addL [] ns)) (s:ms.Pairwise (·<=·)):ms=wf ns :=
 List.Perm.eq_of_pairwise (le:=(·<=·)) (λa b _ _ h1 h2=>Int.le_antisymm h1 h2) s (qbg _) (p.trans (uk _).symm)
theorem SS.keptD {X:Cx} {H0 H:Hp} {s0 s:yab} {h':Heap} (z:SS X H0 s0 H s) (k:∀b u,s.heap.get? b=some u->h'.get? b=some u) (tk:Nat) (d:Drawn):SS X H0 s0 H {s with heap:=h',toks:=tk,drawn:=d} :=
 ⟨z.os,z.bare,z.un.trans (Un.kept k),z.hok.kept k,z.same⟩
theorem qdy {ns:List Int}:∀{us:List Value},ybF us ns->qO (ns.map V.int) us:=by
 induction ns with
 |nil=>intro us h;cases h;exact .nil
 |cons n ns ih=>intro us h;cases h with|cons _ t r=>exact .cons ⟨t,rfl⟩ (ih r)
def tSS(K:yah)(te:TA):TE:=λσ H Q=>te σ H λvs H1=>∃(a:Addr)(ns:List Int),vs=[V.ref a]/\SqL K H1 a (ns.map V.int)/\(St.addL [] ns).length<64/\∀p H2,H1 p=none->zK H1 H2->H2 p=some (.lst ((wf ns).map V.int))->Q (.ref p) H2
section
variable{X:Cx}{e:Expr}{pos:Pos}
theorem qiN {ta:TA} {p p1 q:Pos} (hc:X.calm=true) (hgl:Gl X "sorted") (hml:X.mg "sorted"=none) (hg:Gl X "set") (hm:X.mg "set"=none) (ha:PA X [e] ta) (hs:yad [e] X.env=(false,eval e X.env)::yad [] X.env:=by rfl)
  (he:yad [.Call (.Name "set" p1) [e] [] q] X.env=(false,eval (.Call (.Name "set" p1) [e] [] q) X.env)::yad [] X.env:=by rfl) (hpl:(yaI pos (yad [] X.env)).any (·.1)=false:=by rfl) (hpq:(yaI q (yad [] X.env)).any (·.1)=false:=by rfl) :
  PE X (.Call (.Name "sorted" p) [.Call (.Name "set" p1) [e] [] q] [] pos) (tSS X.K ta):=by
 intro pins s σ H Q I h
 refine yb2 (uM I hgl hml PyProof.Rows.boot_sorted ?_)
 refine yc5 ?_ he hpl
 rw[he]
 show wpAny _ _ (spliced ((false,eval (.Call (.Name "set" p1) [e] [] q) X.env)::yaI pos (yad [] X.env))) _ _ s
 refine yfb ?_
 refine Call_ (uM I hg hm PyProof.Rows.boot_set (ybm (thn (ha q pins s σ H _ I h) λus s1 ⟨vs,H1,I1,r1,q1⟩=>?_) hs hpq))
 obtain⟨a,ns,rfl,hx,h64,fin⟩:=q1
 obtain⟨u,rfl,ru⟩:=qO.one r1
 cases (show u=yae a from ru)
 obtain⟨its,rv,pl,hz⟩:=I1.list hx
 have hh:X.A.handled=none:=I.ok.hd hc
 refine St.call_setL (ns:=ns) hh pl.isList (wo rv) (by omega) λh1 tk1 hS k1=>?_
 refine yfG ?_
 refine Calls.call_function_entry kind_sorted plain_sorted entry_sorted (args_sorted1 _) ?_
 unfold yba.«sorted»
 refine yaa (m:=checkCount "sorted" 1 1 _) (yac (yaa (St.collect_set (s:={s1 with heap:=h1,toks:=tk1}) (by simp[hh]) (by omega) hS λvs ns' h2 d tk2 hI hP k2=>?_)))
 have hv:vs.length=(St.addL [] ns).length:=by rw[<-St.ints_len hI,hP.length_eq]
 refine yaa (wpAny_newList ?_ (by rw[yaX];omega))
 have hD:(h2.push (yb5 "list" vs.toArray 0)).get? h2.objs.size=some (yb5 "list" vs.toArray 0):=Heap.get?_push_size _ rfl
 refine yaa (yaT (yaR slot_list_sort ⟨_,hD,rfl⟩ entry_list_sort (list_sort_tree hD hI (by omega) λout ms a1 a2 a3=>⟨_,rfl,?_⟩) (args_list_sort _)))
 refine yac ⟨_,rfl,?_⟩
 have em:ms=wf ns:=qcQ (a2.trans hP) a3
 subst em
 have keep:∀b o,s1.heap.get? b=some o->(sortedHeap (h2.push (yb5 "list" vs.toArray 0)) h2.objs.size vs out).get? b=some o:=λb o e=>by
  have e2:=k2 b o (k1 b o e)
  have hb:=yaf e2
  rw[sortedHeap_old (yar hb) (by rw[ybG];exact yb6 hb)]
  exact Heap.get?_push_of_some _ e2
 have z0:=(SS.of I1).keptD keep tk2 d
 have hlo:s1.heap.objs.size<=h2.objs.size:=by
  obtain⟨o,_,_,_,ho,_⟩:=hS
  exact ybH (yaf (k2 _ _ ho))
 have hS1:H1 h2.objs.size=none:=I1.hok.fresh hlo
 obtain⟨ee,hout⟩:=sortedHeap_at (n:=0) (out:=out) hD
 have z3:=Sk.ss_lay z0 (o:=.lst ((wf ns).map V.int)) (T:=h2.objs.size) (Heap.get?_none_of_le hlo) hS1 ⟨by rw[lM_,wf,(uk _).length_eq,yaX];omega,out.toList,ee,qdy a1,by rw[Array.toArray_toList];exact hout⟩
 exact⟨.ref h2.objs.size,_,z3.inv I1,rfl,fin _ _ hS1 z3.same qk⟩
end
end L2
namespace L2.Sk
open PySem PySem.Spec PyProof.Rows
theorem qbh {K:Fr0} {A:Addr->Prop} {H:Hp}:∀ns:List Int,IsL K A H (ns.map D.int) (ns.map V.int)
 | []=>rfl
 |n::ns=>⟨.int n,_,rfl,rfl,qbh ns⟩
def qb6 (f:M D):M D:=bnd f λd Z=>match d with
 |.lst ds=>match jZ ds with
  |some ns=>if(St.addL [] ns).length<64 then .ok (.lst ((wf ns).map D.int),Z)else .bad
  |none => .bad
 |_ => .bad
theorem qiO {f:M D} {Z Z1:Env} {ds:List D} {ns:List Int} (h:f Z=.ok (.lst ds,Z1)) (hi:jZ ds=some ns) (hl:(St.addL [] ns).length<64):qb6 f Z=.ok (.lst ((wf ns).map D.int),Z1):=by
 unfold qb6 bnd
 simp only[h,hi,hl,if_true]
section
variable{X:Cx}{c:Fc}{e:Expr}{pos:Pos}
theorem qiP {f:M D} {p p1 q:Pos} (he:DE X c e f) (hc:X.calm=true) (hgl:Gl X "sorted") (hml:X.mg "sorted"=none) (hg:Gl X "set") (hm:X.mg "set"=none) (hs:yad [e] X.env=(false,eval e X.env)::yad [] X.env:=by rfl)
  (hst:yad [.Call (.Name "set" p1) [e] [] q] X.env=(false,eval (.Call (.Name "set" p1) [e] [] q) X.env)::yad [] X.env:=by rfl) (hpl:(yaI pos (yad [] X.env)).any (·.1)=false:=by rfl) (hpq:(yaI q (yad [] X.env)).any (·.1)=false:=by rfl) :
  DE X c (.Call (.Name "sorted" p) [.Call (.Name "set" p1) [e] [] q] [] pos) (qb6 f):=by
 obtain⟨te,pe,we⟩:=he
 refine⟨_,qiN hc hgl hml hg hm (jc pe uN hs) hs hst hpl hpq,λZ σ H Q r h=>?_⟩
 refine we Z σ H _ r (Wp.bnd h λd Z1 v H1 r1 i1 g1 h1=>?_)
 cases d<;>try exact h1.elim
 rename_i ds
 cases hn:jZ ds with
 |none=>simp only[hn]at h1;exact h1.elim
 |some ns=>
  simp only[hn]at h1
  by_cases hl:(St.addL [] ns).length<64
  case neg=>simp only[hl,if_false]at h1;exact h1.elim
  simp only[hl,if_true]at h1
  obtain⟨a,ys,rfl,hA,ta,il⟩:=i1
  have ey:=uv il hn
  subst ey
  exact⟨a,ns,rfl,.inl (.inl ta),hl,λp' H2 hp sm h2=>h1 _ H2 (r1.same sm) ⟨p',_,rfl,r1.new hp,h2,qbh _⟩ (.of_same sm)⟩
end
end L2.Sk
set_option maxHeartbeats 1000000
namespace L2.Sk
open PySem PySem.Spec PyProof.Rows
section
variable{X:Cx}{c:Fc}{e:Expr}{es:List Expr}{pos:Pos}
theorem qgi {k:Nat} {f:Addr} {fd:yaL} {ps:List Str} {F:List D->R D} {x:Str} {p:Pos} {g:M (List D)} {cl:Str->Option Addr}
  (G:uq X.prog X.w X.K X.mg X.base (CX1 X.prog X.w) k f fd ps (spX X.K cl F)) (hr:yc k X.A) (hg:Gl X x) (hm:X.mg x=some (.ref f)) (hk:yaq X.K (.ref f)=true) (hb:yt X.K fd ps [])
  (ha:DA X c (e::es) g) (hd:(x==("__debug__":Str))=false:=by decide) (he:yad (e::es) X.env=(false,eval e X.env)::yad es X.env:=by rfl) (hpl:(yaI pos (yad es X.env)).any (·.1)=false:=by rfl):DN X c (.Call (.Name x p) (e::es) [] pos) (yI F g):=by
 obtain⟨t,pa,w⟩:=ha
 refine⟨_,ve (E:=λ_ _ _=>False) G hr hg hm hk hb .nil (λ_ _ _ _ _ _ _ ⟨_,_,_,_,_,_,_,_,_,_,_,_,_,_,z⟩=>z.elim) pa hd he hpl,λZ σ H Q r h=>w Z σ H _ r (WpL.bndN h λds Z1 vs H1 r1 i1 g1 h1=>?_)⟩
 rw[yaK]
 by_cases him:immFs ds=true
 ·rw [if_pos him]at h1
  refine⟨ds,λ_=>False,IsL.immF him i1,r1.tb,?_⟩
  cases ef:F ds with
  |bad=>simp only[ef]at h1;exact h1.elim
  |exc z Z'=>simp only[ef]at h1;exact h1.elim
  | ok d=>
   cases d with
   | lst bs=>
    simp only[ef]at h1
    by_cases hb2:immL bs=true
    ·rw[if_pos hb2]at h1
     intro v H' sm i
     obtain⟨a,xs,rfl,hA,ha2,il⟩:=i
     have hn:H1 a=none:=hA.elim yaW id
     exact h1 a xs H' hn (r1.same sm) (r1.apart_same hn sm) ha2 trivial (IsL.imm hb2 il) (.of_same sm)
    ·rw[if_neg hb2]at h1;exact h1.elim
   |_=>simp only[ef]at h1;exact h1.elim
 ·rw[if_neg him]at h1;exact h1.elim
theorem nCP {k j:Nat} {ps:List Str} {F:List D->R D} {x:Str} {p:Pos} {g:M (List D)} {cl:Str->Option Addr} (C:yg X.prog X.w X.K X.mg X.base k x ps (spX X.K cl F)) (hr:yc j X.A) (ha:DA X c (e::es) g)
  (hk:k<=j:=by decide) (hg:Gl X x:=by rfl) (hd:(x==("__debug__":Str))=false:=by decide) (he:yad (e::es) X.env=(false,eval e X.env)::yad es X.env:=by rfl) (hpl:(yaI pos (yad es X.env)).any (·.1)=false:=by rfl):DN X c (.Call (.Name x p) (e::es) [] pos) (yI F g):=by
 obtain⟨f,fd,G,m,kk,b⟩:=C.ex
 exact qgi G (hr.mono hk) hg m kk b ha hd he hpl
end
end L2.Sk
namespace L2.Sk
namespace Law
open PySem PySem.Spec PyProof.Rows
set_option maxHeartbeats 4000000
theorem qhl(ds:List D)(r:Env):zc 0 (some (.lst ds)::r)=some ds:=rfl
theorem qhm(i:Nat)(o:Option D)(r:Env):zc (i+1) (o::r)=zc i r:=rfl
theorem ix0(a b c:D):ixD (.tup [a,b,c]) (.int 0)=some a:=rfl
theorem ix1(a b c:D):ixD (.tup [a,b,c]) (.int 1)=some b:=rfl
theorem ix2(a b c:D):ixD (.tup [a,b,c]) (.int 2)=some c:=rfl
theorem qb7(i j:Int):neB (.int i) (.int j)=some (.bl (!decide (i=j))):=rfl
theorem vN(i j:Int):eqB (.int i) (.int j)=some (.bl (decide (i=j))):=rfl
theorem vO(ds:List D):qbQ (tyD (.tup ds)) "tuple"=true:=rfl
theorem ul(ds:List D):qbF [.tup ds]=some (.int ds.length):=rfl
theorem qbi(d:D):isN d .non=some (.bl (yp d)):=rfl
theorem qeO(d:D):qno d .non=some (.bl (!yp d)):=rfl
theorem uF(i j:Int):gtD (.int i) (.int j)=some (.bl (decide (j<i))):=rfl
theorem qeP(i j:Int):ltD (.int i) (.int j)=some (.bl (decide (i<j))):=rfl
theorem qau(i j:Int):leD (.int i) (.int j)=some (.bl (decide (i<=j))):=rfl
local macro_rules | `(tactic| push_cast [$xs,*]) => `(tactic| simp only [jm, qic, qmE, j4, qct, qem, qgV, qlT, qmF, vE, u9, qgW, qid, uS, qgX, qcu, qen, qgY, qkq, qgZ, qie, qif, qa8, qcv, qbT, qaa, qg1, qg2, qg3, ud, qg4, qeo, qg5, qa9, qbU, qg6, qep, qeq, qer, qg7, vF, qkr, qes, lC_, lN_, mC_, List.map_nil, List.replicate, List.nil_append, List.cons_append, List.append_nil, List.getElem?_cons_zero, List.getElem?_cons_succ, List.set_cons_zero, List.set_cons_succ, Nat.reduceAdd, Nat.reduceSub, Nat.sub_self, Nat.zero_add, reduceIte, Bool.not_true, Bool.not_false, Bool.false_eq_true, if_true, if_false, ite_true, ite_false, cond_true, cond_false, decide_true, decide_false, ix0, ix1, ix2, vO, ul, qb7, vN, qbi, qeO, uF, qeP, qau, qhl, qhm, qah, qcH, qcI, qhe, qex, qet, $xs,*])
theorem qcR {n p:Nat} {body:MS} {ds:List D} {d:D} (h:ds.length=p) (e:∃Z,body (jm n ds)=.ok (.rt d Z)):dfn n p body ds=.ok d:=by
 obtain⟨Z,e⟩:=e
 exact qig h e
def qiQ:D->Bool
 |.int _=>true
 |_=>false
def jI:D->Bool
 |.int i=>decide (0<=i)
 |_=>false
def qeQ:D->Bool
 |.int i=>decide (0<i)
 |_=>false
def yM:D->Bool
 |.tup [a,b,c]=>qeQ a&&jI b&&(yp c||jI c)
 |_=>false
theorem qnE {ds:List D} (h:ds.length=3):∃a b c,ds=[a,b,c]:=by
 match ds,h with
 | [a,b,c],_=>exact⟨a,b,c,rfl⟩
theorem qdz {ds:List D} (h:ds.length≠3):yM (.tup ds)=false:=by
 match ds,h with
 | [],_=>rfl
 | [_],_=>rfl
 | [_,_],_=>rfl
 | [a,b,c],h=>exact absurd rfl h
 |_::_::_::_::_,_=>rfl
theorem qz{p q:MS}{Z Z':Env}(h:p Z=.ok (.nx Z')):qM p q Z=q Z':=by rw[qg0,h]
theorem qbj{p q:MS}{Z Z':Env}{d:D}(h:p Z=.ok (.rt d Z')):qM p q Z=.ok (.rt d Z'):=by rw[qg0,h]
theorem qkS {e:M D} {f:D->D}:∀(ds acc:List D)(o:Option D),(∀d∈ds,e [some d]=.ok (f d,[some d]))->acc.length+ds.length<=1000->∃Z',qX (qg 0) (ret true) e ds acc [o]=.ok (acc++ds.map f,Z')
 | [],acc,o,_,_=>⟨[o],by simp[qX]⟩
 |d::ds,acc,o,h,hl=>by
  have hl':acc.length+(ds.length+1)<=1000:=hl
  obtain⟨Z',q⟩:=qkS ds (acc++[f d]) (some d) (λx hx=>h x (mM _ hx)) (by rw[lA_,ybh];omega)
  refine⟨Z',?_⟩
  unfold qX
  simp only[qg,ycy,ret,h d mS_,jM (show acc.length+1<=1000000 by omega),if_true,q]
  simp
theorem qbk (f:D->Bool):∀ds:List D,y9 (ds.map λd=>D.bl (f d))=some (ds.map f)
 | []=>rfl
 |d::ds=>by simp[y9,qbk f ds]
theorem all_map {ds:List D} {f:D->Bool}:qja [.lst (ds.map λd=>D.bl (f d))]=some (.bl (ds.all f)):=by
 simp only[qja,qbk,ydd]
 congr 2
 rw[yfx]
 rfl
theorem qiR {F:List D->R D} {f:D->Bool} {xs:M (List D)} {ds:List D} {Z:Env} (hx:xs Z=.ok (ds,Z)) (hF:∀d∈ds,F [d]=.ok (.bl (f d))) (hl:ds.length<=1000) :
  qF qja (qa (zP 1 [] none xs (qg 0) (ret true) (qr F (qa (dv 0) (ret [])))) (ret [])) Z=.ok (.bl (ds.all f),Z):=by
 obtain⟨Z',q⟩:=qkS (e:=qr F (qa (dv 0) (ret []))) (f:=λd=>D.bl (f d)) ds [] none (λx hm=>by push_cast [];rw[hF x hm]) (by simpa using hl)
 have q':qX (qg 0) (ret true) (qr F (qa (dv 0) (ret []))) ds [] (zL 1 [] Z)=.ok ([]++ds.map λd=>D.bl (f d),Z'):=q
 simp only[vE,j4,qab,hx,q',qic,ybf,all_map]
 rfl
def yW:D->Bool
 |.tup ds=>decide (ds.length<=12)&&ds.all yM
 |_=>false
def leI:D->D->Bool
 |.int i,.int j=>decide (i<=j)
 |_,_=>false
def qma (k x:D):Bool:=match k with
 |.tup [_,_,m]=>jI x&&(yp m||leI x m)
 |_=>false
def qcS:List D->List D->Bool
 |k::ks,x::xs=>qma k x&&qcS ks xs
 |_,_=>true
def qm2:D->D->Bool
 |.tup xs,.tup ks=>decide (xs.length=ks.length)&&qcS ks xs
 |_,_=>false
theorem yh {l:M (List D)} {Z Z1:Env} {j:Int} (e:l Z=.ok ([.int j],Z1)) (h0:0<=j) (h:j<=1000000):jd l Z=.ok (v6 0 j.toNat,Z1):=by
 have h1:(-(2 ^ 62)<=j):=by omega
 have h2:(j<2 ^ 62):=by omega
 have e2:qfL [.int j]=some (v6 0 j.toNat):=by
  simp only[qfL,h1,h2,decide_true,ya1,if_true]
 have e3:jd l Z=lift (qfL [.int j]) Z1:=by
  show bnd l (λds=>lift (qfL ds)) Z=_
  rw[qlS,e]
 rw[e3,e2]
 rfl
theorem qeR {n m:Int} (h0:0<m) (h1:m<1606938044258990275541962092341162602522202993782792835301376):vp [.int n,.int m]=some (.tup [.int (n/m),.int (n%m)]):=by
 simp only[vp,qde,h0,h1,decide_true,ya1,if_true]
theorem at0 (d:D) (r:List D):atI (d::r) 0=some d:=by
 unfold atI ixN
 rw[if_pos (by omega),if_pos (by simp)]
 rfl
theorem qnF:ixN 1 0=some 0:=by decide
theorem zM(i j:Int):zw (.int i) (.int j)=some (.int (i+j)):=rfl
theorem qgj(i j:Int):qlN (.int i) (.int j)=some (.int (i-j)):=rfl
theorem qkT {ds:List D} {k:Int} (h0:0<=k) (h1:k<ds.length):∃d∈ds,ixD (.lst ds) (.int k)=some d:=by
 obtain⟨i,rfl⟩:=yef h0
 have hi:i<ds.length:=by omega
 refine⟨ds[i],yea hi,?_⟩
 show atI ds (i:Int)=_
 unfold atI ixN
 rw[if_pos (by omega),if_pos (by omega)]
 show ds[(i:Int).toNat]? = _
 rw[ybl,gG hi]
theorem qgk(j:Nat):(v6 0 j).length=j:=by simp[v6]
theorem uo {i j:Int} (h:0<j):qbE (.int i) (.int j)=some (.int (i%j)):=by
 simp only[qbE,qi8,h,decide_true,if_true]
theorem qbl {i j:Int} (h:0<j) (h1:j<1606938044258990275541962092341162602522202993782792835301376):qd9 (.int i) (.int j)=some (.int (i/j)):=by
 simp only[qd9,qi8,qde,h,h1,decide_true,ya1,if_true]
theorem qgl {i j:Int} (h:zR i=true):z7 (.int i) (.int j)=some (.int (i*j)):=by
 simp only[z7,qd8,h,yfy,if_true]
theorem qdA {i j:Int} (h:zR j=true):z7 (.int i) (.int j)=some (.int (i*j)):=by
 simp only[z7,qd8,h,yfn,if_true]
theorem qeS {i:Int} (h0:0<=i) (h1:i<2000000000):zR i=true:=by
 unfold zR
 rw[yan,decide_eq_true_eq,decide_eq_true_eq]
 constructor<;>omega
def facts:List Int:=[48271,69621,16807,39373,30269,40014,40692,50021,61687,71993,83869,95561,30307]
structure qfm (w e:Nat) (d:D):Prop where
 lv:(zB d).leavesShort 40=true
 sh:(zB d).showable=true
 wt:(zB d).weight<=w
 dp:(zB d).depth<=e
theorem qav {w e:Nat}:∀ds:List D,(∀d∈ds,qfm w e d)->yeM 40 (toPDs ds)=true/\yb4 (toPDs ds)=true/\PyData.weightAll (toPDs ds)<=ds.length*(w+1)/\PyData.depthAll (toPDs ds)<=e
 | [],_=>⟨rfl,rfl,ya5 _,ya5 _⟩
 |d::ds,h=>by
  obtain⟨h1,h2,h3,h4⟩:=qav ds λx hx=>h x (mM _ hx)
  have g:=h d mS_
  have g3:=g.wt
  have g4:=g.dp
  simp only[toPDs,yeM,yb4,PyData.weightAll,PyData.depthAll,h1,h2,g.lv,g.sh,ya1,true_and,lC_,yfi]
  omega
theorem qll {w e n:Nat} {ds:List D} (h:∀d∈ds,qfm w e d) (hl:ds.length<=n):qfm (n*(w+1)) (e+1) (.tup ds):=by
 obtain⟨h1,h2,h3,h4⟩:=qav ds h
 refine⟨?_,?_,?_,?_⟩
 ·simp only[zB,yfz,h1]
 ·simp only[zB,yc9,h2]
 ·simp only[zB,PyData.weight]
  exact yaF h3 (yde _ hl)
 ·simp only[zB,PyData.depth]
  omega
theorem qgm {w e n:Nat} {ds:List D} (h:∀d∈ds,qfm w e d) (hl:ds.length<=n):qfm (n*(w+1)) (e+1) (.lst ds):=by
 obtain⟨h1,h2,h3,h4⟩:=qav ds h
 refine⟨?_,?_,?_,?_⟩
 ·simp only[zB,yfz,h1]
 ·simp only[zB,yc9,h2]
 ·simp only[zB,PyData.weight]
  exact yaF h3 (yde _ hl)
 ·simp only[zB,PyData.depth]
  omega
def dl(d:D):Bool := !(zB d).hasDict||noL d
def plain(d:D):Bool := !(zB d).hasDict&&noL d
theorem qeT {w e:Nat} {d:D} (h:qfm w e d) (hw:w<=100000) (he:e<=50) (hd:dl d=true):vB d=true:=by
 have h1:=PyData.shown_le 40 (by omega) _ h.lv
 have h2:(40+2)*(zB d).weight<=42*100000:=Nat.mul_le_mul_left _ (yaF h.wt hw)
 have h3:=h.dp
 have e1:(zB d).shown.length<=yas:=by rw[yfJ];omega
 have e2:(zB d).depth<=50:=by omega
 unfold dl at hd
 simp only[vB,h.sh,e1,e2,decide_true,ybC,hd]
theorem qbm:∀xs:List D,(∀d∈xs,plain d=true)->yfV (toPDs xs)=false/\noLs xs=true
 | [],_=>⟨rfl,rfl⟩
 |x::xs,h=>by
  obtain⟨h1,h2⟩:=qbm xs λy hy=>h y (mM _ hy)
  have g:=h x mS_
  unfold plain at g
  rw[yan,yfL]at g
  simp[toPDs,yfV,noLs,h1,h2,g.1,g.2]
theorem qgn {xs ys:List D} (h:xs.length+ys.length<=1000000):zw (.lst xs) (.lst ys)=some (.lst (xs++ys)):=by
 simp only[zw,jM h,if_true]
theorem qgo {xs ys:List D} (h:xs.length+ys.length<=1000000):zw (.tup xs) (.tup ys)=some (.tup (xs++ys)):=by
 simp only[zw,jM h,if_true]
def pt (p:Int):D->Int
 |.tup [.int a,.int b,_]=>if p=0 then a else b
 |_=>0
def num:D->Int
 |.int x=>x
 |_=>0
def qmb (p:Int):List D->List D->List Int
 |k::ks,x::xs=>(pt p k*num x)::qmb p ks xs
 |_,_=>[]
theorem qaw:∀ns:List Int,jZ (ns.map D.int)=some ns
 | []=>rfl
 |n::ns=>by simp[jZ,qaw ns]
theorem qgp {i:Int} (h:i.natAbs<10 ^ 39):qfm 130 0 (.int i):=by
 have hl:i.natAbs.log2<130:=by
  by_cases h0:i.natAbs=0
  ·rw[h0];decide
  ·refine(Nat.log2_lt h0).mpr (yau h (by decide +kernel))
 refine⟨?_,?_,?_,yag _⟩
 ·show decide ((PyData.shown (.int i)).length<=40)=true
  refine decide_eq_true ?_
  have e:=int_text_length_le10 (k:=39) (by decide) h
  show(ybo (toString i)).length<=40
  rw[PySem.ofString_length]
  exact e
 ·show decide (i.natAbs.log2<1920)=true
  exact decide_eq_true (by omega)
 ·show(if(i==0)=true then 0 else i.natAbs.log2+1)<=130
  split<;>omega
theorem qb8 (x:Str):neB (.str x) (.str x)=some (.bl false):=by
 show some (D.bl (!decide (x=x)))=_
 rw[decide_eq_true rfl];rfl
theorem qmc {F:List D->R D} {f g h:M D} {Z:Env} {a b c d:D} (hf:f Z=.ok (a,Z)) (hg:g Z=.ok (b,Z)) (hh:h Z=.ok (c,Z)) (e:F [a,b,c]=.ok d):qr F (qa f (qa g (qa h (ret [])))) Z=.ok (d,Z):=by
 have e1:qa h (ret []) Z=.ok ([c],Z):=by rw[j4,hh];rfl
 have e2:qa g (qa h (ret [])) Z=.ok ([b,c],Z):=by rw[j4,hg];dsimp only;rw[e1]
 have e3:qa f (qa g (qa h (ret []))) Z=.ok ([a,b,c],Z):=by rw[j4,hf];dsimp only;rw[e2]
 rw[u9,e3]
 dsimp only
 rw[e]
theorem uT {F:List D->Option D} {f:M D} {Z:Env} {a d:D} (hf:f Z=.ok (a,Z)) (e:F [a]=some d):qF F (qa f (ret [])) Z=.ok (d,Z):=by
 have e0:qa f (ret []) Z=.ok ([a],Z):=by rw[j4,hf];rfl
 rw[vE,e0]
 dsimp only
 rw[e]
theorem qgq(i j:Int):qaZ [.int i,.int j]=some (.int (if j<i then j else i)):=rfl
theorem qiS {α:Type} {e:M D} {t:M Bool} {k f:α->D} {p:α->Bool} {r:Env}:∀(as:List α)(acc:List D)(o:Option D),(∀a∈as,t (some (k a)::r)=.ok (p a,some (k a)::r))->(∀a∈as,p a=true->e (some (k a)::r)=.ok (f a,some (k a)::r))->acc.length+as.length<=1000000 ->
  ∃o',qX (qg 0) t e (as.map k) acc (o::r)=.ok (acc++(as.filter p).map f,o'::r)
 | [],acc,o,_,_,_=>⟨o,by simp[qX]⟩
 | a::as,acc,o,ht,he,hl=>by
  have hl':acc.length+(as.length+1)<=1000000:=hl
  have h1:=ht a mS_
  rw[mC_]
  unfold qX
  simp only[qg,ycy,h1]
  cases hp:p a with
  |false=>
   obtain⟨o',q⟩:=qiS as acc (some (k a)) (λx hx=>ht x (mM _ hx)) (λx hx=>he x (mM _ hx)) (by omega)
   refine⟨o',?_⟩
   simp only[q,ft_,hp,yaO,if_false]
  |true=>
   obtain⟨o',q⟩:=qiS as (acc++[f a]) (some (k a)) (λx hx=>ht x (mM _ hx)) (λx hx=>he x (mM _ hx)) (by rw[lA_,ybh];omega)
   refine⟨o',?_⟩
   simp only[he a mS_ hp,jM (show acc.length+1<=1000000 by omega),if_true,q,ft_,hp,mC_,aA_,yc2]
theorem qkU {α:Type} {e:M D} {t:M Bool} {k:α->D} {xs:M (List D)} {Z r:Env} {fr:List Nat} (as:List α) (p:α->Bool) (f:α->D) (hx:xs Z=.ok (as.map k,Z)) (hr:zL 1 fr Z=none::r) (hl:as.length<=1000000)
  (ht:∀a∈as,t (some (k a)::r)=.ok (p a,some (k a)::r)) (he:∀a∈as,p a=true->e (some (k a)::r)=.ok (f a,some (k a)::r)):zP 1 fr none xs (qg 0) t e Z=.ok (.lst ((as.filter p).map f),Z):=by
 obtain⟨o',q⟩:=qiS as [] none ht he (by simpa using hl)
 rw[qab,hx]
 simp only[hr,q,ybf]
 rfl
theorem vP{α:Type}(as:List α):as.filter (λ_=>true)=as:=by simp
theorem qeU {α:Type} {e:M D} {k:α->D} {xs:M (List D)} {Z r:Env} {fr:List Nat} (as:List α) (f:α->D) (hx:xs Z=.ok (as.map k,Z)) (hr:zL 1 fr Z=none::r) (hl:as.length<=1000000)
  (he:∀a∈as,e (some (k a)::r)=.ok (f a,some (k a)::r)):zP 1 fr none xs (qg 0) (ret true) e Z=.ok (.lst (as.map f),Z):=by
 rw[qkU as (λ_=>true) f hx hr hl (λ_ _=>rfl) λa ha _=>he a ha,vP]
theorem qbn {α β:Type} {G:D->Env->Option Env} {b:MS} {k:α->D} {step:β->α->β} {Inv:Nat->β->Env->Prop}:∀(as:List α)(n:Nat)(s:β)(Z:Env),Inv n s Z ->
  (∀a∈as,∀m s Z,n<=m->m<n+as.length->Inv m s Z->∃Z1 Z2,G (k a) Z=some Z1/\b Z1=.ok (.nx Z2)/\Inv (m+1) (step s a) Z2) ->
  ∃Z',yf G b (as.map k) Z=.ok (.nx Z')/\Inv (n+as.length) (as.foldl step s) Z'
 | [],n,s,Z,h,_=>⟨Z,rfl,h⟩
 | a::as,n,s,Z,h,H=>by
  obtain⟨Z1,Z2,h1,h2,h3⟩:=H a mS_ n s Z (yag _) (by rw[lC_];omega) h
  obtain⟨Z',q,w⟩:=qbn as (n+1) (step s a) Z2 h3 λx hx m s Z m1 m2=>H x (mM _ hx) m s Z (by omega) (by rw[lC_];omega)
  refine⟨Z',?_,?_⟩
  ·rw[mC_]
   unfold yf
   simp only[h1,h2]
   exact q
  ·rw[lC_,show n+(as.length+1)=n+1+as.length by omega]
   exact w
theorem qdB{f:M D}{Z:Env}{a:D}(hf:f Z=.ok (a,Z)):qa f (ret []) Z=.ok ([a],Z):=by rw[j4,hf];rfl
theorem qgr{f g:M D}{Z:Env}{a b:D}(hf:f Z=.ok (a,Z))(hg:g Z=.ok (b,Z)):qa f (qa g (ret [])) Z=.ok ([a,b],Z):=by rw[j4,hf];simp only[qdB hg]
theorem qmd{f g h:M D}{Z:Env}{a b c:D}(hf:f Z=.ok (a,Z))(hg:g Z=.ok (b,Z))(hh:h Z=.ok (c,Z)):qa f (qa g (qa h (ret []))) Z=.ok ([a,b,c],Z):=by rw[j4,hf];simp only[qgr hg hh]
theorem qnG{f g h:M D}{Z:Env}{a b c:D}(hf:f Z=.ok (a,Z))(hg:g Z=.ok (b,Z))(hh:h Z=.ok (c,Z)):y0 (qa f (qa g (qa h (ret [])))) Z=.ok (.tup [a,b,c],Z):=by rw[qct,qmd hf hg hh];simp only[lC_,lN_,jM (show 0+1+1+1<=1000000 by omega),if_true]
theorem qbo{F:List D->R D}{f g:M D}{Z:Env}{a b d:D}(hf:f Z=.ok (a,Z))(hg:g Z=.ok (b,Z))(e:F [a,b]=.ok d):qr F (qa f (qa g (ret []))) Z=.ok (d,Z):=by rw[u9,qgr hf hg];simp only[e]
theorem qG{F:D->D->Option D}{f g:M D}{Z:Env}{a b d:D}(hf:f Z=.ok (a,Z))(hg:g Z=.ok (b,Z))(e:F a b=some d):d2 F f g Z=.ok (d,Z):=by rw[qlT,hf];simp only[hg,e]
theorem yN{f:M D}{Z:Env}{b:Bool}(hf:f Z=.ok (.bl b,Z)):tst f Z=.ok (b,Z):=by rw[qid,hf];rfl
theorem qme{t:M Bool}{p q:MS}{Z:Env}(h:t Z=.ok (false,Z)):sif t p q Z=q Z:=by rw[qif,h];rfl
theorem qbp {i:Nat} {f:M D} {Z:Env} {ds:List D} {d:D} (h:zc i Z=some ds) (hf:f Z=.ok (d,Z)) (hi:imm d=true) (hl:ds.length<1000000):z9 (qZ i f) Z=.ok (.nx (Z.set i (some (.lst (ds++[d]))))):=by
 simp only[qaa,vF,h,hf,hi,jM (show ds.length+1<=1000000 by omega),ya1,if_true]
theorem yx {G:D->Env->Option Env} {b:MS} {d:D} {ds:List D} {Z Z1 Z2:Env} (h1:G d Z=some Z1) (h2:b Z1=.ok (.nx Z2)):yf G b (d::ds) Z=yf G b ds Z2:=by
 show(match G d Z with|none=>R.bad|some Z1=>_)=_
 rw[h1]
 simp only[h2]
def mD:Option Int->D
 |none => .non
 |some j => .int j
abbrev Kd:=Int×Int×Option Int
def kD(x:Kd):D:=.tup [.int x.1,.int x.2.1,mD x.2.2]
theorem qkV(m:Option Int):imm (mD m)=true:=by cases m<;>rfl
theorem qkW (x:Kd):imm (kD x)=true:=by
 simp only[kD,imm,immL,qkV,ya1]
theorem qax {α:Type} {f:α->D}:∀{as:List α},(∀a∈as,imm (f a)=true)->immL (as.map f)=true
 | [],_=>rfl
 |a::as,h=>by simp only[mC_,immL,h a mS_,qax λx hx=>h x (mM _ hx),ya1]
def okK(x:Kd):Prop:=0<x.1/\0<=x.2.1/\(∀j,x.2.2=some j->0<=j)
theorem qeV {x:Kd} (h:okK x):yM (kD x)=true:=by
 obtain⟨a,b,m⟩:=x
 obtain⟨h1,h2,h3⟩:=h
 have e1:qeQ (.int a)=true:=decide_eq_true h1
 have e2:jI (.int b)=true:=decide_eq_true h2
 cases m with
 |none=>simp only[kD,mD,yM,e1,e2,yp,ybC,yfy]
 |some j=>
  have e3:jI (.int j)=true:=decide_eq_true (h3 j rfl)
  simp only[kD,mD,yM,e1,e2,e3,ybC,yfn]
theorem qcT(m:Option Int):yp (mD m)=m.isNone:=by cases m<;>rfl
theorem qhn {α:Type} {ds:List α} {n:Nat} {d:α} (h:ds[n]? = some d):atI ds (n:Int)=some d:=by
 unfold atI ixN
 have hl:=(gI_.mp h).1
 rw[if_pos (by omega),if_pos (by omega)]
 show ds[(n:Int).toNat]? = _
 rw[ybl];exact h
theorem qgs(lo:Int)(n:Nat):v6 lo n=(yat n).map λi=>D.int (lo+(i:Nat)):=rfl
theorem qgt {α:Type} {as:List α} {f:α->Int}:qj3 [.lst (as.map λa=>D.int (f a))]=some (.int (as.map f).sum):=by
 have:jZ (as.map λa=>D.int (f a))=some (as.map f):=by
  have:=qaw (as.map f)
  rw[mm_]at this
  exact this
 simp only[qj3,this,ydd]
theorem qeW {α:Type} {e:M D} {t:M Bool} {u v f:α->D} {p:α->Bool} {r:Env}:∀(as:List α)(acc:List D)(o o':Option D),(∀a∈as,t (some (u a)::some (v a)::r)=.ok (p a,some (u a)::some (v a)::r))->(∀a∈as,p a=true->e (some (u a)::some (v a)::r)=.ok (f a,some (u a)::some (v a)::r))->acc.length+as.length<=1000000 ->
  ∃o1 o2,qX (ut 2 (qo (qg 0) (qo (qg 1) ur))) t e (as.map λa => .tup [u a,v a]) acc (o::o'::r)=.ok (acc++(as.filter p).map f,o1::o2::r)
 | [],acc,o,o',_,_,_=>⟨o,o',by simp[qX]⟩
 | a::as,acc,o,o',ht,he,hl=>by
  have hl':acc.length+(as.length+1)<=1000000:=hl
  have h1:=ht a mS_
  rw[mC_]
  unfold qX
  have hg:ut 2 (qo (qg 0) (qo (qg 1) ur)) (.tup [u a,v a]) (o::o'::r)=some (some (u a)::some (v a)::r):=rfl
  simp only[hg,h1]
  cases hp:p a with
  |false=>
   obtain⟨o1,o2,q⟩:=qeW as acc (some (u a)) (some (v a)) (λx hx=>ht x (mM _ hx)) (λx hx=>he x (mM _ hx)) (by omega)
   refine⟨o1,o2,?_⟩
   simp only[q,ft_,hp,yaO,if_false]
  |true=>
   obtain⟨o1,o2,q⟩:=qeW as (acc++[f a]) (some (u a)) (some (v a)) (λx hx=>ht x (mM _ hx)) (λx hx=>he x (mM _ hx)) (by rw[lA_,ybh];omega)
   refine⟨o1,o2,?_⟩
   simp only[he a mS_ hp,jM (show acc.length+1<=1000000 by omega),if_true,q,ft_,hp,mC_,aA_,yc2]
theorem qiT {α:Type} {e:M D} {t:M Bool} {u v:α->D} {xs:M (List D)} {Z r:Env} {fr:List Nat} (as:List α) (p:α->Bool) (f:α->D) (hx:xs Z=.ok (as.map λa => .tup [u a,v a],Z)) (hr:zL 2 fr Z=none::none::r) (hl:as.length<=1000000)
  (ht:∀a∈as,t (some (u a)::some (v a)::r)=.ok (p a,some (u a)::some (v a)::r)) (he:∀a∈as,p a=true->e (some (u a)::some (v a)::r)=.ok (f a,some (u a)::some (v a)::r)):zP 2 fr none xs (ut 2 (qo (qg 0) (qo (qg 1) ur))) t e Z=.ok (.lst ((as.filter p).map f),Z):=by
 obtain⟨o1,o2,q⟩:=qeW as [] none none ht he (by simpa using hl)
 rw[qab,hx]
 simp only[hr,q,ybf]
 rfl
theorem qm3 (n:Nat):v6 0 n=(yat n).map λi=>D.int (i:Nat):=by
 unfold v6
 refine mL_ λi _=>?_
 rw[yec]
theorem qbq{i:Int}(h:i.natAbs<10 ^ 39):qfm 130 0 (.int i):=qgp h
end Law
end L2.Sk
namespace L2.Sk.Law
def yq:Nat->(Nat->Nat)->Nat
 |0,_=>0
 |n+1,f=>yq n f+f n
theorem zU {f g:Nat->Nat}:∀{n:Nat},(∀t,t<n->f t=g t)->yq n f=yq n g
 |0,_=>rfl
 |n+1,h=>by
  unfold yq
  rw[zU λt ht=>h t (by omega),h n (by omega)]
theorem vQ:∀n:Nat,yq n (λ_=>0)=0
 |0=>rfl
 |n+1=>by show yq n (λ_=>0)+0=0;rw[vQ n]
theorem qcU {f g:Nat->Nat}:∀n:Nat,yq n (λt=>f t+g t)=yq n f+yq n g
 |0=>rfl
 |n+1=>by
  show yq n (λt=>f t+g t)+(f n+g n)=(yq n f+f n)+(yq n g+g n)
  rw[qcU n];omega
theorem qbr {f:Nat->Nat->Nat} (m:Nat):∀n:Nat,yq n (λs=>yq m λt=>f s t)=yq m λt=>yq n λs=>f s t
 |0=>by show 0=yq m λt=>0;rw[vQ]
 |n+1=>by
  show yq n (λs=>yq m λt=>f s t)+yq m (λt=>f n t)=yq m λt=>yq n (λs=>f s t)+f n t
  rw[qbr m n,qcU]
theorem qbs {f:Nat->Nat} {n:Nat}:∀k:Nat,(∀t,n<=t->f t=0)->yq (n+k) f=yq n f
 |0,_=>rfl
 |k+1,h=>by
  show yq (n+k) f+f (n+k)=_
  rw[qbs k h,h (n+k) (by omega),Nat.add_zero]
structure Kw where
 w:Int
 v:Int
 m:Option Int
def okT(k:Kw)(t:Nat)(r:Int):Bool:=decide ((t:Int)*k.w<=r)&&(match k.m with|none=>true|some j=>decide ((t:Int)<=j))
def v3 (N:Nat) (φ:Int->Nat):List Kw->Int->Int->Nat
 | [],_,y=>φ y
 |k::ks,r,y=>yq (N+1) λt=>if okT k t r then v3 N φ ks (r-t*k.w) (y+t*k.v)else 0
theorem qeX {b:Bool} {n:Nat} {f:Nat->Nat}:(if b then yq n f else 0)=yq n λt=>if b then f t else 0:=by
 cases b with
 |true=>rfl
 |false=>simp only[yaO,if_false];rw[vQ]
theorem qgu {a k:Kw} (ha:0<=a.w) (hk:0<=k.w) (s t:Nat) (r:Int):(okT a s r&&okT k t (r-s*a.w))=(okT k t r&&okT a s (r-t*k.w)):=by
 have h1:0<=(s:Int)*a.w:=ycd (by omega) ha
 have h2:0<=(t:Int)*k.w:=ycd (by omega) hk
 unfold okT
 generalize (s:Int)*a.w=p at *
 generalize (t:Int)*k.w=q at *
 have e:(decide (p<=r)&&decide (q<=r-p))=(decide (q<=r)&&decide (p<=r-q)):=by
  rw[ybt]
  simp only[yan,decide_eq_true_eq]
  omega
 generalize (match a.m with|none=>true|some j=>decide ((s:Int)<=j))=x
 generalize (match k.m with|none=>true|some j=>decide ((t:Int)<=j))=y
 cases x<;>cases y<;>simp only[Bool.and_true,Bool.and_false,ycA]<;>exact e
theorem qbt {N:Nat} {φ:Int->Nat} {k:Kw} (hk:0<=k.w):∀(ks:List Kw)(r y:Int),(∀a∈ks,0<=a.w) ->
  v3 N φ (ks++[k]) r y=yq (N+1) λt=>if okT k t r then v3 N φ ks (r-t*k.w) (y+t*k.v)else 0
 | [],r,y,_=>rfl
 | a::ks,r,y,h=>by
  have ha:=h a mS_
  have h':∀b∈ks,0<=b.w:=λb hb=>h b (mM _ hb)
  show(yq (N+1) λs=>if okT a s r then v3 N φ (ks++[k]) (r-s*a.w) (y+s*a.v)else 0)=_
  have e1:∀s,(if okT a s r then v3 N φ (ks++[k]) (r-s*a.w) (y+s*a.v)else 0)=yq (N+1) λt=>if okT a s r&&okT k t (r-s*a.w)then v3 N φ ks (r-s*a.w-t*k.w) (y+s*a.v+t*k.v)else 0:=λs=>by
   rw[qbt hk ks _ _ h',qeX]
   refine zU λt _=>?_
   cases okT a s r<;>simp
  rw[zU λs _=>e1 s,qbr]
  refine zU λt _=>?_
  show _=if okT k t r then(yq (N+1) λs=>if okT a s (r-t*k.w)then v3 N φ ks (r-t*k.w-s*a.w) (y+t*k.v+s*a.v)else 0)else 0
  rw[qeX]
  refine zU λs _=>?_
  rw[qgu ha hk]
  have e2:r-(s:Int)*a.w-t*k.w=r-t*k.w-s*a.w:=by omega
  have e3:y+(s:Int)*a.v+t*k.v=y+t*k.v+s*a.v:=by omega
  rw[e2,e3]
  cases okT k t r<;>cases okT a s (r-t*k.w)<;>rfl
def ofn(k:Kw)(r:Int):Nat:=(match k.m with|none=>r/k.w|some j=>if j<r/k.w then j else r/k.w).toNat
theorem uG {k:Kw} (hw:1<=k.w) (hm:∀j,k.m=some j->0<=j) {r:Int} (hr:0<=r) (t:Nat):okT k t r=decide (t<=ofn k r):=by
 have hd:0<=r/k.w:=Int.ediv_nonneg hr (by omega)
 have he:((t:Int)*k.w<=r) ↔ ((t:Int)<=r/k.w):=(Int.le_ediv_iff_mul_le (by omega)).symm
 unfold okT ofn
 cases hk:k.m with
 |none=>
  dsimp only
  rw[Bool.and_true,ybt,decide_eq_true_eq,decide_eq_true_eq,he]
  omega
 |some j=>
  have hj:=hm j hk
  dsimp only
  rw[ybt,yan,decide_eq_true_eq,decide_eq_true_eq,decide_eq_true_eq,he]
  split<;>omega
theorem uU {k:Kw} (hw:1<=k.w) (hm:∀j,k.m=some j->0<=j) {r:Int} (hr:0<=r) {t:Nat} (h:t<=ofn k r):(t:Int)*k.w<=r/\(t:Int)<=r:=by
 have h1:okT k t r=true:=by rw[uG hw hm hr];exact decide_eq_true h
 unfold okT at h1
 rw[yan,decide_eq_true_eq]at h1
 refine⟨h1.1,Int.le_trans ?_ h1.1⟩
 have:=Int.mul_le_mul_of_nonneg_left hw (show(0:Int)<=t by omega)
 omega
theorem qbu {f:Nat->Nat} {n:Nat}:∀N:Nat,n<=N->yq (N+1) (λt=>if decide (t<=n)then f t else 0)=((yat (n+1)).map f).sum:=by
 intro N hN
 obtain⟨k,rfl⟩:=ycE hN
 have e:n+k+1=(n+1)+k:=by omega
 rw [e,qbs k (λt ht=>by
  have:¬t<=n:=by omega
  simp[this])]
 have e2:∀m,yq m f=((yat m).map f).sum:=by
  intro m
  induction m with
  |zero=>rfl
  |succ m ih=>
   show yq m f+f m=_
   rw[ih,List.range_succ,ybM,ydf]
   simp
 rw[<-e2]
 refine zU λt ht=>?_
 have:t<=n:=by omega
 simp[this]
def qay(k:Kw)(found:List (List Int×Int)):List (List Int×Int):=found.flatMap λp=>(yat (ofn k p.2+1)).map λ(t:Nat)=>(p.1++[(t:Int)],p.2-(t:Int)*k.w)
def ze:List Kw->List Int->Int
 |k::ks,t::ts=>t*k.v+ze ks ts
 |_,_=>0
theorem vR (k:Kw) (t:Int):∀(pre:List Kw)(ld:List Int),pre.length=ld.length->ze (pre++[k]) (ld++[t])=ze pre ld+t*k.v
 | [],[],_=>by simp[ze]
 |a::pre,s::ld,h=>by
  have:=vR k t pre ld (by simpa using h)
  simp only[List.cons_append,ze,this]
  omega
def zS(k:Kw):Prop:=1<=k.w/\∀j,k.m=some j->0<=j
theorem vS {α β:Type} (f:α->List β) (g:β->Nat):∀l:List α,((l.flatMap f).map g).sum=(l.map λa=>((f a).map g).sum).sum
 | []=>rfl
 |a::l=>by rw[fC_,ybM,ydf,mC_,ydJ,vS f g l]
theorem qeY {N:Nat} {φ:Int->Nat}:∀(ks pre:List Kw)(found:List (List Int×Int)),(∀k∈ks,zS k)->(∀p∈found,p.1.length=pre.length/\0<=p.2/\p.2<=N) ->
  ((ks.foldl (λf k=>qay k f) found).map λp=>φ (ze (pre++ks) p.1)).sum=(found.map λp=>v3 N φ ks p.2 (ze pre p.1)).sum
 | [],pre,found,_,_=>by rw[yaK];rfl
 | k::ks,pre,found,hk,hf=>by
  have gk:=hk k mS_
  have e0:pre++k::ks=(pre++[k])++ks:=by simp
  rw [fo_,e0,qeY ks (pre++[k]) (qay k found) (λa ha=>hk a (mM _ ha)) (λp hp=>by
   unfold qay at hp
   obtain⟨q,hq,hp⟩:=List.mem_flatMap.mp hp
   obtain⟨t,ht,rfl⟩:=mP_.mp hp
   have ht':t<=ofn k q.2:=by have:=mR_.mp ht;omega
   obtain⟨h1,h2,h3⟩:=hf q hq
   obtain⟨g1,_⟩:=uU gk.1 gk.2 h2 ht'
   have g2:0<=(t:Int)*k.w:=ycd (by omega) (by have:=gk.1;omega)
   refine⟨by simp[h1],by show 0<=q.2-t*k.w;omega,by show q.2-t*k.w<=N;omega⟩)]
  unfold qay
  rw[vS]
  congr 1
  apply mL_
  intro p hp
  obtain⟨h1,h2,h3⟩:=hf p hp
  rw[mm_]
  show _=yq (N+1) λt=>if okT k t p.2 then v3 N φ ks (p.2-t*k.w) (ze pre p.1+t*k.v)else 0
  have hn:ofn k p.2<=N:=by
   have:=(uU gk.1 gk.2 h2 (yag (ofn k p.2))).2
   omega
  have e1:(λt:Nat=>if okT k t p.2 then v3 N φ ks (p.2-t*k.w) (ze pre p.1+t*k.v)else 0)=λt=>if decide (t<=ofn k p.2)then v3 N φ ks (p.2-t*k.w) (ze pre p.1+t*k.v)else 0:=by
   funext t
   rw[uG gk.1 gk.2 h2]
  rw[e1,qbu N hn]
  congr 1
  apply mL_
  intro t _
  show v3 N φ ks (p.2-t*k.w) (ze (pre++[k]) (p.1++[(t:Int)]))=_
  rw[vR k t pre p.1 h1.symm]
end L2.Sk.Law
namespace L2.Sk
namespace Law
open PySem PySem.Spec PyProof.Rows
set_option maxHeartbeats 4000000
theorem uH {N:Nat}:∀(ks:List Kw)(φ:Int->Nat)(r y:Int),v3 N φ ks r y=v3 N (λx=>φ (x+y)) ks r 0
 | [],φ,r,y=>by show φ y=φ (0+y);rw[yec]
 | k::ks,φ,r,y=>by
  show(yq (N+1) λt=>if okT k t r then v3 N φ ks (r-t*k.w) (y+t*k.v)else 0)=yq (N+1) λt=>if okT k t r then v3 N (λx=>φ (x+y)) ks (r-t*k.w) (0+t*k.v)else 0
  refine zU λt _=>?_
  rw[uH ks φ _ (y+t*k.v),uH ks (λx=>φ (x+y)) _ (0+t*k.v)]
  have e:(λx:Int=>φ (x+(y+t*k.v)))=λx=>φ (x+(0+t*k.v)+y):=by
   funext x
   congr 1
   omega
  rw[e]
theorem qeZ {φ:Int->Nat} {ks:List Kw} {k:Kw} (hk:zS k) (hks:∀a∈ks,zS a) {s:Int} (h0:0<=s) (h1:s<=20) (y:Int) :
  v3 20 φ (ks++[k]) s y=((yat (ofn k s+1)).map λ(t:Nat)=>v3 20 φ ks (s-t*k.w) (y+t*k.v)).sum:=by
 rw[qbt (by have:=hk.1;omega) ks s y λa ha=>by have:=(hks a ha).1;omega]
 have hn:ofn k s<=20:=by
  have:=(uU hk.1 hk.2 h0 (yag (ofn k s))).2
  omega
 have e1:(λt:Nat=>if okT k t s then v3 20 φ ks (s-t*k.w) (y+t*k.v)else 0)=λt=>if decide (t<=ofn k s)then v3 20 φ ks (s-t*k.w) (y+t*k.v)else 0:=by
  funext t
  rw[uG hk.1 hk.2 h0]
 rw[e1,qbu 20 hn]
def Zn(ks:List Kw)(s z:Int):Nat:=v3 20 (λy=>if y=z then 1 else 0) ks s 0
theorem qkX {ks:List Kw} {k:Kw} (hk:zS k) (hks:∀a∈ks,zS a) {s:Int} (h0:0<=s) (h1:s<=20) (z:Int):Zn (ks++[k]) s z=((yat (ofn k s+1)).map λ(t:Nat)=>Zn ks (s-t*k.w) (z-t*k.v)).sum:=by
 unfold Zn
 rw[qeZ hk hks h0 h1]
 congr 1
 refine mL_ λt _=>?_
 rw[uH]
 have e:(λx:Int=>if x+(0+t*k.v)=z then 1 else 0)=λx=>if x=z-t*k.v then 1 else 0:=by
  funext x
  by_cases h:x=z-t*k.v
  ·rw[if_pos h,if_pos (by omega)]
  ·rw[if_neg h,if_neg (by omega)]
 rw[e]
structure qm4 (ks:List Kw) (s:Int) (p:Int×Nat):Prop where
 at_:Zn ks s p.1=p.2
 pos:0<p.2
 no:∀z,p.1<z->Zn ks s z=0
def qe0(ks:List Kw)(r:Int):List (List Int×Int):=ks.foldl (λf k=>qay k f) [([],r)]
theorem qe1 {φ:Int->Nat} {ks:List Kw} (hks:∀a∈ks,zS a) {r:Int} (h0:0<=r) (h1:r<=20):((qe0 ks r).map λp=>φ (ze ks p.1)).sum=v3 20 φ ks r 0:=by
 have:=qeY (N:=20) (φ:=φ) ks [] [([],r)] hks (λp hp=>by
  rw[ms_]at hp
  subst hp
  exact⟨rfl,h0,by show r<=20;exact h1⟩)
 rw[ybf]at this
 unfold qe0
 rw[this]
 simp[ze]
end Law
end L2.Sk
namespace L2.Sk.Law
theorem qho:∀(n:Nat)(f:Nat->Nat),(∀i,i<=n->f i<n)->∃i j,i<j/\j<=n/\f i=f j
 |0,f,h=>absurd (h 0 (yag _)) (ycs _)
 | n + 1,f,h=>by
  by_cases hv:∃i,i<n+1/\f i=f (n+1)
  ·obtain⟨i,hi,e⟩:=hv
   exact⟨i,n+1,hi,yag _,e⟩
  ·have ne:∀i,i<=n->f i≠f (n+1):=λi hi e=>hv ⟨i,by omega,e⟩
   obtain ⟨i,j,h1,h2,e⟩:=qho n (λi=>if f (n+1)<f i then f i-1 else f i) λi hi=>by
    have a:=h i (by omega)
    have b:=h (n+1) (yag _)
    have c:=ne i hi
    show(if f (n+1)<f i then f i-1 else f i)<n
    split<;>omega
   refine⟨i,j,h1,by omega,?_⟩
   have c1:=ne i (by omega)
   have c2:=ne j h2
   have e':(if f (n+1)<f i then f i-1 else f i)=(if f (n+1)<f j then f j-1 else f j):=e
   split at e'<;>split at e'<;>omega
def qmf(ws l:List Nat):Prop:=∀x∈l,x∈ws
theorem few {ws:List Nat} {a:Nat} (ha:0<a):∀(n:Nat)(l:List Nat),l.length=n->qmf ws l->∃l',qmf ws l'/\l'.length<a/\l'.sum%a=l.sum%a:=by
 intro n
 induction n using Nat.strongRecOn with
 | _ n ih=>
  intro l hl hf
  by_cases h:l.length<a
  ·exact⟨l,hf,h,rfl⟩
  ·obtain ⟨i,j,h1,h2,e⟩:=qho a (λi=>(l.take i).sum%a) λi _=>ygb _ ha
   have hj:j<=l.length:=by omega
   let m:=l.take i++l.drop j
   have hm:m.length<n:=by
    show(l.take i++l.drop j).length<n
    rw[lA_,ycS,List.length_drop]
    omega
   have fm:qmf ws m:=λx hx=>by
    rcases mA_.mp hx with hx|hx
    ·exact hf x (List.mem_of_mem_take hx)
    ·exact hf x (List.mem_of_mem_drop hx)
   obtain⟨l',g1,g2,g3⟩:=ih m.length hm m rfl fm
   refine⟨l',g1,g2,g3.trans ?_⟩
   have s1:m.sum=(l.take i).sum+(l.drop j).sum:=ydf
   have s2:l.sum=(l.take j).sum+(l.drop j).sum:=by
    rw[<-ydf,List.take_append_drop]
   rw[s1,s2,Nat.add_mod,Nat.add_mod (l.take j).sum]
   have e':(l.take i).sum%a=(l.take j).sum%a:=e
   rw[e']
end L2.Sk.Law
namespace L2.Sk
namespace Law
open PySem PySem.Spec PyProof.Rows
set_option maxHeartbeats 4000000
open Classical in
open Classical in
theorem qnH{t u:M Bool}{Z:Env}(h1:t Z=.ok (false,Z))(h2:u Z=.ok (false,Z)):tor t u Z=.ok (false,Z):=by rw[qen,h1];exact h2
theorem qnI{t u:M Bool}{Z:Env}(h1:t Z=.ok (true,Z)):tor t u Z=.ok (true,Z):=by rw[qen,h1];rfl
theorem qmg{t u:M Bool}{Z:Env}(h1:t Z=.ok (false,Z)):qd5 t u Z=.ok (false,Z):=by rw[qcu,h1];rfl
theorem qmh{t u:M Bool}{Z:Env}{b:Bool}(h1:t Z=.ok (true,Z))(h2:u Z=.ok (b,Z)):qd5 t u Z=.ok (b,Z):=by rw[qcu,h1];exact h2
theorem qbv{F:List D->R D}{f g h:M D}{Z:Env}{a b c d:D}(hf:f Z=.ok (a,Z))(hg:g Z=.ok (b,Z))(hh:h Z=.ok (c,Z))(e:F [a,b,c]=.ok d):qr F (qa f (qa g (qa h (ret [])))) Z=.ok (d,Z):=qmc hf hg hh e
theorem wL{i:Nat}{f:M D}{Z Z1:Env}{d:D}(h:f Z=.ok (d,Z1)):jk i f Z=.ok (.nx (Z1.set i (some d))):=by rw[qcv,h]
theorem qbw{f:M D}{Z Z1:Env}{d:D}(h:f Z=.ok (d,Z1)):yd f Z=.ok (.rt d Z1):=by rw[qa8,h]
theorem qgv {fr:List Nat} {e:M D} {Z r:Env} (n:Nat) (d:D) (hn:n<=1000) (hr:zL 1 fr Z=none::r) (h:∀i:Nat,i<n->e (some (.int i)::r)=.ok (d,some (.int i)::r)) :
  zP 1 fr none (jd (qa (ret (.int (n:Int))) (ret []))) (qg 0) (ret true) e Z=.ok (.lst (yak n d),Z):=by
 have e1:jd (qa (ret (.int (n:Int))) (ret [])) Z=.ok (v6 0 n,Z):=by
  have:=yh (l:=qa (ret (.int (n:Int))) (ret [])) (Z:=Z) (Z1:=Z) (j:=(n:Int)) rfl (by omega) (by omega)
  rw[this,ybl]
 rw[qeU (r:=r) (k:=λi:Nat=>D.int (0+(i:Nat))) (yat n) (λ_=>d) (by rw[e1,qgs]) hr (by rw[lR_];omega) λi hi=>?_]
 ·rw[List.map_const',lR_]
 ·have:=h i (mR_.mp hi)
  rw[show((0:Int)+(i:Nat))=(i:Int) by omega]
  exact this
theorem qkY {fr:List Nat} {e f:M D} {Z r:Env} {p:MS} (n:Nat) (d x:D) (hn:n<=1000) (hr:zL 1 fr Z=none::r) (h:∀i:Nat,i<n->e (some (.int i)::r)=.ok (d,some (.int i)::r)) (hf:f Z=.ok (x,Z)) (hx:neB (.lst (yak n d)) x=some (.bl false)) :
  sif (tst (d2 neB (zP 1 fr none (jd (qa (ret (.int (n:Int))) (ret []))) (qg 0) (ret true) e) f)) p u8 Z=.ok (.nx Z) :=
 qme (yN (qG (qgv n d hn hr h) hf hx))
theorem qnJ {P:Nat->Prop} (h0:P 0) (h1:P 1) (h2:P 2):∀i,i<3->P i
 |0,_=>h0
 |1,_=>h1
 |2,_=>h2
end Law
end L2.Sk
namespace L2.Sk.Law
def qE:List Kw->Int->List (List Int)
 | [],_=>[[]]
 |k::ks,r=>(yat (ofn k r+1)).flatMap λt:Nat=>(qE ks (r-(t:Int)*k.w)).map λl=>(t:Int)::l
theorem wM:∀(ks:List Kw)(found:List (List Int×Int)),(ks.foldl (λf k=>qay k f) found).map (·.1)=found.flatMap λp=>(qE ks p.2).map λl=>p.1++l
 | [],found=>by
  simp only[List.foldl_nil,qE,mC_,ycv,yaK]
  induction found with
  |nil=>rfl
  |cons p found ih=>rw[mC_,fC_,ih];rfl
 |k::ks,found=>by
  rw[fo_,wM ks (qay k found)]
  unfold qay
  rw[yfA]
  congr 1
  funext p
  simp only[qE]
  rw[List.flatMap_map,List.map_flatMap]
  congr 1
  funext t
  rw[mm_]
  congr 1
  funext l
  simp
theorem qb9 (ks:List Kw) (r:Int):(ks.foldl (λf k=>qay k f) [([],r)]).map (·.1)=qE ks r:=by
 rw[wM]
 simp
end L2.Sk.Law
namespace L2.Sk.Law
def qw:List Kw->List Int->Int
 |k::ks,t::l=>t*k.w+qw ks l
 |_,_=>0
def cei(k:Kw)(g:Int):Int:=(g+k.v-1)/k.v
def enT(k:Kw)(g:Int):Nat:=if k.v=0 then 0 else(match k.m with|none=>cei k g|some j=>if j<cei k g then j else cei k g).toNat
def glf(k:Kw)(t:Nat)(g:Int):Int:=max 0 (g-(t:Int)*k.v)
def mnO:List Int->Option Int
 | []=>none
 |a::l=>some (l.foldl min a)
def qkZ:List Kw->Int->Option Int
 | [],g=>if g=0 then some 0 else none
 |k::ks,g=>mnO ((yat (enT k g+1)).filterMap λt:Nat=>(qkZ ks (glf k t g)).map λh=>(t:Int)*k.w+h)
end L2.Sk.Law
namespace L2.Sk.Law
structure Sel (f:List Int->Option Int) (le:Int->Int->Prop):Prop where
 no:f []=none
 is:∀l,l≠[]->∃m,f l=some m/\m∈l/\∀x∈l,le m x
 add:∀{a b:Int}(c:Int),le a b->le (c+a) (c+b)
 anti:∀{a b:Int},le a b->le b a->a=b
 tr:∀{a b c:Int},le a b->le b c->le a c
 rf:∀a:Int,le a a
section
variable{f:List Int->Option Int}{le:Int->Int->Prop}(S:Sel f le)
theorem Sel.some_of (S:Sel f le) {l:List Int} {m:Int} (h:f l=some m):m∈l/\∀x∈l,le m x:=by
 by_cases hl:l=[]
 ·subst hl
  rw[S.no]at h
  cases h
 ·obtain⟨m',e,h1,h2⟩:=S.is l hl
  rw[h]at e
  cases e
  exact⟨h1,h2⟩
theorem Sel.mem_of (S:Sel f le) {l:List Int} {x:Int} (h:x∈l):∃m,f l=some m/\le m x:=by
 obtain⟨m,e,_,h2⟩:=S.is l (λe=>by rw[e]at h;cases h)
 exact⟨m,e,h2 x h⟩
end
def fR (f:List Int->Option Int):List Kw->Int->Option Int
 | [],r=>if r=0 then some 0 else none
 |k::ks,r=>f ((yat (ofn k r+1)).filterMap λt:Nat=>(fR f ks (r-(t:Int)*k.w)).map λh=>(t:Int)*k.v+h)
def wF(f:List Int->Option Int)(k:Kw)(ks:List Kw)(r:Int)(t:Nat):Option Int:=(fR f ks (r-(t:Int)*k.w)).map λh=>(t:Int)*k.v+h
theorem qe2(f:List Int->Option Int)(k:Kw)(ks:List Kw)(r:Int):fR f (k::ks) r=f ((yat (ofn k r+1)).filterMap (wF f k ks r)):=by rw[fR];rfl
theorem qmi {f:List Int->Option Int} {le:Int->Int->Prop} (S:Sel f le) {k:Kw} {ks:List Kw} {r:Int} {t:Nat} (ht:t<=ofn k r) {h':Int} (e:fR f ks (r-(t:Int)*k.w)=some h'):∃h,fR f (k::ks) r=some h/\le h ((t:Int)*k.v+h'):=by
 rw[qe2]
 refine S.mem_of (List.mem_filterMap.mpr ⟨t,mR_.mpr (by omega),?_⟩)
 unfold wF
 rw[e]
 rfl
theorem qnK {f:List Int->Option Int} {le:Int->Int->Prop} (S:Sel f le) {k:Kw} {ks:List Kw} {r h:Int} (e:fR f (k::ks) r=some h):∃t,t<=ofn k r/\wF f k ks r t=some h:=by
 rw[qe2]at e
 obtain⟨t,ht,et⟩:=List.mem_filterMap.mp (S.some_of e).1
 exact⟨t,by have:=mR_.mp ht;omega,et⟩
theorem vT {k:Kw} {ks:List Kw} {r:Int} {l:List Int}:l∈qE (k::ks) r ↔ ∃(t:Nat)(l':List Int),t<=ofn k r/\l'∈qE ks (r-(t:Int)*k.w)/\l=(t:Int)::l':=by
 constructor
 ·intro h
  obtain⟨t,ht,h2⟩:=List.mem_flatMap.mp h
  obtain⟨l',hl',rfl⟩:=mP_.mp h2
  exact⟨t,l',by have:=mR_.mp ht;omega,hl',rfl⟩
 ·rintro⟨t,l',ht,hl',rfl⟩
  exact List.mem_flatMap.mpr ⟨t,mR_.mpr (by omega),mP_.mpr ⟨l',hl',rfl⟩⟩
def qmj:List Kw->List Int->Prop
 | [],[]=>True
 |k::ks,t::l=>0<=t/\(∀j,k.m=some j->t<=j)/\qmj ks l
 |_,_=>False
theorem uI:∀(ks:List Kw)(l:List Int),(∀k∈ks,zS k)->qmj ks l->0<=qw ks l
 | [],[],_,_=>Int.le_refl _
 |k::ks,t::l,hk,h=>by
  have:=uI ks l (λx hx=>hk x (mM _ hx)) h.2.2
  have h2:0<=t*k.w:=ycd h.1 (by have:=(hk k mS_).1;omega)
  show 0<=t*k.w+qw ks l
  omega
 | [],t::l,_,h=>h.elim
 |k::ks,[],_,h=>h.elim
end L2.Sk.Law
namespace L2.Sk
namespace Law
open PySem PySem.Spec PyProof.Rows
set_option maxHeartbeats 4000000
theorem jJ:∀(ks:List Kw)(r:Int)(l:List Int),(∀k∈ks,zS k)->0<=r->(l∈qE ks r ↔ qmj ks l/\qw ks l<=r)
 | [],r,l,_,h0=>by
  cases l with
  |nil=>exact⟨λ_=>⟨trivial,h0⟩,λ_=>ms_.mpr rfl⟩
  |cons a l=>exact⟨(λh=>by have:=ms_.mp h;cases this),λh=>h.1.elim⟩
 |k::ks,r,[],_,_=>⟨(λh=>by obtain⟨t,l',_,_,e⟩:=vT.mp h;cases e),λh=>h.1.elim⟩
 | k :: ks,r,t::l,hk,h0=>by
  have gk:=hk k mS_
  have hks:=λx hx=>hk x (mM k hx)
  have ew:qw (k::ks) (t::l)=t*k.w+qw ks l:=rfl
  rw[ew]
  constructor
  ·intro h
   obtain⟨n,l',hn,hl',e⟩:=vT.mp h
   obtain⟨rfl,rfl⟩:=List.cons.inj e
   have ok:=uG gk.1 gk.2 h0 n
   rw[decide_eq_true hn]at ok
   unfold okT at ok
   rw[yan,decide_eq_true_eq]at ok
   obtain⟨v,w⟩:=(jJ ks _ l hks (by have:=ok.1;omega)).mp hl'
   refine⟨⟨by omega,λj ej=>?_,v⟩,by omega⟩
   have:=ok.2
   rw[ej]at this
   exact of_decide_eq_true this
  ·rintro ⟨h,hw⟩
   have wn:=uI ks l hks h.2.2
   have ht:((t.toNat:Nat):Int)=t:=by have:=h.1;omega
   refine vT.mpr ⟨t.toNat,l,?_,?_,by rw[ht]⟩
   ·have ok:okT k t.toNat r=true:=by
     unfold okT
     rw[yan,decide_eq_true_eq,ht]
     refine⟨by omega,?_⟩
     cases em:k.m with
     |none=>rfl
     |some j=>exact decide_eq_true (h.2.1 j em)
    rw[uG gk.1 gk.2 h0]at ok
    exact of_decide_eq_true ok
   ·rw[ht]
    exact(jJ ks _ l hks (by omega)).mpr ⟨h.2.2,by omega⟩
def vw(k:Kw):Kw:=⟨k.w,k.w,k.m⟩
def En(ks:List Kw)(s:Nat):Nat:=Zn (ks.map vw) (s:Nat) (s:Nat)
theorem qe3 {ks:List Kw} (h:∀k∈ks,zS k):∀k∈ks.map vw,zS k:=λk hk=>by
 obtain⟨a,ha,rfl⟩:=mP_.mp hk
 exact h a ha
theorem qcV:∀(ks:List Kw)(r:Int),qE (ks.map vw) r=qE ks r
 | [],r=>rfl
 | k::ks,r=>by
  show((yat (ofn (vw k) r+1)).flatMap λt:Nat=>(qE (ks.map vw) (r-(t:Int)*k.w)).map λl=>(t:Int)::l)=_
  have e:(λt:Nat=>(qE (ks.map vw) (r-(t:Int)*k.w)).map λl=>(t:Int)::l)=λt:Nat=>(qE ks (r-(t:Int)*k.w)).map λl=>(t:Int)::l:=by
   funext t
   rw[qcV ks]
  rw[e]
  rfl
theorem qcW:∀(ks:List Kw)(l:List Int),ze (ks.map vw) l=qw ks l
 | [],[]=>rfl
 | [],_::_=>rfl
 |k::ks,[]=>rfl
 |k::ks,t::l=>by
  show t*k.w+ze (ks.map vw) l=t*k.w+qw ks l
  rw[qcW ks l]
theorem qhp (s:Nat):En [] s=if s=0 then 1 else 0:=by
 show(if(0:Int)=(s:Nat)then 1 else 0)=_
 by_cases h:s=0
 ·rw[if_pos h,if_pos (by omega)]
 ·rw[if_neg h,if_neg (by omega)]
theorem qiU {ks:List Kw} {k:Kw} (hk:zS k) (hks:∀a∈ks,zS a) {s:Nat} (h1:s<=20):En (ks++[k]) s=((yat (ofn k (s:Nat)+1)).map λ(t:Nat)=>En ks ((s:Int)-t*k.w).toNat).sum:=by
 unfold En
 rw[ybM]
 show Zn (ks.map vw++[vw k]) _ _=_
 rw[qkX (show zS (vw k)from hk) (qe3 hks) (by omega) (by omega)]
 congr 1
 refine mL_ λt ht=>?_
 have:=(uU hk.1 hk.2 (show(0:Int)<=(s:Nat) by omega) (show t<=ofn k (s:Nat) by have:=mR_.mp ht;exact Nat.le_of_lt_succ this)).1
 show Zn (ks.map vw) ((s:Int)-t*k.w) ((s:Int)-t*k.w)=_
 rw[show((((s:Int)-t*k.w).toNat:Nat):Int)=(s:Int)-t*k.w by omega]
theorem qe4 {α:Type} (p:α->Bool):∀l:List α,(l.map λa=>if p a then 1 else 0).sum=(l.filter p).length
 | []=>rfl
 |a::l=>by
  rw[mC_,ydJ,qe4 p l,ft_]
  cases p a with
  |true=>rw[if_pos rfl,if_pos rfl,lC_];omega
  |false=>rw[if_neg (by decide),if_neg (by decide)];omega
theorem qaz {ks:List Kw} (hks:∀a∈ks,zS a) {r:Nat} (h1:r<=20):En ks r=((qE ks (r:Nat)).filter λl=>decide (qw ks l=(r:Nat))).length:=by
 have h:=qe1 (φ:=λy=>if y=((r:Nat):Int)then 1 else 0) (ks:=ks.map vw) (qe3 hks) (r:=(r:Nat)) (by omega) (by omega)
 have e:((qe0 (ks.map vw) (r:Nat)).map λp=>(λy:Int=>if y=((r:Nat):Int)then 1 else 0) (ze (ks.map vw) p.1))=((qE ks (r:Nat)).map λl=>if decide (qw ks l=(r:Nat))then 1 else 0):=by
  have q:=qb9 (ks.map vw) (r:Nat)
  rw[qcV]at q
  rw[<-q,mm_]
  refine mL_ λp _=>?_
  show(if ze (ks.map vw) p.1=((r:Nat):Int)then 1 else 0)=if decide (qw ks p.1=(r:Nat))=true then 1 else 0
  rw[qcW]
  by_cases c:qw ks p.1=((r:Nat):Int)
  ·rw[if_pos c,if_pos (decide_eq_true c)]
  ·rw[if_neg c,if_neg (by rw[decide_eq_false c];decide)]
 rw[e,qe4]at h
 exact h.symm
theorem qhq {ks:List Kw} (hks:∀a∈ks,zS a) {i r:Nat} (hi:i<=r) (h1:r<=20):0<En ks i ↔ ((i:Nat):Int)∈(qE ks (r:Nat)).map (qw ks):=by
 rw[qaz hks (by omega),List.length_pos_iff_exists_mem]
 constructor
 ·rintro⟨l,hl⟩
  obtain⟨a,b⟩:=List.mem_filter.mp hl
  have b:=of_decide_eq_true b
  have v:=((jJ ks _ l hks (by omega)).mp a).1
  exact mP_.mpr ⟨l,(jJ ks _ l hks (by omega)).mpr ⟨v,by omega⟩,b⟩
 ·intro h
  obtain⟨l,a,b⟩:=mP_.mp h
  have v:=((jJ ks _ l hks (by omega)).mp a).1
  exact⟨l,List.mem_filter.mpr ⟨(jJ ks _ l hks (by omega)).mpr ⟨v,by omega⟩,decide_eq_true b⟩⟩
theorem qcX (x:Int):∀(vs σ:List Int),x∈St.addL σ vs ↔ x∈σ\/x∈vs
 | [],σ=>by simp[St.addL]
 | v :: vs,σ=>by
  show x∈St.addL (St.addI σ v) vs ↔ _
  rw[qcX x vs,yav]
  have:x∈St.addI σ v ↔ x∈σ\/x=v:=by
   unfold St.addI
   split
   ·rename_i c
    exact⟨.inl,λh=>h.elim id λe=>e▸c⟩
   ·rw[mA_,ms_]
  rw[this,or_assoc]
theorem wN:∀(vs σ:List Int),σ.Nodup->(St.addL σ vs).Nodup
 | [],σ,h=>h
 | v::vs,σ,h=>by
  refine wN vs (St.addI σ v) ?_
  unfold St.addI
  split
  ·exact h
  ·rename_i c
   rw[List.nodup_append]
   refine⟨h,List.nodup_cons.mpr ⟨by simp,.nil⟩,λa ha b hb e=>?_⟩
   rw[ms_]at hb
   subst hb;subst e
   exact c ha
def rmL(ks:List Kw)(r:Nat):List Int:=((yat (r+1)).filter λi=>decide (0<En ks i)).map λi=>((i:Nat):Int)
theorem qk0 (ks:List Kw) (r:Nat):(rmL ks r).Pairwise (·<·):=by
 unfold rmL
 rw[List.pairwise_map]
 exact(List.pairwise_lt_range.filter _).imp λh=>by omega
theorem qcY {ks:List Kw} (hks:∀a∈ks,zS a) {r:Nat} (h1:r<=20):wf ((qE ks (r:Nat)).map (qw ks))=rmL ks r:=by
 have nd:=wN ((qE ks (r:Nat)).map (qw ks)) [] .nil
 have nr:(rmL ks r).Nodup:=(qk0 ks r).imp λh e=>by rw[e]at h;exact absurd h (Int.lt_irrefl _)
 refine(qcQ ?_ ((qk0 ks r).imp λh=>Int.le_of_lt h)).symm
 refine(List.perm_ext_iff_of_nodup nr nd).mpr λx=>?_
 rw[qcX]
 constructor
 ·intro h
  obtain⟨i,hi,rfl⟩:=mP_.mp h
  obtain⟨a,b⟩:=List.mem_filter.mp hi
  exact .inr ((qhq hks (by have:=mR_.mp a;omega) h1).mp (of_decide_eq_true b))
 ·rintro(h|h)
  ·cases h
  ·obtain⟨l,a,b⟩:=mP_.mp h
   obtain⟨v,wr⟩:=(jJ ks _ l hks (by omega)).mp a
   have wn:=uI ks l hks v
   rw[b]at wr wn
   have ex:((x.toNat:Nat):Int)=x:=by omega
   refine mP_.mpr ⟨x.toNat,List.mem_filter.mpr ⟨mR_.mpr (by omega),decide_eq_true ?_⟩,ex⟩
   refine(qhq hks (by omega) h1).mpr ?_
   rw[ex];exact h
theorem qe5 {ks:List Kw} (hks:∀a∈ks,zS a) {r:Nat} (h1:r<=20):(St.addL [] ((qE ks (r:Nat)).map (qw ks))).length<64:=by
 have e:=(uk (St.addL [] ((qE ks (r:Nat)).map (qw ks)))).length_eq
 have q:(wf ((qE ks (r:Nat)).map (qw ks))).length=(rmL ks r).length:=by rw[qcY hks h1]
 have:(rmL ks r).length<=r+1:=by
  unfold rmL
  rw[lM_]
  exact yaF (yce _ _) (by rw[lR_];exact yag _)
 unfold wf at q
 omega
def top(i:Nat):Stmt:=PySem.Challenge.pw_sackloads_k51_rooms_filled.main.body.getD i (.Pass ⟨0,0,0,0⟩)
abbrev zy:Stmt:=top 22
abbrev zV:Stmt:=top 27
abbrev zD:Stmt:=top 28
abbrev qH:Stmt:=top 30
abbrev zW:Stmt:=top 25
abbrev ju:Stmt:=top 16
abbrev jv:Stmt:=top 17
abbrev zm:Stmt:=top 21
abbrev ya:Stmt:=top 18
abbrev zX:Stmt:=top 19
abbrev zn:Stmt:=top 20
abbrev zo:Stmt:=top 26
abbrev qY:Stmt:=top 32
abbrev zp:Stmt:=top 33
abbrev yi:Stmt:=top 31
abbrev qR:Stmt:=top 40
abbrev zq:Stmt:=top 41
abbrev zE:Stmt:=top 42
abbrev zF:Stmt:=top 39
abbrev zY:Stmt:=top 36
abbrev zG:Stmt:=top 38
abbrev jw:Stmt:=top 35
abbrev uY:Stmt:=top 43
structure Txt (K:yah) (mg:Str->Option Value):Prop where
 b_ValueError:mg "ValueError"=none
 b_all:mg "all"=none
 b_bool:mg "bool"=none
 b_divmod:mg "divmod"=none
 b_enumerate:mg "enumerate"=none
 b_int:mg "int"=none
 b_isinstance:mg "isinstance"=none
 b_len:mg "len"=none
 b_max:mg "max"=none
 b_min:mg "min"=none
 b_range:mg "range"=none
 b_repr:mg "repr"=none
 b_set:mg "set"=none
 b_sorted:mg "sorted"=none
 b_sum:mg "sum"=none
 b_tuple:mg "tuple"=none
 c_ASKED_AT_MOST:∃t,mg "ASKED_AT_MOST"=some (.int 200 t)
 c_KINDS_AT_MOST:∃t,mg "KINDS_AT_MOST"=some (.int 12 t)
 c_MOST:∃t,mg "MOST"=some (.int 2 t)
 c_WEIGHT:∃t,mg "WEIGHT"=some (.int 0 t)
 c_WORTH:∃t,mg "WORTH"=some (.int 1 t)
def RN:List Str:=["TooMany","NoNumber","NoStore"]
def TN:List Str:=["SackError","NoText","NoLine","NoKind","NotEndless","NotSingle","TooMany","NoLoad","NoNumber","NoStore"]
noncomputable def yj:MS :=
  (qM (jk 2 (d2 qd9 (dv 1) (d2 ixD (dv 0) (ret (.int 0)))))
  (yd (dif (tst (d2 isN (d2 ixD (dv 0) (ret (.int 2))) (ret .non))) (dv 2) (qF qaZ (qa (dv 2) (qa (d2 ixD (dv 0) (ret (.int 2))) (ret [])))))))
noncomputable def jn:List D->R D:=dfn 3 2 yj
noncomputable def yX:MS :=
  (yd (d2 qlN (dv 2) (d2 z7 (dv 1) (d2 ixD (dv 0) (ret (.int 0))))))
noncomputable def yk:List D->R D:=dfn 3 3 yX
noncomputable def yY:MS :=
  (yd (qF qj3 (qa (zP 1 [1,0,2] none (jd (qa (d2 zw (qr jn (qa (dv 0) (qa (dv 2) (ret [])))) (ret (.int 1))) (ret []))) (qg 0) (ret true) (d2 ixD (dv 1) (qr yk (qa (dv 2) (qa (dv 0) (qa (dv 3) (ret []))))))) (ret []))))
noncomputable def zZ:List D->R D:=dfn 3 3 yY
noncomputable def jh:MS :=
  (qM (jk 2 (d2 zw (y8 (qa (ret (.int 1)) (ret []))) (d2 z7 (y8 (qa (ret (.int 0)) (ret []))) (dv 1))))
  (qM (qbR (wy (dv 0)) (qg 3) (jk 2 (zP 1 [3,2] none (jd (qa (d2 zw (dv 1) (ret (.int 1))) (ret []))) (qg 0) (ret true) (qr zZ (qa (dv 1) (qa (dv 2) (qa (dv 0) (ret []))))))))
  (yd (dv 2))))
noncomputable def qI:List D->R D:=dfn 4 2 jh
noncomputable def yD:MS :=
  (sif (tst (d2 gtD (dv 0) (ret (.int 200)))) (wC "TooMany" (qa (ret (.str "a room or a worth greater than 200 is asked for")) (ret []))) u8)
noncomputable def yE:List D->R D:=v7 1 1 yD
noncomputable def uJ:MS :=
  (yd (qi7 (qhU "int" (dv 0)) (qlf (qhU "bool" (dv 0)))))
noncomputable def yF:List D->R D:=dfn 1 1 uJ
noncomputable def uK:MS :=
  (yd (qi7 (qr yF (qa (dv 0) (ret []))) (d2 geD (dv 0) (ret (.int 0)))))
noncomputable def z5:List D->R D:=dfn 1 1 uK
noncomputable def jO:MS :=
  (sif (qfh (tst (qr z5 (qa (dv 0) (ret []))))) (wC "NoNumber" (qa (ret (.str "this is no whole number from 0 on")) (ret []))) u8)
noncomputable def jQ:List D->R D:=v7 1 1 jO
noncomputable def vU:MS :=
  (qM (sif (tor (qfh (tst (qhU "tuple" (dv 0)))) (tst (d2 neB (qF qbF (qa (dv 0) (ret []))) (ret (.int 3))))) (yd (ret (.bl false))) u8)
  (qM (sif (tor (qfh (tst (qr z5 (qa (d2 ixD (dv 0) (ret (.int 0))) (ret []))))) (tst (d2 eqB (d2 ixD (dv 0) (ret (.int 0))) (ret (.int 0))))) (yd (ret (.bl false))) u8)
  (yd (qi7 (qr z5 (qa (d2 ixD (dv 0) (ret (.int 1))) (ret []))) (dor (d2 isN (d2 ixD (dv 0) (ret (.int 2))) (ret .non)) (qr z5 (qa (d2 ixD (dv 0) (ret (.int 2))) (ret []))))))))
noncomputable def yy:List D->R D:=dfn 1 1 vU
noncomputable def uL:MS :=
  (qM (sif (tor (qfh (tst (qhU "tuple" (dv 0)))) (tst (d2 gtD (qF qbF (qa (dv 0) (ret []))) (ret (.int 12))))) (yd (ret (.bl false))) u8)
  (yd (qF qja (qa (zP 1 [] none (wy (dv 0)) (qg 0) (ret true) (qr yy (qa (dv 0) (ret [])))) (ret [])))))
noncomputable def yG:List D->R D:=dfn 1 1 uL
noncomputable def jR:MS :=
  (sif (qfh (tst (qr yG (qa (dv 0) (ret []))))) (wC "NoStore" (qa (ret (.str "this is no store")) (ret []))) u8)
noncomputable def jS:List D->R D:=v7 1 1 jR
noncomputable def jU:MS :=
  (qM (z9 (jD RN jS (qa (dv 0) (ret []))))
  (qM (z9 (jD RN jQ (qa (dv 1) (ret []))))
  (z9 (jD RN yE (qa (dv 1) (ret []))))))
noncomputable def zr:List D->R D:=v7 2 2 jU
noncomputable def jV:MS :=
  (qM (z9 (jD RN zr (qa (dv 0) (qa (dv 1) (ret [])))))
  (yd (zP 2 [] none (wD (qa (qr qI (qa (dv 0) (qa (dv 1) (ret [])))) (ret []))) (ut 2 (qo (qg 0) (qo (qg 1) ur))) (tst (d2 gtD (dv 1) (ret (.int 0)))) (dv 0))))
noncomputable def qJ:List D->R D:=v7 2 2 jV
noncomputable def jW:MS :=
  (qM (z9 (jD RN zr (qa (dv 0) (qa (dv 1) (ret [])))))
  (yd (d2 ixD (qr qI (qa (dv 0) (qa (dv 1) (ret [])))) (dv 1))))
noncomputable def jX:List D->R D:=v7 2 2 jW
noncomputable def va:MS :=
  (qM (z9 (jD RN zr (qa (dv 0) (qa (dv 1) (ret [])))))
  (yd (d2 gtD (d2 ixD (qr qI (qa (dv 0) (qa (dv 1) (ret [])))) (dv 1)) (ret (.int 0)))))
noncomputable def vb:List D->R D:=v7 2 2 va
noncomputable def j7:MS :=
  (qM (jk 1 (y8 (qa (qbG RN "NoStore" (dv 0)) (qa (qbG RN "NoNumber" (dv 0)) (qa (qbG RN "NoLoad" (dv 0)) (qa (qbG RN "TooMany" (dv 0)) (ret [])))))))
  (qM (jk 1 (d2 zw (dv 1) (y8 (qa (qbG RN "NotSingle" (dv 0)) (qa (qbG RN "NotEndless" (dv 0)) (qa (qbG RN "NoKind" (dv 0)) (ret [])))))))
  (yd (d2 zw (dv 1) (y8 (qa (qbG RN "NoLine" (dv 0)) (qa (qbG RN "NoText" (dv 0)) (ret []))))))))
noncomputable def yO:List D->R D:=dfn 2 1 j7
noncomputable def yZ:MS :=
  (qM (sif (tor (qfh (tst (qbG RN "SackError" (dv 0)))) (qfh (tst (qbG RN "ValueError" (dv 0))))) (yd (ret (.bl false))) u8)
  (yd (d2 eqB (qr yO (qa (dv 0) (ret []))) (zP 1 [1] none (jd (qa (ret (.int 9)) (ret []))) (qg 0) (ret true) (d2 eqB (dv 0) (dv 1))))))
noncomputable def vV:List D->R D:=dfn 2 2 yZ
noncomputable def ym:MS :=
  (v8 RN 4 3 (qM (sif (tst (d2 eqB (dv 0) (ret (.int 0)))) (yd (jD RN vb (qa (dv 1) (qa (dv 2) (ret []))))) u8)
  (yd (dif (tst (d2 eqB (dv 0) (ret (.int 1)))) (jD RN qJ (qa (dv 1) (qa (dv 2) (ret [])))) (jD RN jX (qa (dv 1) (qa (dv 2) (ret []))))))) (zP 1 [3] none (jd (qa (ret (.int 9)) (ret []))) (qg 0) (tst (qr vV (qa (dv 1) (qa (dv 0) (ret []))))) (dv 0)))
noncomputable def qp:List D->R D:=dfn 4 3 ym
noncomputable def yz:MS :=
  (qM (jk 2 (y8 (qa (y0 (qa (y0 (ret [])) (qa (ret (.int 0)) (qa (ret (.int 0)) (ret []))))) (ret []))))
  (qM (qbR (wy (dv 0)) (ut 3 (qo (qg 3) (qo (qg 4) (qo (qg 5) ur)))) (qM (yr 6 (qhY (ret [])))
  (qM (qbR (wy (dv 2)) (ut 3 (qo (qg 7) (qo (qg 8) (qo (qg 9) ur)))) (qM (jk 10 (ret (.int 0)))
  (ue (qd5 (tst (d2 leD (d2 zw (dv 8) (d2 z7 (dv 10) (dv 3))) (dv 1))) (tor (tst (d2 isN (dv 5) (ret .non))) (tst (d2 leD (dv 10) (dv 5))))) (qM (z9 (qZ 6 (y0 (qa (d2 zw (dv 7) (y0 (qa (dv 10) (ret [])))) (qa (d2 zw (dv 8) (d2 z7 (dv 10) (dv 3))) (qa (d2 zw (dv 9) (d2 z7 (dv 10) (dv 4))) (ret [])))))))
  (jk 10 (d2 zw (dv 10) (ret (.int 1))))))))
  (qeB 2 6))))
  (yd (dv 2))))
noncomputable def zt:List D->R D:=dfn 11 2 yz
noncomputable def yn:MS :=
  (qM (qgI (qF vp (qa (qkb 0 (ret (.int 0))) (qa (dv 1) (ret [])))) (ut 2 (qo (qg 2) (qo (qg 3) ur))))
  (qM (qfM 0 (ret (.int 0)) (dv 2))
  (yd (dv 3))))
noncomputable def qm:List D->List D->R (D×List D):=w6 4 2 yn
noncomputable def jY:MS :=
  (qM (yr 2 (qhY (ret [])))
  (qM (qbR (jd (qa (qL qm 0 (qa (d2 zw (dv 1) (ret (.int 1))) (ret []))) (ret []))) (qg 3) (qM (qjc 4 5 (qa (d2 zw (ret (.int 1)) (qL qm 0 (qa (ret (.int 9)) (ret [])))) (qa (qL qm 0 (qa (ret (.int 10)) (ret []))) (ret []))))
  (z9 (qZ 2 (y0 (qa (dv 4) (qa (dv 5) (qa (d2 ixD (y8 (qa (ret .non) (qa (ret (.int 0)) (qa (ret (.int 1)) (qa (ret (.int 1)) (qa (ret (.int 2)) (qa (ret (.int 3)) (qa (ret (.int 5)) (ret []))))))))) (qL qm 0 (qa (ret (.int 7)) (ret [])))) (ret [])))))))))
  (yd (qeh 2))))
noncomputable def zu:List D->List D->R (D×List D):=w6 6 2 jY
noncomputable def yH:MS :=
  (qM (jk 2 (d2 zw (d2 z7 (ret (.int 7919)) (dv 1)) (ret (.int 13))))
  (qM (sif (tst (d2 ltD (dv 1) (qF qbF (qa (dv 0) (ret []))))) (jk 2 (d2 ixD (dv 0) (dv 1))) u8)
  (qM (sif (tst (d2 eqB (d2 qbE (dv 2) (ret (.int 2))) (ret (.int 0)))) (yd (y8 (qa (d2 qd9 (dv 2) (ret (.int 2))) (ret [])))) u8)
  (qM (jk 3 (ret (.int 0)))
  (qM (qbR (jd (qa (ret (.int 16)) (ret []))) (qg 4) (qM (jk 5 (d2 qbE (d2 zw (d2 zw (d2 z7 (d2 qbE (dv 2) (ret (.int 2147483647))) (ret (.int 48271))) (d2 z7 (ret (.int 7919)) (dv 4))) (ret (.int 1))) (ret (.int 2147483647))))
  (qM (jk 5 (d2 qbE (d2 z7 (dv 5) (dv 5)) (ret (.int 2147483629))))
  (jk 3 (d2 zw (d2 z7 (dv 3) (ret (.int 2147483647))) (d2 qbE (d2 z7 (dv 5) (d2 zw (dv 5) (ret (.int 13)))) (ret (.int 2147483647))))))))
  (yd (y8 (qa (dv 3) (ret [])))))))))
noncomputable def zH:List D->R D:=dfn 6 2 yH
noncomputable def qiV:MS :=
  (qM (sif (tst (d2 neB (zP 1 [] none (jd (qa (ret (.int 3)) (ret []))) (qg 0) (ret true) (qr qp (qa (dv 0) (qa (y0 (qa (y0 (qa (ret (.int 1)) (qa (ret (.int 1)) (qa (ret (.int 1)) (ret []))))) (ret []))) (qa (ret (.int 201)) (ret [])))))) (d2 z7 (y8 (qa (y8 (qa (ret (.int 3)) (ret []))) (ret []))) (ret (.int 3))))) (yd (ret (.bl false))) u8)
  (qM (qbR (jd (qa (qF qhQ (qa (ret (.int 1)) (qa (qF qaZ (qa (qF qbF (qa (dv 0) (ret []))) (qa (ret (.int 3)) (ret [])))) (ret [])))) (ret []))) (qg 1) (qM (yr 2 (yI zH (qa (dv 0) (qa (dv 1) (ret [])))))
  (qM (qgI (y0 (qa (qL zu 2 (qa (ret (.int 4)) (ret []))) (qa (qL qm 2 (qa (d2 ixD (y8 (qa (ret (.int 21)) (qa (ret (.int 13)) (qa (ret (.int 13)) (ret []))))) (dv 1)) (ret []))) (ret [])))) (ut 2 (qo (qg 3) (qo (qg 4) ur))))
  (qM (jk 5 (qr zt (qa (dv 3) (qa (dv 4) (ret [])))))
  (qM (jk 6 (qb6 (zP 3 [] none (wy (dv 5)) (ut 3 (qo (qg 0) (qo (qg 1) (qo (qg 2) ur)))) (ret true) (dv 1))))
  (qM (jk 7 (qF qbF (qa (zP 3 [4] none (wy (dv 5)) (ut 3 (qo (qg 0) (qo (qg 1) (qo (qg 2) ur)))) (tst (d2 eqB (dv 1) (dv 3))) (ret (.int 1))) (ret []))))
  (qM (sif (tor (tst (d2 neB (qF zd (qa (qr qp (qa (ret (.int 0)) (qa (dv 3) (qa (dv 4) (ret []))))) (ret []))) (qF zd (qa (d2 inB (dv 4) (dv 6)) (ret []))))) (tst (d2 neB (qF zd (qa (qr qp (qa (ret (.int 2)) (qa (dv 3) (qa (dv 4) (ret []))))) (ret []))) (qF zd (qa (dv 7) (ret [])))))) (yd (ret (.bl false))) u8)
  (qbR (jd (qa (ret (.int 2)) (ret []))) (qg 8) (qM (yr 9 (yI qJ (qa (dv 3) (qa (dv 4) (ret [])))))
  (qM (sif (tst (d2 neB (qai (qF zd (qa (dv 9) (ret [])))) (qF zd (qa (dv 6) (ret []))))) (yd (ret (.bl false))) u8)
  (z9 (qZ 9 (ret (.int 0))))))))))))))
  (yd (ret (.bl true)))))
noncomputable def qca:List D->R D:=dfn 10 1 qiV
local macro_rules | `(tactic| push_cast [$xs,*]) => `(tactic| simp only [jm, qic, qmE, j4, qct, qem, qgV, qlT, qmF, vE, u9, qgW, qid, uS, qgX, qcu, qen, qgY, qkq, qgZ, qie, qif, qa8, qcv, qbT, qaa, qg1, qg2, qg3, ud, qg4, qeo, qg5, qa9, qbU, qg6, qep, qeq, qer, qg7, vF, qkr, qes, lC_, lN_, mC_, List.map_nil, List.replicate, List.nil_append, List.cons_append, List.append_nil, List.getElem?_cons_zero, List.getElem?_cons_succ, List.set_cons_zero, List.set_cons_succ, Nat.reduceAdd, Nat.reduceSub, Nat.sub_self, Nat.zero_add, reduceIte, Bool.not_true, Bool.not_false, Bool.false_eq_true, if_true, if_false, ite_true, ite_false, cond_true, cond_false, decide_true, decide_false, ix0, ix1, ix2, vO, ul, qb7, vN, qbi, qeO, uF, qeP, qau, qhl, qhm, qah, qcH, qcI, qhe, qex, qet, $xs,*])
theorem qaA (d:D):yF [d]=.ok (.bl (qiQ d)):=by
 unfold yF uJ
 refine qcR rfl ⟨[some d],?_⟩
 push_cast []
 cases d<;>rfl
theorem jo (d:D):z5 [d]=.ok (.bl (jI d)):=by
 unfold z5 uK
 refine qcR rfl ⟨[some d],?_⟩
 push_cast []
 rw[qaA]
 cases d<;>rfl
theorem qbx (d:D):yy [d]=.ok (.bl (yM d)):=by
 unfold yy vU
 refine qcR rfl ⟨[some d],?_⟩
 cases d with
 | tup ds=>
  by_cases h:ds.length=3
  ·obtain ⟨a,b,c,rfl⟩:=qnE h
   refine(qz (Z':=[some (.tup [a,b,c])]) rfl).trans ?_
   by_cases hp:qeQ a=true
   ·refine (qz (Z':=[some (.tup [a,b,c])]) ?_).trans ?_
    ·cases a with
     |int i=>
      have h2:0<i:=of_decide_eq_true hp
      have h0:0<=i:=by omega
      have h1:¬i=0:=by omega
      push_cast [ix0,jo,jI,vN,uS,h0,h1,decide_true,decide_false]
     |_=>exact absurd hp (by simp[qeQ])
    ·push_cast [ix1,ix2,jo,qbi,yM,hp,uS,ybC]
     cases hb:jI b<;>cases hc:yp c<;>rfl
   ·refine (qbj (d:=.bl false) (Z':=[some (.tup [a,b,c])]) ?_).trans ?_
    ·cases a with
     | int i=>
      have h2:¬0<i:=λz=>hp (decide_eq_true z)
      push_cast [ix0,jo,jI,vN,uS]
      by_cases h0:0<=i
      ·have h1:i=0:=by omega
       subst h1;rfl
      ·simp only[h0,decide_false]
       rfl
     |_=>rfl
    ·have hp':qeQ a=false:=by simpa using hp
     simp only[yM,hp',ycA]
  ·refine (qbj (d:=.bl false) (Z':=[some (.tup ds)]) ?_).trans ?_
   ·push_cast []
    have h3:¬((ds.length:Int)=3):=by omega
    simp only[vO,ul,qb7,h3,decide_false,uS]
    rfl
   ·rw[qdz h]
 |_=>rfl
theorem qaB (d:D):yG [d]=.ok (.bl (yW d)):=by
 unfold yG uL
 refine qcR rfl ⟨[some d],?_⟩
 cases d with
 | tup ds=>
  by_cases h:ds.length<=12
  ·have h2:¬((12:Int)<(ds.length:Int)):=by omega
   refine(qz (Z':=[some (.tup ds)]) ?_).trans ?_
   ·push_cast [vO,ul,uF,h2,decide_false,uS]
   ·rw[qa8,qiR (F:=yy) (f:=yM) (xs:=wy (dv 0)) (ds:=ds) (Z:=[some (.tup ds)]) rfl (λd _=>qbx d) (by omega)]
    simp only[yW,h,decide_true,ybC]
  ·have h2:((12:Int)<(ds.length:Int)):=by omega
   refine(qbj (d:=.bl false) (Z':=[some (.tup ds)]) ?_).trans ?_
   ·push_cast [vO,ul,uF,h2,decide_true,uS]
   ·simp only[yW,h,decide_false,ycA]
 |_=>rfl
theorem sm1:qD 1=true:=jM (by omega)
theorem qaC (d:D) (h:yW d=true):jS [d]=.ok .non:=by
 unfold jS
 refine qcJ rfl ⟨[some d],?_⟩
 unfold jR
 push_cast [qaB,h]
theorem qaD (d:D) (h:jI d=true):jQ [d]=.ok .non:=by
 unfold jQ
 refine qcJ rfl ⟨[some d],?_⟩
 unfold jO
 push_cast [jo,h]
theorem vW {n m:Int} (h0:0<m) (h1:m<1606938044258990275541962092341162602522202993782792835301376):qm [.int n] [.int m]=.ok (.int (n%m),[.int (n/m)]):=by
 unfold qm
 refine qg8 (Z:=[some (.lst [.int (n/m)]),some (.int m),some (.int (n/m)),some (.int (n%m))]) rfl ?_ rfl
 unfold yn
 refine(qz (Z':=[some (.lst [.int n]),some (.int m),some (.int (n/m)),some (.int (n%m))]) ?_).trans ?_
 ·push_cast [at0,qeR h0 h1,ut,qo,qg,ur,Option.bind_some]
 ·refine(qz (Z':=[some (.lst [.int (n/m)]),some (.int m),some (.int (n/m)),some (.int (n%m))]) ?_).trans rfl
  push_cast [qnF,imm]
theorem qcZ {i:Int} (h0:0<=i) (h1:i<3000000000):zR i=true:=by
 unfold zR
 rw[yan,decide_eq_true_eq,decide_eq_true_eq]
 constructor<;>omega
theorem qc0 (A B:Option D) (x:Int):∀(ds:List D)(s:Int)(o o':Option D),(∀d∈ds,∃j:Int,d=.int j)->∃s' o1 o2,yf (qg 4) (qM (jk 5 (d2 qbE (d2 zw (d2 zw (d2 z7 (d2 qbE (dv 2) (ret (.int 2147483647))) (ret (.int 48271))) (d2 z7 (ret (.int 7919)) (dv 4))) (ret (.int 1))) (ret (.int 2147483647)))) (qM (jk 5 (d2 qbE (d2 z7 (dv 5) (dv 5)) (ret (.int 2147483629)))) (jk 3 (d2 zw (d2 z7 (dv 3) (ret (.int 2147483647))) (d2 qbE (d2 z7 (dv 5) (d2 zw (dv 5) (ret (.int 13)))) (ret (.int 2147483647))))))) ds [A,B,some (.int x),some (.int s),o,o']=.ok (.nx [A,B,some (.int x),some (.int s'),o1,o2])
 | [],s,o,o',_=>⟨s,o,o',rfl⟩
 | d::ds,s,o,o',h=>by
  obtain⟨j,rfl⟩:=h d mS_
  let p:Int:=(x%2147483647*48271+7919*j+1)%2147483647
  let q:Int:=p*p%2147483629
  have f48:zR 48271=true:=by decide
  have f79:zR 7919=true:=by decide
  have f21:zR 2147483647=true:=by decide
  have fp:zR p=true:=qcZ (yep _ (by omega)) (by have:=ydx (x%2147483647*48271+7919*j+1) (show(0:Int)<2147483647 by omega);simp only[p];omega)
  have fq:zR q=true:=qcZ (yep _ (by omega)) (by have:=ydx (p*p) (show(0:Int)<2147483629 by omega);simp only[q];omega)
  obtain⟨s',o1,o2,e⟩:=qc0 A B x ds (s*2147483647+q*(q+13)%2147483647) (some (.int j)) (some (.int q)) λy hy=>h y (mM _ hy)
  refine⟨s',o1,o2,?_⟩
  have st:(qM (jk 5 (d2 qbE (d2 zw (d2 zw (d2 z7 (d2 qbE (dv 2) (ret (.int 2147483647))) (ret (.int 48271))) (d2 z7 (ret (.int 7919)) (dv 4))) (ret (.int 1))) (ret (.int 2147483647)))) (qM (jk 5 (d2 qbE (d2 z7 (dv 5) (dv 5)) (ret (.int 2147483629)))) (jk 3 (d2 zw (d2 z7 (dv 3) (ret (.int 2147483647))) (d2 qbE (d2 z7 (dv 5) (d2 zw (dv 5) (ret (.int 13)))) (ret (.int 2147483647))))))) [A,B,some (.int x),some (.int s),some (.int j),o']=.ok (.nx [A,B,some (.int x),some (.int (s*2147483647+q*(q+13)%2147483647)),some (.int j),some (.int q)]):=by
   refine(qz (Z':=[A,B,some (.int x),some (.int s),some (.int j),some (.int p)]) ?_).trans ?_
   ·push_cast [uo (j:=2147483647) (by decide),qdA f48,qgl f79,zM,p]
   refine(qz (Z':=[A,B,some (.int x),some (.int s),some (.int j),some (.int q)]) ?_).trans ?_
   ·push_cast [qgl fp,uo (j:=2147483629) (by decide),q]
   ·push_cast [qdA f21,zM,qgl fq,uo (j:=2147483647) (by decide)]
  unfold yf
  simp only[qg,ycy,yfB,st]
  exact e
theorem qk1 (ns:List Int) (i:Int) (h0:0<=i):∃n,zH [.fz ns,.int i]=.ok (.lst [.int n]):=by
 have f79:zR 7919=true:=by decide
 have s1:∃x,(sif (tst (d2 ltD (dv 1) (qF qbF (qa (dv 0) (ret []))))) (jk 2 (d2 ixD (dv 0) (dv 1))) u8) [some (.fz ns),some (.int i),some (.int (7919*i+13)),none,none,none]=.ok (.nx [some (.fz ns),some (.int i),some (.int x),none,none,none]):=by
  by_cases h:i<ns.length
  ·obtain ⟨j,rfl⟩:=yef h0
   have hj:j<ns.length:=by omega
   have e:ixD (.fz ns) (.int (j:Int))=some (.int ns[j]):=by
    show(atI ns (j:Int)).map D.int=_
    rw[qhn (gG hj)];rfl
   refine⟨ns[j],?_⟩
   push_cast [e,qbF,h]
  ·refine⟨7919*i+13,?_⟩
   push_cast [qbF,h]
 obtain⟨x,e1⟩:=s1
 have s0:(jk 2 (d2 zw (d2 z7 (ret (.int 7919)) (dv 1)) (ret (.int 13)))) [some (.fz ns),some (.int i),none,none,none,none]=.ok (.nx [some (.fz ns),some (.int i),some (.int (7919*i+13)),none,none,none]):=by
  push_cast [qgl f79,zM]
 by_cases hx:x%2=0
 ·refine⟨x/2,?_⟩
  unfold zH yH
  refine qcR rfl ⟨[some (.fz ns),some (.int i),some (.int x),none,none,none],?_⟩
  refine(qz s0).trans ((qz e1).trans (qbj ?_))
  push_cast [uo (j:=2) (by decide),hx,qbl (j:=2) (by decide) (by decide),jM (show 1<=1000000 by omega)]
 ·obtain ⟨s',o1,o2,q⟩:=qc0 (some (.fz ns)) (some (.int i)) x (v6 0 16) 0 none none λd hd=>by
   unfold v6 at hd
   obtain⟨k,hk,rfl⟩:=mP_.mp hd
   exact⟨_,rfl⟩
  refine⟨s',?_⟩
  unfold zH yH
  refine qcR rfl ⟨[some (.fz ns),some (.int i),some (.int x),some (.int s'),o1,o2],?_⟩
  refine(qz s0).trans ((qz e1).trans ?_)
  refine(qz (Z':=[some (.fz ns),some (.int i),some (.int x),none,none,none]) ?_).trans ?_
  ·push_cast [uo (j:=2) (by decide),hx]
  refine(qz (Z':=[some (.fz ns),some (.int i),some (.int x),some (.int 0),none,none]) ?_).trans ?_
  ·push_cast []
  refine(qz (Z':=[some (.fz ns),some (.int i),some (.int x),some (.int s'),o1,o2]) ?_).trans ?_
  ·rw[ud,yh (j:=16) (Z1:=[some (.fz ns),some (.int i),some (.int x),some (.int 0),none,none]) rfl (by omega) (by omega)]
   exact q
  ·push_cast [jM (show 1<=1000000 by omega)]
theorem qe6{p:MS}{g:M D}{n i:Nat}{Z Z':Env}{d:D}(h:p Z=.ok (.rt d Z')):v8 RN n i p g Z=.ok (.rt d Z'):=by rw[qip,h]
theorem qk2 {F:List D->R D} {l:M (List D)} {Z:Env} {ds:List D} {d:D} (hl:l Z=.ok (ds,Z)) (h:F ds=.ok d):z9 (jD RN F l) Z=.ok (.nx Z):=by
 rw[qaa,qah,hl]
 simp only[h]
def kw(k:Kw):D:=.tup [.int k.w,.int k.v,mD k.m]
def zN(k:Kw):Prop:=(1<=k.w/\k.w<=25)/\(0<=k.v/\k.v<=39)/\∀j,k.m=some j->0<=j/\j<=5
theorem zN.kd{k:Kw}(h:zN k):zS k:=⟨h.1.1,λj e=>(h.2.2 j e).1⟩
theorem qk3(k:Kw):ixD (kw k) (.int 0)=some (.int k.w):=rfl
theorem qk4(k:Kw):ixD (kw k) (.int 2)=some (mD k.m):=rfl
theorem qcb{ds:List D}{i:Nat}{d:D}(h:ds[i]? = some d):ixD (.lst ds) (.int (i:Nat))=some d:=qhn h
theorem qk5{k:Kw}(hk:zN k):zR k.v=true:=qeS hk.2.1.1 (by have:=hk.2.1.2;omega)
theorem qe7{k:Kw}(hk:zN k):zR k.w=true:=qeS (by have:=hk.1.1;omega) (by have:=hk.1.2;omega)
theorem uZ {k:Kw} (hk:zN k) {s:Int} (h0:0<=s):jn [kw k,.int s]=.ok (.int (ofn k s:Nat)):=by
 unfold jn yj
 have hd:0<=s/k.w:=Int.ediv_nonneg h0 (by have:=hk.1.1;omega)
 let Z:Env:=[some (kw k),some (.int s),some (.int (s/k.w))]
 refine qcR rfl ⟨Z,?_⟩
 refine(qz (Z':=Z) ?_).trans ?_
 ·show jk 2 _ [some (kw k),some (.int s),none]=_
  rw[qcv,qG rfl (qG rfl rfl (qk3 k)) (qbl (by have:=hk.1.1;omega) (by have:=hk.1.2;omega))]
  rfl
 ·have c1:d2 isN (d2 ixD (dv 0) (ret (.int 2))) (ret .non) Z=.ok (.bl k.m.isNone,Z):=qG (qG rfl rfl (qk4 k)) rfl (by rw[qbi,qcT])
  rw[qa8,qie,yN c1]
  cases em:k.m with
  |none=>
   have e:((ofn k s:Nat):Int)=s/k.w:=by unfold ofn;rw[em];show((s/k.w).toNat:Int)=_;omega
   rw[e]
   rfl
  | some j=>
   have hj:=(hk.2.2 j em).1
   have e:((ofn k s:Nat):Int)=if j<s/k.w then j else s/k.w:=by
    unfold ofn
    rw[em]
    show((if j<s/k.w then j else s/k.w).toNat:Int)=_
    split<;>omega
   have c2:qF qaZ (qa (dv 2) (qa (d2 ixD (dv 0) (ret (.int 2))) (ret []))) Z=.ok (.int (ofn k s:Nat),Z):=by
    rw[vE,qgr rfl (qG rfl rfl (by rw[qk4,em]))]
    show(match qaZ [.int (s/k.w),.int j] with|some d=>R.ok (d,Z)|none => .bad)=_
    rw[qgq,e]
   show(match qF qaZ (qa (dv 2) (qa (d2 ixD (dv 0) (ret (.int 2))) (ret []))) Z with|.ok (d,Z1)=>R.ok (Fl.rt d Z1)|.exc x Z' => .exc x Z'|.bad => .bad)=_
   rw[c2]
theorem wj {k:Kw} (hk:zN k) (t s:Int):yk [kw k,.int t,.int s]=.ok (.int (s-t*k.w)):=by
 unfold yk yX
 refine qcR rfl ⟨[some (kw k),some (.int t),some (.int s)],qbw ?_⟩
 exact qG rfl (qG rfl (qG rfl rfl (qk3 k)) (qdA (qe7 hk))) (qgj _ _)
theorem qmk {k:Kw} (hk:zN k) {s:Nat}:ofn k (s:Nat)<=s:=by
 have:=(uU hk.kd.1 hk.kd.2 (show(0:Int)<=(s:Nat) by omega) (yag (ofn k (s:Nat)))).2
 omega
theorem qe8 {l:M (List D)} {Z:Env} {k:Kw} {s:Int} (hn:ofn k s<=200) (h:l Z=.ok ([.int ((ofn k s:Nat)+1)],Z)):jd l Z=.ok ((yat (ofn k s+1)).map λt=>D.int (t:Nat),Z):=by
 rw[yh h (by omega) (by omega)]
 have e:((ofn k s:Nat)+1:Int).toNat=ofn k s+1:=by omega
 rw[e,qm3]
theorem qiW {k:Kw} (hk:zN k) {s r:Nat} (hs:s<=r) {t:Nat} (ht:t<=ofn k (s:Nat)):∃i:Nat,i<=r/\((i:Nat):Int)=(s:Int)-t*k.w:=by
 have:=(uU hk.kd.1 hk.kd.2 (show(0:Int)<=(s:Int) by omega) ht).1
 have h2:0<=(t:Int)*k.w:=ycd (by omega) (by have:=hk.1.1;omega)
 exact⟨((s:Int)-t*k.w).toNat,by omega,by omega⟩
def wO(f:Nat->D)(r:Nat):List D:=(yat (r+1)).map f
theorem qe9 {f:Nat->D} {r i:Nat} (h:i<=r):(wO f r)[i]? = some (f i):=by
 unfold wO
 rw[gM_,List.getElem?_range (by omega)]
 rfl
theorem qhr (d:D) (r:Nat) (hr:r<=200):z7 (.lst [d]) (.int (r:Int))=some (.lst ((yat r).map λ_=>d)):=by
 have h1:decide (-(2 ^ 62:Int)<=(r:Int))=true:=decide_eq_true (by omega)
 have h2:decide ((r:Int)<2 ^ 62)=true:=decide_eq_true (by omega)
 have e:((r:Int)).toNat=r:=by omega
 have h3:qD (([d]:List D).length*((r:Int)).toNat)=true:=jM (by rw[e];simp;omega)
 have hm:z7 (.lst [d]) (.int (r:Int))=some (.lst (yak ((r:Int)).toNat [d]).flatten):=by
  simp only[z7,h1,h2,h3,ya1,if_true]
 have fl:∀n:Nat,(yak n [d]).flatten=(yat n).map λ_=>d:=λn=>by
  induction n with
  |zero=>rfl
  |succ n ih=>
   rw[rS_,ybA,ih,ycL,mC_,mm_]
   rfl
 rw[hm,e,fl]
theorem qfa (a b:D) {f:Nat->D} (h0:f 0=a) (h1:∀i,f (i+1)=b) (r:Nat):a::((yat r).map λ_=>b)=wO f r:=by
 unfold wO
 rw[ycL,mC_,mm_,h0]
 congr 1
 refine mL_ λi _=>?_
 exact(h1 i).symm
theorem qcc {n:Int} (h:n<=200):yE [.int n]=.ok .non:=by
 unfold yE
 refine qcJ rfl ⟨[some (.int n)],?_⟩
 unfold yD
 have h':¬200<n:=by omega
 push_cast [h']
theorem qaE {d:D} (hs:yW d=true) {n:Int} (h0:0<=n) (h:n<=200):zr [d,.int n]=.ok .non:=by
 have hc:jI (.int n)=true:=decide_eq_true h0
 unfold zr
 refine qcJ rfl ⟨[some d,some (.int n)],?_⟩
 unfold jU
 refine(qz (Z':=[some d,some (.int n)]) ?_).trans ((qz (Z':=[some d,some (.int n)]) ?_).trans ?_)
 ·push_cast [qaC _ hs]
 ·push_cast [qaD _ hc]
 ·push_cast [qcc h]
theorem qgw {ks:List Kw} (h:∀k∈ks,zN k) (hl:ks.length<=12):yW (.tup (ks.map kw))=true:=by
 have:(ks.map kw).all yM=true:=by
  rw[yfx]
  refine List.all_eq_true.mpr λk hk=>?_
  have g:=h k hk
  exact qeV (x:=(k.w,k.v,k.m)) ⟨by have:=g.1.1;show 0<k.w;omega,g.2.1.1,λj e=>(g.2.2 j e).1⟩
 simp only[yW,lM_,hl,decide_true,this,ybC]
theorem qnL {t:M Bool} {b:MS} {n:Nat} {Z Z1 Z2:Env} (h:t Z=.ok (true,Z1)) (hb:b Z1=.ok (.nx Z2)):jN t b (n+1) Z=jN t b n Z2:=by
 show(match t Z with|.ok (true,Z1)=>(match b Z1 with|.ok (.nx Z2)=>jN t b n Z2|.ok (.ct Z2)=>jN t b n Z2|.ok (.bk Z2) => .ok (.nx Z2)|.ok (.rt d Z2) => .ok (.rt d Z2)|.exc x Z2 => .exc x Z2|.bad => .bad)|.ok (false,Z1) => .ok (.nx Z1)|.exc x Z1 => .exc x Z1|.bad => .bad)=_
 simp only[h,hb]
theorem qnM {t:M Bool} {b:MS} {n:Nat} {Z Z1:Env} (h:t Z=.ok (false,Z1)):jN t b (n+1) Z=.ok (.nx Z1):=by
 show(match t Z with|.ok (true,Z1)=>(match b Z1 with|.ok (.nx Z2)=>jN t b n Z2|.ok (.ct Z2)=>jN t b n Z2|.ok (.bk Z2) => .ok (.nx Z2)|.ok (.rt d Z2) => .ok (.rt d Z2)|.exc x Z2 => .exc x Z2|.bad => .bad)|.ok (false,Z1) => .ok (.nx Z1)|.exc x Z1 => .exc x Z1|.bad => .bad)=_
 simp only[h]
theorem qnN(t:Nat):zw (.int (t:Nat)) (.int 1)=some (.int ((t+1:Nat):Int)):=by rw[zM];rfl
def qk6 (f:List Kw->Nat->D) (r:Nat):List Kw->List D
 | []=>[.lst (wO (f []) r)]
 |k::ks => .lst (wO (f (k::ks)) r)::qk6 f r ks
theorem qgx {Z:Env} {r:Nat} (hr:r<=200) (h1:dv 1 Z=.ok (.int (r:Nat),Z)):jd (qa (d2 zw (dv 1) (ret (.int 1))) (ret [])) Z=.ok ((yat (r+1)).map λs:Nat=>D.int (s:Nat),Z):=by
 have e:((r:Int)+1).toNat=r+1:=by omega
 rw[yh (j:=(r:Int)+1) (Z1:=Z) (qdB (qG h1 rfl (zM _ _))) (by omega) (by omega),e,qm3]
def ldD(l:List Int):D:=.tup (l.map D.int)
theorem qfb {α:Type} {e:M D} {t:M Bool} {u v w f:α->D} {p:α->Bool} {r:Env}:∀(as:List α)(acc:List D)(o o' o'':Option D),(∀a∈as,t (some (u a)::some (v a)::some (w a)::r)=.ok (p a,some (u a)::some (v a)::some (w a)::r))->(∀a∈as,p a=true->e (some (u a)::some (v a)::some (w a)::r)=.ok (f a,some (u a)::some (v a)::some (w a)::r))->acc.length+as.length<=1000000 ->
  ∃o1 o2 o3,qX (ut 3 (qo (qg 0) (qo (qg 1) (qo (qg 2) ur)))) t e (as.map λa => .tup [u a,v a,w a]) acc (o::o'::o''::r)=.ok (acc++(as.filter p).map f,o1::o2::o3::r)
 | [],acc,o,o',o'',_,_,_=>⟨o,o',o'',by simp[qX]⟩
 | a::as,acc,o,o',o'',ht,he,hl=>by
  have hl':acc.length+(as.length+1)<=1000000:=hl
  have h1:=ht a mS_
  rw[mC_]
  unfold qX
  have hg:ut 3 (qo (qg 0) (qo (qg 1) (qo (qg 2) ur))) (.tup [u a,v a,w a]) (o::o'::o''::r)=some (some (u a)::some (v a)::some (w a)::r):=rfl
  simp only[hg,h1]
  cases hp:p a with
  |false=>
   obtain⟨o1,o2,o3,q⟩:=qfb as acc (some (u a)) (some (v a)) (some (w a)) (λx hx=>ht x (mM _ hx)) (λx hx=>he x (mM _ hx)) (by omega)
   refine⟨o1,o2,o3,?_⟩
   simp only[q,ft_,hp,yaO,if_false]
  |true=>
   obtain⟨o1,o2,o3,q⟩:=qfb as (acc++[f a]) (some (u a)) (some (v a)) (some (w a)) (λx hx=>ht x (mM _ hx)) (λx hx=>he x (mM _ hx)) (by rw[lA_,ybh];omega)
   refine⟨o1,o2,o3,?_⟩
   simp only[he a mS_ hp,jM (show acc.length+1<=1000000 by omega),if_true,q,ft_,hp,mC_,aA_,yc2]
theorem qfc {α:Type} {e:M D} {t:M Bool} {u v w:α->D} {xs:M (List D)} {Z r:Env} {fr:List Nat} (as:List α) (p:α->Bool) (f:α->D) (hx:xs Z=.ok (as.map λa => .tup [u a,v a,w a],Z)) (hr:zL 3 fr Z=none::none::none::r) (hl:as.length<=1000000)
  (ht:∀a∈as,t (some (u a)::some (v a)::some (w a)::r)=.ok (p a,some (u a)::some (v a)::some (w a)::r)) (he:∀a∈as,p a=true->e (some (u a)::some (v a)::some (w a)::r)=.ok (f a,some (u a)::some (v a)::some (w a)::r)):zP 3 fr none xs (ut 3 (qo (qg 0) (qo (qg 1) (qo (qg 2) ur)))) t e Z=.ok (.lst ((as.filter p).map f),Z):=by
 obtain⟨o1,o2,o3,q⟩:=qfb as [] none none none ht he (by simpa using hl)
 rw[qab,hx]
 simp only[hr,q,ybf]
 rfl
abbrev Tr:=List Int×Int×Int
def trD(p:Tr):D:=.tup [ldD p.1,.int p.2.1,.int p.2.2]
def wl(k:Kw)(p:Tr)(t:Nat):Tr:=(p.1++[(t:Int)],p.2.1+(t:Int)*k.w,p.2.2+(t:Int)*k.v)
def yJ(k:Kw)(r:Int)(p:Tr):List Tr:=(yat (ofn k (r-p.2.1)+1)).map (wl k p)
theorem qhs (r:Int):∀(ks:List Kw)(found:List Tr),ks.foldl (λf k=>f.flatMap (yJ k r)) found=found.flatMap λp=>(qE ks (r-p.2.1)).map λl=>(p.1++l,p.2.1+qw ks l,p.2.2+ze ks l)
 | [],found=>by
  simp only[List.foldl_nil,qE,mC_,ycv,yaK,qw,ze,Int.add_zero]
  induction found with
  |nil=>rfl
  |cons p found ih=>rw[fC_,<-ih];rfl
 | k::ks,found=>by
  rw[fo_,qhs r ks _,yfA]
  congr 1
  funext p
  simp only[qE,yJ]
  rw[List.flatMap_map,List.map_flatMap]
  congr 1
  funext t
  rw[mm_]
  have e:r-(wl k p t).2.1=r-p.2.1-(t:Int)*k.w:=by
   show r-(p.2.1+(t:Int)*k.w)=_
   omega
  rw[e]
  refine mL_ λl _=>?_
  show((p.1++[(t:Int)])++l,p.2.1+(t:Int)*k.w+qw ks l,p.2.2+(t:Int)*k.v+ze ks l)=(p.1++((t:Int)::l),p.2.1+((t:Int)*k.w+qw ks l),p.2.2+((t:Int)*k.v+ze ks l))
  rw[aA_,Int.add_assoc,Int.add_assoc]
  rfl
structure okF (r:Int) (n:Nat) (F:List Tr):Prop where
 bd:∀p∈F,0<=r-p.2.1/\0<=p.2.1/\p.1.length=n
 len:F.length<=21 ^ n
theorem qht {k:Kw} (hk:zN k) {s:Int} (h0:0<=s) (h1:s<=20):ofn k s<=20:=by
 have:=(uU hk.kd.1 hk.kd.2 h0 (yag (ofn k s))).2
 omega
theorem qaF {k:Kw} (hk:zN k) {r:Int} (hr:r<=20) {n:Nat} {p:Tr} (h:0<=r-p.2.1/\0<=p.2.1/\p.1.length=n):(yJ k r p).length<=21/\∀q∈yJ k r p,0<=r-q.2.1/\0<=q.2.1/\q.1.length=n+1:=by
 have hn:=qht hk h.1 (by omega)
 refine⟨by unfold yJ;rw[lM_,lR_];omega,λq hq=>?_⟩
 obtain⟨t,ht,rfl⟩:=mP_.mp hq
 have ht':t<=ofn k (r-p.2.1):=by have:=mR_.mp ht;omega
 obtain⟨g1,_⟩:=uU hk.kd.1 hk.kd.2 h.1 ht'
 have g2:0<=(t:Int)*k.w:=ycd (by omega) (by have:=hk.1.1;omega)
 refine⟨?_,?_,?_⟩
 ·show 0<=r-(p.2.1+t*k.w);omega
 ·show 0<=p.2.1+t*k.w;omega
 ·show(p.1++[(t:Int)]).length=n+1
  rw[lA_,h.2.2]
  rfl
theorem qc1 {α β:Type} {g:α->List β} {n:Nat}:∀l:List α,(∀a∈l,(g a).length<=n)->(l.flatMap g).length<=l.length*n
 | [],_=>by simp
 |a::l,h=>by
  have h1:=h a mS_
  have h2:=qc1 l λx hx=>h x (mM _ hx)
  rw[fC_,lA_,lC_,yfi]
  omega
theorem okF.step {k:Kw} (hk:zN k) {r:Int} (hr:r<=20) {n:Nat} {F:List Tr} (h:okF r n F):okF r (n+1) (F.flatMap (yJ k r)):=by
 refine⟨λq hq=>?_,?_⟩
 ·obtain⟨p,hp,hq⟩:=List.mem_flatMap.mp hq
  exact(qaF hk hr (h.bd p hp)).2 q hq
 ·rw[Nat.pow_succ]
  exact yaF (qc1 F λp hp=>(qaF hk hr (h.bd p hp)).1) (yde _ h.len)
theorem qc2 {α β:Type} (g:α->List β):∀(l:List α)(acc:List β),l.foldl (λacc a=>acc++g a) acc=acc++l.flatMap g
 | [],acc=>by simp
 |a::l,acc=>by rw[fo_,qc2 g l,fC_,aA_]
theorem qk7(l:List Int):imm (ldD l)=true:=qax λ_ _=>rfl
section
variable{k:Kw}(hk:zN k)(T Fd:Option D){r:Int}{p:Tr}(h0:0<=r-p.2.1)
def qby(T Fd:Option D)(k:Kw)(r:Int)(p:Tr)(acc:List Tr)(t:Option D):Env:=[T,some (.int r),Fd,some (.int k.w),some (.int k.v),some (mD k.m),some (.lst (acc.map trD)),some (ldD p.1),some (.int p.2.1),some (.int p.2.2),t]
include hk h0 in
theorem qfd (acc:List Tr) (t:Nat):(qd5 (tst (d2 leD (d2 zw (dv 8) (d2 z7 (dv 10) (dv 3))) (dv 1))) (tor (tst (d2 isN (dv 5) (ret .non))) (tst (d2 leD (dv 10) (dv 5))))) (qby T Fd k r p acc (some (.int (t:Nat))))=.ok (decide (t<=ofn k (r-p.2.1)),qby T Fd k r p acc (some (.int (t:Nat)))):=by
 let Z:=qby T Fd k r p acc (some (.int (t:Nat)))
 rw[<-uG hk.kd.1 hk.kd.2 h0 t]
 have c1:tst (d2 leD (d2 zw (dv 8) (d2 z7 (dv 10) (dv 3))) (dv 1)) Z=.ok (decide (p.2.1+(t:Int)*k.w<=r),Z):=yN (qG (qG rfl (qG rfl rfl (qdA (qe7 hk))) (zM _ _)) rfl (qau _ _))
 unfold okT
 by_cases hc:p.2.1+(t:Int)*k.w<=r
 ·rw [decide_eq_true hc]at c1
  rw[decide_eq_true (show(t:Int)*k.w<=r-p.2.1 by omega),ybC]
  refine qmh c1 ?_
  have c2:tst (d2 isN (dv 5) (ret .non)) Z=.ok (k.m.isNone,Z):=yN (qG rfl rfl (by rw[qbi,qcT]))
  cases em:k.m with
  |none=>
   rw[em]at c2
   exact qnI c2
  | some j=>
   rw[em]at c2
   have hv5:dv 5 Z=.ok (.int j,Z):=by
    show R.ok (mD k.m,Z)=_
    rw[em]
    rfl
   have c3:tst (d2 leD (dv 10) (dv 5)) Z=.ok (decide (((t:Nat):Int)<=j),Z):=yN (qG rfl hv5 (qau _ _))
   rw[qen,c2]
   exact c3
 ·rw[decide_eq_false hc]at c1
  rw[decide_eq_false (show ¬(t:Int)*k.w<=r-p.2.1 by omega),ycA]
  exact qmg c1
include hk h0 in
theorem qiX (hlp:p.1.length<=100):∀(n t:Nat)(acc:List Tr),t+n=ofn k (r-p.2.1)+1->acc.length+n<=900000->jN (qd5 (tst (d2 leD (d2 zw (dv 8) (d2 z7 (dv 10) (dv 3))) (dv 1))) (tor (tst (d2 isN (dv 5) (ret .non))) (tst (d2 leD (dv 10) (dv 5))))) (qM (z9 (qZ 6 (y0 (qa (d2 zw (dv 7) (y0 (qa (dv 10) (ret [])))) (qa (d2 zw (dv 8) (d2 z7 (dv 10) (dv 3))) (qa (d2 zw (dv 9) (d2 z7 (dv 10) (dv 4))) (ret []))))))) (jk 10 (d2 zw (dv 10) (ret (.int 1))))) (n+1) (qby T Fd k r p acc (some (.int (t:Nat))))=.ok (.nx (qby T Fd k r p (acc++(ydo t n).map (wl k p)) (some (.int ((ofn k (r-p.2.1)+1:Nat):Int))))):=λn=>by
 induction n with
 |zero=>
  intro t acc e _
  have e:t=ofn k (r-p.2.1)+1:=e
  have c:=qfd hk T Fd h0 acc t
  rw[decide_eq_false (by omega)]at c
  rw[qnM c,e]
  simp
 | succ n ih=>
  intro t acc e hl
  have c:=qfd hk T Fd h0 acc t
  rw[decide_eq_true (by omega)]at c
  have s1:(qM (z9 (qZ 6 (y0 (qa (d2 zw (dv 7) (y0 (qa (dv 10) (ret [])))) (qa (d2 zw (dv 8) (d2 z7 (dv 10) (dv 3))) (qa (d2 zw (dv 9) (d2 z7 (dv 10) (dv 4))) (ret []))))))) (jk 10 (d2 zw (dv 10) (ret (.int 1))))) (qby T Fd k r p acc (some (.int (t:Nat))))=.ok (.nx (qby T Fd k r p (acc++[wl k p t]) (some (.int ((t+1:Nat):Int))))):=by
   refine(qz (Z':=qby T Fd k r p (acc++[wl k p t]) (some (.int (t:Nat)))) ?_).trans ?_
   ·have a1:y0 (qa (dv 10) (ret [])) (qby T Fd k r p acc (some (.int (t:Nat))))=.ok (.tup [.int (t:Nat)],qby T Fd k r p acc (some (.int (t:Nat)))):=by
     rw[qct,qdB (a:=.int (t:Nat)) rfl]
     simp only[lC_,lN_,yca,sm1,if_true]
    have a2:zw (ldD p.1) (.tup [.int (t:Nat)])=some (ldD (p.1++[(t:Int)])):=by
     unfold ldD
     rw[qgo (by rw[lM_,lC_,lN_];omega),ybM]
     rfl
    have a3:y0 (qa (d2 zw (dv 7) (y0 (qa (dv 10) (ret [])))) (qa (d2 zw (dv 8) (d2 z7 (dv 10) (dv 3))) (qa (d2 zw (dv 9) (d2 z7 (dv 10) (dv 4))) (ret [])))) (qby T Fd k r p acc (some (.int (t:Nat))))=.ok (trD (wl k p t),qby T Fd k r p acc (some (.int (t:Nat)))):=qnG (qG rfl a1 a2) (qG rfl (qG rfl rfl (qdA (qe7 hk))) (zM _ _)) (qG rfl (qG rfl rfl (qdA (qk5 hk))) (zM _ _))
    rw [qbp (ds:=acc.map trD) (d:=trD (wl k p t)) rfl a3 (by
     show immL [ldD (p.1++[(t:Int)]),.int _,.int _]=true
     simp only[immL,qk7,imm,ya1]) (by rw[lM_];omega)]
    show R.ok (Fl.nx _)=R.ok (Fl.nx (qby T Fd k r p (acc++[wl k p t]) _))
    unfold qby
    rw[ybM]
    rfl
   ·rw[wL (qG rfl rfl (qnN t))]
    rfl
  rw[qnL c s1,ih (t+1) (acc++[wl k p t]) (by omega) (by rw[lA_,ybh];omega),List.range'_succ,mC_,aA_]
  rfl
end
theorem qdC (T:Option D) {k:Kw} (hk:zN k) {r:Int} (hr:r<=20) {n:Nat} (hn:n<=3) {F:List Tr} (h:okF r n F) (o6 o7 o8 o9 o10:Option D) :
  ∃q7 q8 q9 q10,(qM (yr 6 (qhY (ret []))) (qM (qbR (wy (dv 2)) (ut 3 (qo (qg 7) (qo (qg 8) (qo (qg 9) ur)))) (qM (jk 10 (ret (.int 0))) (ue (qd5 (tst (d2 leD (d2 zw (dv 8) (d2 z7 (dv 10) (dv 3))) (dv 1))) (tor (tst (d2 isN (dv 5) (ret .non))) (tst (d2 leD (dv 10) (dv 5))))) (qM (z9 (qZ 6 (y0 (qa (d2 zw (dv 7) (y0 (qa (dv 10) (ret [])))) (qa (d2 zw (dv 8) (d2 z7 (dv 10) (dv 3))) (qa (d2 zw (dv 9) (d2 z7 (dv 10) (dv 4))) (ret []))))))) (jk 10 (d2 zw (dv 10) (ret (.int 1)))))))) (qeB 2 6))) [T,some (.int r),some (.lst (F.map trD)),some (.int k.w),some (.int k.v),some (mD k.m),o6,o7,o8,o9,o10]=.ok (.nx [T,some (.int r),some (.lst ((F.flatMap (yJ k r)).map trD)),some (.int k.w),some (.int k.v),some (mD k.m),none,q7,q8,q9,q10]):=by
 have hF:F.length<=9261:=yaF h.len (yaF (yeV (by omega) hn) (by decide))
 let Fd:Option D:=some (.lst (F.map trD))
 obtain ⟨Z',q,o7',o8',o9',o10',hlen,rfl⟩:=qbn (G:=ut 3 (qo (qg 7) (qo (qg 8) (qo (qg 9) ur)))) (b:=(qM (jk 10 (ret (.int 0))) (ue (qd5 (tst (d2 leD (d2 zw (dv 8) (d2 z7 (dv 10) (dv 3))) (dv 1))) (tor (tst (d2 isN (dv 5) (ret .non))) (tst (d2 leD (dv 10) (dv 5))))) (qM (z9 (qZ 6 (y0 (qa (d2 zw (dv 7) (y0 (qa (dv 10) (ret [])))) (qa (d2 zw (dv 8) (d2 z7 (dv 10) (dv 3))) (qa (d2 zw (dv 9) (d2 z7 (dv 10) (dv 4))) (ret []))))))) (jk 10 (d2 zw (dv 10) (ret (.int 1)))))))) (k:=trD) (step:=λacc p=>acc++yJ k r p) (Inv:=λm acc Z=>∃o7 o8 o9 o10,acc.length<=m*21/\Z=[T,some (.int r),Fd,some (.int k.w),some (.int k.v),some (mD k.m),some (.lst (acc.map trD)),o7,o8,o9,o10]) F 0 [] [T,some (.int r),Fd,some (.int k.w),some (.int k.v),some (mD k.m),some (.lst []),o7,o8,o9,o10] ⟨o7,o8,o9,o10,yag _,rfl⟩ (λp hp m acc Z _ hm=>by
  rintro⟨o7,o8,o9,o10,hacc,rfl⟩
  have b:=h.bd p hp
  have so:=qaF hk hr b
  have hof:=qht hk b.1 (by omega)
  have w:=qiX hk T Fd b.1 (by omega) (ofn k (r-p.2.1)+1) 0 acc (by omega) (by omega)
  have e:acc++(ydo 0 (ofn k (r-p.2.1)+1)).map (wl k p)=acc++yJ k r p:=by
   unfold yJ
   rw[List.range_eq_range']
  rw[e]at w
  refine⟨qby T Fd k r p acc o10,qby T Fd k r p (acc++yJ k r p) (some (.int ((ofn k (r-p.2.1)+1:Nat):Int))),rfl,?_,_,_,_,_,?_,rfl⟩
  ·refine(qz (Z':=qby T Fd k r p acc (some (.int ((0:Nat):Int)))) rfl).trans ?_
   exact qeu w (by intro z;cases z)
  ·rw[lA_]
   have:=so.1
   omega)
 rw[qc2,ybf]at q
 refine⟨o7',o8',o9',o10',?_⟩
 refine(qz (Z':=[T,some (.int r),Fd,some (.int k.w),some (.int k.v),some (mD k.m),some (.lst []),o7,o8,o9,o10]) ?_).trans ?_
 ·push_cast [jM (show 0<=1000000 by omega),immL,ya1,Fd]
 refine(qz (Z':=[T,some (.int r),Fd,some (.int k.w),some (.int k.v),some (mD k.m),some (.lst ((F.flatMap (yJ k r)).map trD)),o7',o8',o9',o10']) ?_).trans rfl
 rw[ud]
 exact q
def trL(ks:List Kw)(l:List Int):Tr:=(l,qw ks l,ze ks l)
theorem vX {ks:List Kw} (h:∀k∈ks,zN k) (hl:ks.length<=4) {r:Nat} (hr:r<=20):zt [.tup (ks.map kw),.int (r:Nat)]=.ok (.lst ((qE ks (r:Nat)).map λl=>trD (trL ks l)))/\(qE ks (r:Nat)).length<=194481:=by
 let T:Option D:=some (.tup (ks.map kw))
 let Rm:Option D:=some (.int (r:Nat))
 have loop:∀(b:List Kw)(n:Nat)(F:List Tr)(o3 o4 o5 o6 o7 o8 o9 o10:Option D),(∀k∈b,zN k)->okF (r:Nat) n F->n+b.length<=4->∃o3' o4' o5' o6' o7' o8' o9' o10',yf (ut 3 (qo (qg 3) (qo (qg 4) (qo (qg 5) ur)))) (qM (yr 6 (qhY (ret []))) (qM (qbR (wy (dv 2)) (ut 3 (qo (qg 7) (qo (qg 8) (qo (qg 9) ur)))) (qM (jk 10 (ret (.int 0))) (ue (qd5 (tst (d2 leD (d2 zw (dv 8) (d2 z7 (dv 10) (dv 3))) (dv 1))) (tor (tst (d2 isN (dv 5) (ret .non))) (tst (d2 leD (dv 10) (dv 5))))) (qM (z9 (qZ 6 (y0 (qa (d2 zw (dv 7) (y0 (qa (dv 10) (ret [])))) (qa (d2 zw (dv 8) (d2 z7 (dv 10) (dv 3))) (qa (d2 zw (dv 9) (d2 z7 (dv 10) (dv 4))) (ret []))))))) (jk 10 (d2 zw (dv 10) (ret (.int 1)))))))) (qeB 2 6))) (b.map kw) [T,Rm,some (.lst (F.map trD)),o3,o4,o5,o6,o7,o8,o9,o10]=.ok (.nx [T,Rm,some (.lst ((b.foldl (λf k=>f.flatMap (yJ k (r:Nat))) F).map trD)),o3',o4',o5',o6',o7',o8',o9',o10'])/\okF (r:Nat) (n+b.length) (b.foldl (λf k=>f.flatMap (yJ k (r:Nat))) F):=λb=>by
  induction b with
  |nil=>intro n F o3 o4 o5 o6 o7 o8 o9 o10 _ hF _;exact⟨o3,o4,o5,o6,o7,o8,o9,o10,rfl,hF⟩
  | cons k b ih=>
   intro n F o3 o4 o5 o6 o7 o8 o9 o10 hb hF hn
   have hn':n+(b.length+1)<=4:=hn
   have hk:=hb k mS_
   obtain⟨q7,q8,q9,q10,e⟩:=qdC T hk (show((r:Nat):Int)<=20 by omega) (by omega) hF o6 o7 o8 o9 o10
   obtain⟨p3,p4,p5,p6,p7,p8,p9,p10,q,g⟩:=ih (n+1) (F.flatMap (yJ k (r:Nat))) (some (.int k.w)) (some (.int k.v)) (some (mD k.m)) none q7 q8 q9 q10 (λx hx=>hb x (mM _ hx)) (hF.step hk (by omega)) (by omega)
   refine⟨p3,p4,p5,p6,p7,p8,p9,p10,?_,?_⟩
   ·rw[mC_,yx rfl e,q]
    rfl
   ·rw[fo_,lC_,show n+(b.length+1)=n+1+b.length by omega]
    exact g
 have h0:okF (r:Nat) 0 [([],0,0)]:=⟨λp hp=>by
  rw[ms_]at hp
  subst hp
  exact⟨by show(0:Int)<=(r:Nat)-0;omega,Int.le_refl _,rfl⟩,yag _⟩
 obtain⟨p3,p4,p5,p6,p7,p8,p9,p10,q,g⟩:=loop ks 0 [([],0,0)] none none none none none none none none h h0 (by omega)
 have fe:ks.foldl (λf k=>f.flatMap (yJ k (r:Nat))) [([],0,0)]=(qE ks (r:Nat)).map (trL ks):=by
  rw[qhs,fC_,List.flatMap_nil,yaK]
  show(qE ks ((r:Nat)-0)).map _=_
  rw[Int.sub_zero]
  refine mL_ λl _=>?_
  show([]++l,0+qw ks l,0+ze ks l)=_
  rw[yec,yec]
  rfl
 rw[fe,mm_]at q
 rw[fe,yca]at g
 refine⟨?_,?_⟩
 ·unfold zt yz
  let Z':Env:=[T,Rm,some (.lst ((qE ks (r:Nat)).map (trD∘trL ks))),p3,p4,p5,p6,p7,p8,p9,p10]
  refine qcR rfl ⟨Z',?_⟩
  refine(qz (Z':=[T,Rm,some (.lst (([([],0,0)]:List Tr).map trD)),none,none,none,none,none,none,none,none]) ?_).trans ?_
  ·push_cast [jM (show 0<=1000000 by omega),sm1,jM (show 3<=1000000 by omega),T,Rm]
   rfl
  refine(qz (Z':=Z') ?_).trans rfl
  rw[ud]
  exact q
 ·have:=g.len
  rw[lM_]at this
  exact yaF this (yaF (yeV (by omega) hl) (by decide))
theorem qk8(k:Kw):imm (kw k)=true:=qkW (k.w,k.v,k.m)
theorem qdD (n:Int) (ds:List D) (hl:ds.length<=100) (o3 o4 o5:Option D):∃k o4' o5',zN k/\(qM (qjc 4 5 (qa (d2 zw (ret (.int 1)) (qL qm 0 (qa (ret (.int 9)) (ret [])))) (qa (qL qm 0 (qa (ret (.int 10)) (ret []))) (ret [])))) (z9 (qZ 2 (y0 (qa (dv 4) (qa (dv 5) (qa (d2 ixD (y8 (qa (ret .non) (qa (ret (.int 0)) (qa (ret (.int 1)) (qa (ret (.int 1)) (qa (ret (.int 2)) (qa (ret (.int 3)) (qa (ret (.int 5)) (ret []))))))))) (qL qm 0 (qa (ret (.int 7)) (ret [])))) (ret [])))))))) [some (.lst [.int n]),some (.int 4),some (.lst ds),o3,o4,o5]=.ok (.nx [some (.lst [.int (n/9/10/7)]),some (.int 4),some (.lst (ds++[kw k])),o3,o4',o5']):=by
 obtain⟨d,hd,e⟩:=qkT (ds:=[.non,.int 0,.int 1,.int 1,.int 2,.int 3,.int 5]) (k:=n/9/10%7) (by omega) (by show n/9/10%7<7;omega)
 obtain ⟨o,rfl,ho⟩:∃o:Option Int,d=mD o/\∀j,o=some j->0<=j/\j<=5:=by
  simp only[yav,nN_,or_false]at hd
  rcases hd with rfl|rfl|rfl|rfl|rfl|rfl|rfl
  ·exact⟨none,rfl,λj e=>by cases e⟩
  ·exact⟨some 0,rfl,λj e=>by cases e;omega⟩
  ·exact⟨some 1,rfl,λj e=>by cases e;omega⟩
  ·exact⟨some 1,rfl,λj e=>by cases e;omega⟩
  ·exact⟨some 2,rfl,λj e=>by cases e;omega⟩
  ·exact⟨some 3,rfl,λj e=>by cases e;omega⟩
  ·exact⟨some 5,rfl,λj e=>by cases e;omega⟩
 let k:Kw:=⟨1+n%9,n/9%10,o⟩
 refine⟨k,some (.int (1+n%9)),some (.int (n/9%10)),⟨⟨by show 1<=1+n%9;omega,by show 1+n%9<=25;omega⟩,⟨by show 0<=n/9%10;omega,by show n/9%10<=39;omega⟩,ho⟩,?_⟩
 refine(qz (Z':=[some (.lst [.int (n/9/10)]),some (.int 4),some (.lst ds),o3,some (.int (1+n%9)),some (.int (n/9%10))]) ?_).trans ?_
 ·push_cast [vW (m:=9) (by decide) (by decide),vW (m:=10) (by decide) (by decide),zM]
 ·have im:imm (.tup [.int (1+n%9),.int (n/9%10),mD o])=true:=qk8 k
  push_cast [vW (m:=7) (by decide) (by decide),e,im,jM (show 3<=1000000 by omega),jM (show 7<=1000000 by omega),jM (show ds.length+1<=1000000 by omega),ya1]
  rfl
theorem wP:∀(cs:List D)(n:Int)(ks:List Kw)(o3 o4 o5:Option D),(∀k∈ks,zN k)->ks.length+cs.length<=4 ->
  ∃(n':Int)(ks':List Kw)(o3' o4' o5':Option D),yf (qg 3) (qM (qjc 4 5 (qa (d2 zw (ret (.int 1)) (qL qm 0 (qa (ret (.int 9)) (ret [])))) (qa (qL qm 0 (qa (ret (.int 10)) (ret []))) (ret [])))) (z9 (qZ 2 (y0 (qa (dv 4) (qa (dv 5) (qa (d2 ixD (y8 (qa (ret .non) (qa (ret (.int 0)) (qa (ret (.int 1)) (qa (ret (.int 1)) (qa (ret (.int 2)) (qa (ret (.int 3)) (qa (ret (.int 5)) (ret []))))))))) (qL qm 0 (qa (ret (.int 7)) (ret [])))) (ret [])))))))) cs [some (.lst [.int n]),some (.int 4),some (.lst (ks.map kw)),o3,o4,o5]=.ok (.nx [some (.lst [.int n']),some (.int 4),some (.lst (ks'.map kw)),o3',o4',o5'])/\(∀k∈ks',zN k)/\ks'.length<=4
 | [],n,ks,o3,o4,o5,h,hl=>⟨n,ks,o3,o4,o5,rfl,h,by simpa using hl⟩
 | d::cs,n,ks,o3,o4,o5,h,hl=>by
  have hl':ks.length+(cs.length+1)<=4:=hl
  obtain⟨k,o4',o5',gk,e⟩:=qdD n (ks.map kw) (by rw[lM_];omega) (some d) o4 o5
  obtain ⟨n',ks',p3,p4,p5,q,g,l⟩:=wP cs (n/9/10/7) (ks++[k]) (some d) o4' o5' (λx hx=>(mA_.mp hx).elim (h x) λhx=>by
   rw[ms_]at hx;subst hx;exact gk) (by rw[lA_,ybh];omega)
  refine⟨n',ks',p3,p4,p5,?_,g,l⟩
  rw[ybM]at q
  rw[yx rfl e]
  exact q
theorem qbz (n:Int):∃(ks:List Kw)(n':Int),zu [.int n] [.int 4]=.ok (.tup (ks.map kw),[.int n'])/\(∀k∈ks,zN k)/\ks.length<=4:=by
 obtain⟨n',ks',o3',o4',o5',q,g,l⟩:=wP (v6 0 (n%5).toNat) (n/5) [] none none none (λ_ h=>by cases h) (by rw[qgk];simp;omega)
 refine⟨ks',n',?_,g,l⟩
 unfold zu
 refine qg8 (Z:=[some (.lst [.int n']),some (.int 4),some (.lst (ks'.map kw)),o3',o4',o5']) rfl ?_ rfl
 unfold jY
 refine(qz (Z':=[some (.lst [.int n]),some (.int 4),some (.lst []),none,none,none]) ?_).trans ?_
 ·push_cast [immL,jM (show 0<=1000000 by omega),ya1]
 refine(qz (Z':=[some (.lst [.int n']),some (.int 4),some (.lst (ks'.map kw)),o3',o4',o5']) ?_).trans rfl
 rw[ud,yh (j:=n%5) (Z1:=[some (.lst [.int (n/5)]),some (.int 4),some (.lst []),none,none,none]) ?_ (by omega) (by omega)]
 ·exact q
 ·push_cast [zM,vW (m:=5) (by decide) (by decide),Int.reduceAdd]
theorem qc3 {f:Nat->D}:∀(l:List Nat)(p:Nat)(g:Nat->Nat),(∀i (hi:i<l.length),l[i]=g i)->yV p (l.map f)=(yat l.length).map λi => .tup [.int (p+i:Nat),f (g i)]
 | [],p,g,_=>rfl
 |a::l,p,g,h=>by
  rw[mC_,yV,qc3 l (p+1) (λi=>g (i+1)) (λi hi=>h (i+1) (by rw[lC_];omega)),lC_,ycL,mC_,mm_]
  have:g 0=a:=(h 0 (by simp)).symm
  rw[this]
  congr 1
  refine mL_ λi _=>?_
  show D.tup [.int ((p+1+i:Nat):Int),f (g (i+1))]=D.tup [.int ((p+(i+1):Nat):Int),f (g (i+1))]
  rw[show p+1+i=p+(i+1) by omega]
theorem qgy (f:Nat->D) (r:Nat):yV 0 (wO f r)=(yat (r+1)).map λi => .tup [.int (i:Nat),f i]:=by
 unfold wO
 rw[qc3 (yat (r+1)) 0 (λi=>i) (λi hi=>List.getElem_range hi),lR_]
 refine mL_ λi _=>?_
 rw[yca]
theorem qgz {g:M D} {Z:Env} {xs:List D} (h:g Z=.ok (.lst xs,Z)):wD (qa g (ret [])) Z=.ok (yV 0 xs,Z):=by
 unfold wD bnd
 rw[qdB h]
 rfl
def eD(ks:List Kw)(i:Nat):D:=.int (En ks i:Nat)
theorem qc4:∀l:List Nat,((l.map λn=>((n:Nat):Int)).sum)=((l.sum:Nat):Int)
 | []=>rfl
 |n::l=>by rw[mC_,ydJ,qc4 l,ydJ];omega
theorem qiY {ks:List Kw} {k:Kw} (hk:zN k) (hks:∀a∈ks,zN a) {s r:Nat} (hs:s<=r) (hr:r<=20):zZ [kw k,.lst (wO (eD ks) r),.int (s:Nat)]=.ok (eD (ks++[k]) s):=by
 let K:Option D:=some (kw k)
 let Rw:Option D:=some (.lst (wO (eD ks) r))
 let Sz:Option D:=some (.int (s:Nat))
 have hn:=qmk hk (s:=s)
 let g:Nat->Int:=λt=>(En ks ((s:Int)-t*k.w).toNat:Nat)
 have e0:eD (ks++[k]) s=.int ((yat (ofn k (s:Nat)+1)).map g).sum:=by
  unfold eD
  rw[qiU hk.kd (λa ha=>(hks a ha).kd) (by omega),<-qc4,mm_]
  rfl
 rw[e0]
 unfold zZ yY
 refine qcR rfl ⟨[K,Rw,Sz],qbw (uT (a:=.lst ((yat (ofn k (s:Nat)+1)).map λt=>D.int (g t))) ?_ qgt)⟩
 refine qeU (r:=[Rw,K,Sz]) (k:=λt:Nat=>D.int (t:Nat)) (yat (ofn k (s:Nat)+1)) _ (qe8 (by omega) (qdB (qG (qbo rfl rfl (uZ hk (by omega))) rfl (zM _ _)))) rfl (by rw[lR_];omega) λt ht=>?_
 obtain⟨i,hi,ei⟩:=qiW hk hs (show t<=ofn k (s:Nat) by have:=mR_.mp ht;omega)
 refine qG rfl (qbv rfl rfl rfl (wj hk (t:Nat) (s:Nat))) ?_
 rw[<-ei,qcb (qe9 hi)]
 show some (D.int (En ks i:Nat))=some (D.int (En ks ((s:Int)-t*k.w).toNat:Nat))
 rw[<-ei,ybl]
theorem vY {r:Nat} (hr:r<=20) (T:Option D):∀(b pre:List Kw)(o3:Option D),(∀k∈b,zN k)->(∀k∈pre,zN k)->∃(o3':Option D),yf (qg 3) (jk 2 (zP 1 [3,2] none (jd (qa (d2 zw (dv 1) (ret (.int 1))) (ret []))) (qg 0) (ret true) (qr zZ (qa (dv 1) (qa (dv 2) (qa (dv 0) (ret []))))))) (b.map kw) [T,some (.int (r:Nat)),some (.lst (wO (eD pre) r)),o3]=.ok (.nx [T,some (.int (r:Nat)),some (.lst (wO (eD (pre++b)) r)),o3'])
 | [],pre,o3,_,_=>⟨o3,by rw[yaK];rfl⟩
 | k::b,pre,o3,h,hp=>by
  have hk:=h k mS_
  obtain ⟨o3',q⟩:=vY hr T b (pre++[k]) (some (kw k)) (λx hx=>h x (mM _ hx)) (λx hx=>(mA_.mp hx).elim (hp x) λhx=>by
   rw[ms_]at hx;subst hx;exact hk)
  let Z:Env:=[T,some (.int (r:Nat)),some (.lst (wO (eD pre) r)),some (kw k)]
  have c:(zP 1 [3,2] none (jd (qa (d2 zw (dv 1) (ret (.int 1))) (ret []))) (qg 0) (ret true) (qr zZ (qa (dv 1) (qa (dv 2) (qa (dv 0) (ret [])))))) Z=.ok (.lst (wO (eD (pre++[k])) r),Z):=by
   refine qeU (r:=[some (kw k),some (.lst (wO (eD pre) r))]) (k:=λs:Nat=>D.int (s:Nat)) (yat (r+1)) (eD (pre++[k])) (qgx (by omega) rfl) rfl (by rw[lR_];omega) λs hs=>?_
   have hs':s<=r:=by have:=mR_.mp hs;omega
   exact qbv rfl rfl rfl (qiY hk hp hs' hr)
  refine⟨o3',?_⟩
  rw[mC_,yx rfl (wL c)]
  rw[aA_]at q
  exact q
theorem vZ {ks:List Kw} (h:∀k∈ks,zN k) {r:Nat} (hr:r<=20):qI [.tup (ks.map kw),.int (r:Nat)]=.ok (.lst (wO (eD ks) r)):=by
 let T:Option D:=some (.tup (ks.map kw))
 let Rm:Option D:=some (.int (r:Nat))
 obtain⟨o3',q⟩:=vY hr T ks [] none h (λ_ h=>by cases h)
 rw[ybf]at q
 unfold qI jh
 refine qcR rfl ⟨[T,Rm,some (.lst (wO (eD ks) r)),o3'],?_⟩
 refine(qz (Z':=[T,Rm,some (.lst (wO (eD []) r)),none]) ?_).trans ?_
 ·have a1:y8 (qa (ret (.int 1)) (ret [])) [T,Rm,none,none]=.ok (.lst [.int 1],[T,Rm,none,none]):=by push_cast [sm1]
  have a0:y8 (qa (ret (.int 0)) (ret [])) [T,Rm,none,none]=.ok (.lst [.int 0],[T,Rm,none,none]):=by push_cast [sm1]
  have a2:d2 zw (y8 (qa (ret (.int 1)) (ret []))) (d2 z7 (y8 (qa (ret (.int 0)) (ret []))) (dv 1)) [T,Rm,none,none]=.ok (.lst (wO (eD []) r),[T,Rm,none,none]):=by
   refine qG a1 (qG a0 rfl (qhr (.int 0) r (by omega))) ?_
   rw[qgn (by rw[lM_,lR_,lC_,lN_];omega),<-qfa (f:=eD []) (.int 1) (.int 0) (by unfold eD;rw[qhp];rfl) (λi=>by unfold eD;rw[qhp,if_neg (by omega)];rfl)]
   rfl
  show jk 2 _ [T,Rm,none,none]=_
  rw[wL a2]
  rfl
 refine(qz (Z':=[T,Rm,some (.lst (wO (eD ks) r)),o3']) ?_).trans rfl
 rw[ud]
 exact q
section
variable{ks:List Kw}(h:∀k∈ks,zN k)(hl:ks.length<=4){r:Nat}(hr:r<=20)
include h hl hr
theorem qcd(n:Nat):z9 (jD RN zr (qa (dv 0) (qa (dv 1) (ret [])))) ([some (.tup (ks.map kw)),some (.int (r:Nat))]++yak n none)=.ok (.nx ([some (.tup (ks.map kw)),some (.int (r:Nat))]++yak n none)):=qk2 rfl (qaE (qgw h (by omega)) (show(0:Int)<=(r:Nat) by omega) (by omega))
theorem qfe:vb [.tup (ks.map kw),.int (r:Nat)]=.ok (.bl (decide (0<En ks r))):=by
 let Z:Env:=[some (.tup (ks.map kw)),some (.int (r:Nat))]
 unfold vb
 refine qiq rfl ⟨Z,?_⟩
 unfold va
 have g:gtD (eD ks r) (.int 0)=some (.bl (decide (0<En ks r))):=by
  unfold eD
  rw[uF]
  congr 2
  by_cases c:0<En ks r
  ·rw[decide_eq_true c,decide_eq_true (by omega)]
  ·rw[decide_eq_false c,decide_eq_false (by omega)]
 exact(qz (qcd h hl hr 0)).trans (qbw (qG (qG (qbo rfl rfl (vZ h hr)) rfl (qcb (qe9 (yag r)))) rfl g))
theorem qgA:jX [.tup (ks.map kw),.int (r:Nat)]=.ok (eD ks r):=by
 let Z:Env:=[some (.tup (ks.map kw)),some (.int (r:Nat))]
 unfold jX
 refine qiq rfl ⟨Z,?_⟩
 unfold jW
 exact(qz (qcd h hl hr 0)).trans (qbw (qG (qbo rfl rfl (vZ h hr)) rfl (qcb (qe9 (yag r)))))
theorem qk9:qJ [.tup (ks.map kw),.int (r:Nat)]=.ok (.lst ((rmL ks r).map D.int)):=by
 let Z:Env:=[some (.tup (ks.map kw)),some (.int (r:Nat))]
 have c:=qiT (e:=dv 0) (t:=tst (d2 gtD (dv 1) (ret (.int 0)))) (xs:=wD (qa (qr qI (qa (dv 0) (qa (dv 1) (ret [])))) (ret []))) (fr:=[]) (Z:=Z) (r:=[]) (u:=λi:Nat=>D.int (i:Nat)) (v:=eD ks) (yat (r+1)) (λi=>decide (0<En ks i)) (λi=>D.int (i:Nat)) (by
  rw [qgz (qbo rfl rfl (vZ h hr)),qgy]) rfl (by rw[lR_];omega) (λi _=>yN (qG rfl rfl (by
   unfold eD
   rw[uF]
   congr 2
   by_cases c:0<En ks i
   ·rw[decide_eq_true c,decide_eq_true (by omega)]
   ·rw[decide_eq_false c,decide_eq_false (by omega)]))) (λ_ _ _=>rfl)
 unfold qJ
 refine qiq rfl ⟨Z,?_⟩
 unfold jV
 have e:(rmL ks r).map D.int=((yat (r+1)).filter λi=>decide (0<En ks i)).map λi=>D.int (i:Nat):=by
  unfold rmL
  rw[mm_]
  rfl
 rw[e]
 exact(qz (qcd h hl hr 0)).trans (qbw c)
end
theorem qml {ks:List Kw} (h:∀k∈ks,zN k) (hl:ks.length<=4) {r:Nat} (hr:r<=20):qp [.int 0,.tup (ks.map kw),.int (r:Nat)]=.ok (.bl (decide (0<En ks r))):=by
 unfold qp
 let Z:Env:=[some (.int 0),some (.tup (ks.map kw)),some (.int (r:Nat)),none]
 refine qcR rfl ⟨Z,?_⟩
 unfold ym
 refine qe6 (qbj (Z':=Z) ?_)
 push_cast [Z,qfe h hl hr]
theorem qmm {ks:List Kw} (h:∀k∈ks,zN k) (hl:ks.length<=4) {r:Nat} (hr:r<=20):qp [.int 2,.tup (ks.map kw),.int (r:Nat)]=.ok (eD ks r):=by
 unfold qp
 let Z:Env:=[some (.int 2),some (.tup (ks.map kw)),some (.int (r:Nat)),none]
 have h1:¬((2:Int)=0):=by omega
 have h2:¬((2:Int)=1):=by omega
 refine qcR rfl ⟨Z,?_⟩
 unfold ym
 refine qe6 ((qz (Z':=Z) ?_).trans ?_)
 ·push_cast [Z,h1]
 ·push_cast [Z,h2,qgA h hl hr]
theorem qiZ:∀j:Nat,j<3->qp [.int (j:Nat),(.tup [.tup [.int 1,.int 1,.int 1]]),.int 201]=.ok (.lst [.int 3]):=qnJ (by kernel_rfl) (by kernel_rfl) (by kernel_rfl)
theorem qgB(ds:List D):qbF [.lst ds]=some (.int ((ds.length:Nat):Int)):=rfl
theorem qi0 (x:Int) (l:List Int):inB (.int x) (.lst (l.map D.int))=some (.bl (decide (x∈l))):=by
 have h1:(l.map D.int).all flD=true:=by
  rw[yfx]
  exact List.all_eq_true.mpr λ_ _=>rfl
 have h2:(l.map D.int).any (λd=>eqV (vD d) (vD (.int x)))=decide (x∈l):=by
  rw[yfm]
  by_cases c:x∈l
  ·rw[decide_eq_true c]
   exact List.any_eq_true.mpr ⟨x,c,by show decide (x=x)=true;exact decide_eq_true rfl⟩
  ·rw[decide_eq_false c]
   refine List.any_eq_false.mpr λy hy=>?_
   show ¬decide (y=x)=true
   rw[decide_eq_true_eq]
   rintro rfl
   exact c hy
 have e:inD (.int x) (.lst (l.map D.int))=some (.bl (decide (x∈l))):=by
  unfold inD
  show(if flD (.int x)&&(l.map D.int).all flD then some (D.bl ((l.map D.int).any λd=>eqV (vD d) (vD (.int x))))else none)=_
  rw[h1,h2]
  rfl
 unfold inB
 rw[e]
 rfl
theorem qgC {ks:List Kw} {r:Nat}:inB (.int (r:Nat)) (.lst ((rmL ks r).map D.int))=some (.bl (decide (0<En ks r))):=by
 rw[qi0]
 congr 2
 rw[decide_eq_decide]
 unfold rmL
 constructor
 ·intro h
  obtain⟨i,hi,e⟩:=mP_.mp h
  obtain⟨_,b⟩:=List.mem_filter.mp hi
  have:i=r:=by omega
  subst this
  exact of_decide_eq_true b
 ·intro h
  exact mP_.mpr ⟨r,List.mem_filter.mpr ⟨mR_.mpr (by omega),decide_eq_true h⟩,rfl⟩
theorem qi1 {ks:List Kw} {r:Nat} (hr:r<=20):zd [.lst ((rmL ks r).map D.int)]=some (.str (zB (.lst ((rmL ks r).map D.int))).shown):=by
 have hx:∀d∈(rmL ks r).map D.int,qfm 130 0 d/\plain d=true:=λd hd=>by
  obtain⟨x,hx,rfl⟩:=mP_.mp hd
  obtain⟨i,hi,rfl⟩:=mP_.mp hx
  obtain⟨a,_⟩:=List.mem_filter.mp hi
  have:=mR_.mp a
  exact⟨qbq (by omega),rfl⟩
 have hn:qfm (21*131) 1 (.lst ((rmL ks r).map D.int)):=qgm (λd hd=>(hx d hd).1) (by
  unfold rmL
  rw[lM_,lM_]
  exact yaF (yce _ _) (by rw[lR_];omega))
 have hp:=qbm ((rmL ks r).map D.int) λd hd=>(hx d hd).2
 have:vB (.lst ((rmL ks r).map D.int))=true:=qeT hn (by omega) (by omega) (by
  show(!(zB (.lst ((rmL ks r).map D.int))).hasDict||noL (.lst ((rmL ks r).map D.int)))=true
  simp only[zB,PyData.hasDict,hp.1,yeL,yfy])
 simp only[zd,this,if_true]
theorem qi2(b:Bool):∃x,zd [.bl b]=some (.str x):=by cases b<;>exact⟨_,rfl⟩
theorem qc5 {i:Int} (h:i.natAbs<10 ^ 39):zd [.int i]=some (.str (zB (.int i)).shown):=by
 have:vB (.int i)=true:=qeT (qbq h) (by omega) (by omega) rfl
 simp only[zd,this,if_true]
theorem qi3 (k:Kw):immF (kw k)=true:=by
 cases k with
 |mk w v m=>cases m<;>rfl
theorem qbA {α:Type} {f:α->D} (h:∀a,immF (f a)=true):∀as:List α,immFs (as.map f)=true
 | []=>rfl
 |a::as=>by rw[mC_,immFs,h a,qbA h as];rfl
theorem qhu {ks:List Kw} (h:∀k∈ks,zN k) (hl:ks.length<=4) (S I B So Mn:Option D) {r:Nat} (hr:r<=20) (l o9:Option D):(qM (yr 9 (yI qJ (qa (dv 3) (qa (dv 4) (ret []))))) (qM (sif (tst (d2 neB (qai (qF zd (qa (dv 9) (ret [])))) (qF zd (qa (dv 6) (ret []))))) (yd (ret (.bl false))) u8) (z9 (qZ 9 (ret (.int 0)))))) [S,I,B,some (.tup (ks.map kw)),some (.int (r:Nat)),So,some (.lst ((rmL ks r).map D.int)),Mn,l,o9]=.ok (.nx [S,I,B,some (.tup (ks.map kw)),some (.int (r:Nat)),So,some (.lst ((rmL ks r).map D.int)),Mn,l,some (.lst ((rmL ks r).map D.int++[.int 0]))]):=by
 let T:Option D:=some (.tup (ks.map kw))
 let Rm:Option D:=some (.int (r:Nat))
 let W:Option D:=some (.lst ((rmL ks r).map D.int))
 let Z1:Env:=[S,I,B,T,Rm,So,W,Mn,l,W]
 refine(qz (Z':=Z1) ?_).trans ((qz (Z':=Z1) ?_).trans ?_)
 ·have c:yI qJ (qa (dv 3) (qa (dv 4) (ret []))) [S,I,B,T,Rm,So,W,Mn,l,o9]=.ok ((rmL ks r).map D.int,[S,I,B,T,Rm,So,W,Mn,l,o9]):=by
   have i1:immFs [.tup (ks.map kw),.int (r:Nat)]=true:=by
    simp only[immFs,immF,qbA qi3,ya1]
   have i2:immL ((rmL ks r).map D.int)=true:=qax λ_ _=>rfl
   rw[qbU,qgr (a:=.tup (ks.map kw)) (b:=.int (r:Nat)) rfl rfl]
   simp only[i1,qk9 h hl hr,i2,if_true]
  show yr 9 _ [S,I,B,T,Rm,So,W,Mn,l,o9]=_
  rw[qbT,c]
  rfl
 ·have rr:=qi1 (ks:=ks) hr
  have a9:qai (qF zd (qa (dv 9) (ret []))) Z1=.ok (.str (zB (.lst ((rmL ks r).map D.int))).shown,Z1):=by
   rw[qis,uT (a:=.lst ((rmL ks r).map D.int)) rfl rr]
   simp only[imm,and_self,if_true]
  exact qme (yN (qG a9 (uT (a:=.lst ((rmL ks r).map D.int)) rfl rr) (qb8 _)))
 ·rw [qbp (ds:=(rmL ks r).map D.int) (d:=.int 0) (Z:=Z1) rfl rfl rfl (by
   unfold rmL
   rw[lM_,lM_]
   exact yfu (yce _ _) (by rw[lR_];omega))]
  rfl
theorem qgD (ns:List Int) (i:Int) (h0:0<=i) (h1:i<3) (r:Env) (hr:r.length=8):∃r',r'.length=8/\(qM (yr 2 (yI zH (qa (dv 0) (qa (dv 1) (ret []))))) (qM (qgI (y0 (qa (qL zu 2 (qa (ret (.int 4)) (ret []))) (qa (qL qm 2 (qa (d2 ixD (y8 (qa (ret (.int 21)) (qa (ret (.int 13)) (qa (ret (.int 13)) (ret []))))) (dv 1)) (ret []))) (ret [])))) (ut 2 (qo (qg 3) (qo (qg 4) ur)))) (qM (jk 5 (qr zt (qa (dv 3) (qa (dv 4) (ret []))))) (qM (jk 6 (qb6 (zP 3 [] none (wy (dv 5)) (ut 3 (qo (qg 0) (qo (qg 1) (qo (qg 2) ur)))) (ret true) (dv 1)))) (qM (jk 7 (qF qbF (qa (zP 3 [4] none (wy (dv 5)) (ut 3 (qo (qg 0) (qo (qg 1) (qo (qg 2) ur)))) (tst (d2 eqB (dv 1) (dv 3))) (ret (.int 1))) (ret [])))) (qM (sif (tor (tst (d2 neB (qF zd (qa (qr qp (qa (ret (.int 0)) (qa (dv 3) (qa (dv 4) (ret []))))) (ret []))) (qF zd (qa (d2 inB (dv 4) (dv 6)) (ret []))))) (tst (d2 neB (qF zd (qa (qr qp (qa (ret (.int 2)) (qa (dv 3) (qa (dv 4) (ret []))))) (ret []))) (qF zd (qa (dv 7) (ret [])))))) (yd (ret (.bl false))) u8) (qbR (jd (qa (ret (.int 2)) (ret []))) (qg 8) (qM (yr 9 (yI qJ (qa (dv 3) (qa (dv 4) (ret []))))) (qM (sif (tst (d2 neB (qai (qF zd (qa (dv 9) (ret [])))) (qF zd (qa (dv 6) (ret []))))) (yd (ret (.bl false))) u8) (z9 (qZ 9 (ret (.int 0))))))))))))) ([some (.fz ns),some (.int i)]++r)=.ok (.nx ([some (.fz ns),some (.int i)]++r')):=by
 match r,hr with
 | [o2,o3,o4,o5,o6,o7,o8,o9],_=>
  obtain⟨n,eb⟩:=qk1 ns i h0
  obtain⟨ks,n1,es,hk,hl⟩:=qbz n
  let m:Int:=if i=0 then 21 else 13
  have em:ixD (.lst [.int 21,.int 13,.int 13]) (.int i)=some (.int m):=by
   have:i=0\/i=1\/i=2:=by omega
   rcases this with rfl|rfl|rfl<;>rfl
  have hm:0<m/\m<=21:=by
   show 0<(if i=0 then(21:Int)else 13)/\(if i=0 then(21:Int)else 13)<=21
   split<;>omega
  let rm:Nat:=(n1%m).toNat
  have b1:=yep n1 (show m≠0 by omega)
  have b2:=ydx n1 hm.1
  have hrm:rm<=20:=by show(n1%m).toNat<=20;omega
  have erm:(.int (n1%m):D)=.int (rm:Nat):=by congr 1;show _=(((n1%m).toNat:Nat):Int);omega
  have hkd:=λk hk'=>(hk k hk').kd
  let S:Option D:=some (.fz ns)
  let I:Option D:=some (.int i)
  let B:Option D:=some (.lst [.int (n1/m)])
  let K:Option D:=some (.tup (ks.map kw))
  let Rm:Option D:=some (.int (rm:Nat))
  let Sl:List D:=(qE ks (rm:Nat)).map λl=>trD (trL ks l)
  let So:Option D:=some (.lst Sl)
  let Ro:Option D:=some (.lst ((rmL ks rm).map D.int))
  let Mn:Option D:=some (eD ks rm)
  let W:Option D:=some (.lst ((rmL ks rm).map D.int++[.int 0]))
  obtain⟨el,hln⟩:=vX hk hl hrm
  refine⟨[B,K,Rm,So,Ro,Mn,some (.int 1),W],rfl,?_⟩
  show(qM (yr 2 (yI zH (qa (dv 0) (qa (dv 1) (ret []))))) (qM (qgI (y0 (qa (qL zu 2 (qa (ret (.int 4)) (ret []))) (qa (qL qm 2 (qa (d2 ixD (y8 (qa (ret (.int 21)) (qa (ret (.int 13)) (qa (ret (.int 13)) (ret []))))) (dv 1)) (ret []))) (ret [])))) (ut 2 (qo (qg 3) (qo (qg 4) ur)))) (qM (jk 5 (qr zt (qa (dv 3) (qa (dv 4) (ret []))))) (qM (jk 6 (qb6 (zP 3 [] none (wy (dv 5)) (ut 3 (qo (qg 0) (qo (qg 1) (qo (qg 2) ur)))) (ret true) (dv 1)))) (qM (jk 7 (qF qbF (qa (zP 3 [4] none (wy (dv 5)) (ut 3 (qo (qg 0) (qo (qg 1) (qo (qg 2) ur)))) (tst (d2 eqB (dv 1) (dv 3))) (ret (.int 1))) (ret [])))) (qM (sif (tor (tst (d2 neB (qF zd (qa (qr qp (qa (ret (.int 0)) (qa (dv 3) (qa (dv 4) (ret []))))) (ret []))) (qF zd (qa (d2 inB (dv 4) (dv 6)) (ret []))))) (tst (d2 neB (qF zd (qa (qr qp (qa (ret (.int 2)) (qa (dv 3) (qa (dv 4) (ret []))))) (ret []))) (qF zd (qa (dv 7) (ret [])))))) (yd (ret (.bl false))) u8) (qbR (jd (qa (ret (.int 2)) (ret []))) (qg 8) (qM (yr 9 (yI qJ (qa (dv 3) (qa (dv 4) (ret []))))) (qM (sif (tst (d2 neB (qai (qF zd (qa (dv 9) (ret [])))) (qF zd (qa (dv 6) (ret []))))) (yd (ret (.bl false))) u8) (z9 (qZ 9 (ret (.int 0))))))))))))) [S,I,o2,o3,o4,o5,o6,o7,o8,o9]=_
  refine(qz (Z':=[S,I,some (.lst [.int n]),o3,o4,o5,o6,o7,o8,o9]) ?_).trans ?_
  ·push_cast [S,I,eb,immFs,immF,immL,imm,ya1]
  refine(qz (Z':=[S,I,B,K,Rm,o5,o6,o7,o8,o9]) ?_).trans ?_
  ·have tk:qm [.int n1] [.int m]=.ok (.int (n1%m),[.int (n1/m)]):=vW hm.1 (by omega)
   push_cast [es,em,tk,jM (show 3<=1000000 by omega),jM (show 2<=1000000 by omega),I]
   rw[erm]
   rfl
  refine(qz (Z':=[S,I,B,K,Rm,So,o6,o7,o8,o9]) (wL (qbo rfl rfl el))).trans ?_
  refine(qz (Z':=[S,I,B,K,Rm,So,Ro,o7,o8,o9]) ?_).trans ?_
  ·have c:=qfc (e:=dv 1) (t:=ret true) (xs:=wy (dv 5)) (fr:=[]) (Z:=[S,I,B,K,Rm,So,o6,o7,o8,o9]) (r:=[]) (u:=ldD) (v:=λl=>D.int (qw ks l)) (w:=λl=>D.int (ze ks l)) (qE ks (rm:Nat)) (λ_=>true) (λl=>D.int (qw ks l)) rfl rfl (by omega) (λ_ _=>rfl) (λ_ _ _=>rfl)
   rw[vP]at c
   have im:(qE ks (rm:Nat)).map (λl=>D.int (qw ks l))=((qE ks (rm:Nat)).map (qw ks)).map D.int:=by rw[mm_];rfl
   rw[im]at c
   have s:=qiO c (qaw _) (qe5 hkd hrm)
   rw[qcY hkd hrm]at s
   exact wL s
  refine(qz (Z':=[S,I,B,K,Rm,So,Ro,Mn,o8,o9]) ?_).trans ?_
  ·have c:=qfc (e:=ret (.int 1)) (t:=tst (d2 eqB (dv 1) (dv 3))) (xs:=wy (dv 5)) (fr:=[4]) (Z:=[S,I,B,K,Rm,So,Ro,o7,o8,o9]) (r:=[Rm]) (u:=ldD) (v:=λl=>D.int (qw ks l)) (w:=λl=>D.int (ze ks l)) (qE ks (rm:Nat)) (λl=>decide (qw ks l=(rm:Nat))) (λ_ => .int 1) rfl rfl (by omega) (λl _=>yN (qG rfl rfl (vN _ _))) (λ_ _ _=>rfl)
   have e:qbF [.lst (((qE ks (rm:Nat)).filter λl=>decide (qw ks l=(rm:Nat))).map λ_ => .int 1)]=some (eD ks rm):=by
    rw[qgB,lM_,<-qaz hkd hrm]
    rfl
   exact wL (uT c e)
  refine(qz (Z':=[S,I,B,K,Rm,So,Ro,Mn,o8,o9]) ?_).trans ?_
  ·obtain ⟨x,ex⟩:=qi2 (decide (0<En ks rm))
   have hb:(((En ks rm:Nat):Int)).natAbs<10 ^ 39:=by
    have:=yce (λl=>decide (qw ks l=(rm:Nat))) (qE ks (rm:Nat))
    rw[<-qaz hkd hrm]at this
    omega
   have t1:tst (d2 neB (qF zd (qa (qr qp (qa (ret (.int 0)) (qa (dv 3) (qa (dv 4) (ret []))))) (ret []))) (qF zd (qa (d2 inB (dv 4) (dv 6)) (ret [])))) [S,I,B,K,Rm,So,Ro,Mn,o8,o9]=.ok (false,[S,I,B,K,Rm,So,Ro,Mn,o8,o9]):=yN (qG (uT (qbv rfl rfl rfl (qml hk hl hrm)) ex) (uT (qG rfl rfl qgC) ex) (qb8 _))
   have t2:tst (d2 neB (qF zd (qa (qr qp (qa (ret (.int 2)) (qa (dv 3) (qa (dv 4) (ret []))))) (ret []))) (qF zd (qa (dv 7) (ret [])))) [S,I,B,K,Rm,So,Ro,Mn,o8,o9]=.ok (false,[S,I,B,K,Rm,So,Ro,Mn,o8,o9]):=yN (qG (uT (qbv rfl rfl rfl (qmm hk hl hrm)) (qc5 hb)) (uT (a:=eD ks rm) rfl (qc5 hb)) (qb8 _))
   exact qme (qnH t1 t2)
  rw[ud,yh (j:=2) (Z1:=[S,I,B,K,Rm,So,Ro,Mn,o8,o9]) rfl (by omega) (by omega)]
  show yf (qg 8) _ [.int 0,.int 1] [S,I,B,K,Rm,So,Ro,Mn,o8,o9]=_
  rw[yx rfl (qhu hk hl S I B So Mn hrm (some (.int 0)) o9),yx rfl (qhu hk hl S I B So Mn hrm (some (.int 1)) W)]
  rfl
theorem qc6 (ns:List Int):∀(ds:List D)(o1:Option D)(r:Env),r.length=8->(∀d∈ds,∃i:Int,d=.int i/\0<=i/\i<3)->∃Z,yf (qg 1) (qM (yr 2 (yI zH (qa (dv 0) (qa (dv 1) (ret []))))) (qM (qgI (y0 (qa (qL zu 2 (qa (ret (.int 4)) (ret []))) (qa (qL qm 2 (qa (d2 ixD (y8 (qa (ret (.int 21)) (qa (ret (.int 13)) (qa (ret (.int 13)) (ret []))))) (dv 1)) (ret []))) (ret [])))) (ut 2 (qo (qg 3) (qo (qg 4) ur)))) (qM (jk 5 (qr zt (qa (dv 3) (qa (dv 4) (ret []))))) (qM (jk 6 (qb6 (zP 3 [] none (wy (dv 5)) (ut 3 (qo (qg 0) (qo (qg 1) (qo (qg 2) ur)))) (ret true) (dv 1)))) (qM (jk 7 (qF qbF (qa (zP 3 [4] none (wy (dv 5)) (ut 3 (qo (qg 0) (qo (qg 1) (qo (qg 2) ur)))) (tst (d2 eqB (dv 1) (dv 3))) (ret (.int 1))) (ret [])))) (qM (sif (tor (tst (d2 neB (qF zd (qa (qr qp (qa (ret (.int 0)) (qa (dv 3) (qa (dv 4) (ret []))))) (ret []))) (qF zd (qa (d2 inB (dv 4) (dv 6)) (ret []))))) (tst (d2 neB (qF zd (qa (qr qp (qa (ret (.int 2)) (qa (dv 3) (qa (dv 4) (ret []))))) (ret []))) (qF zd (qa (dv 7) (ret [])))))) (yd (ret (.bl false))) u8) (qbR (jd (qa (ret (.int 2)) (ret []))) (qg 8) (qM (yr 9 (yI qJ (qa (dv 3) (qa (dv 4) (ret []))))) (qM (sif (tst (d2 neB (qai (qF zd (qa (dv 9) (ret [])))) (qF zd (qa (dv 6) (ret []))))) (yd (ret (.bl false))) u8) (z9 (qZ 9 (ret (.int 0))))))))))))) ds ([some (.fz ns),o1]++r)=.ok (.nx Z)
 | [],o1,r,_,_=>⟨_,rfl⟩
 |d::ds,o1,r,hr,h=>by
  obtain⟨i,rfl,h0,h1⟩:=h d mS_
  obtain⟨r',hr',e⟩:=qgD ns i h0 h1 r hr
  obtain⟨Z,q⟩:=qc6 ns ds (some (.int i)) r' hr' λy hy=>h y (mM _ hy)
  refine⟨Z,?_⟩
  unfold yf
  simp only[qg,List.cons_append,ybf,ycy,yfB]at e |-
  simp only[e]
  exact q
theorem qmn (Z:Env):d2 z7 (y8 (qa (y8 (qa (ret (.int 3)) (ret []))) (ret []))) (ret (.int 3)) Z=.ok (.lst [.lst [.int 3],.lst [.int 3],.lst [.int 3]],Z):=by
 have a1:y8 (qa (ret (.int 3)) (ret [])) Z=.ok (.lst [.int 3],Z):=by push_cast [sm1]
 have a2:y8 (qa (y8 (qa (ret (.int 3)) (ret []))) (ret [])) Z=.ok (.lst [.lst [.int 3]],Z):=by
  rw[qem,qdB a1]
  simp only[lC_,lN_,yca,sm1,if_true]
 exact qG a2 rfl (qhr (.lst [.int 3]) 3 (by omega))
theorem law_true (ns:List Int) (hn:ns.length<=63):qca [.fz ns]=.ok (.bl true):=by
 let j:Int:=if(if(3:Int)<(ns.length:Int) then(3:Int) else(ns.length:Int))>1 then(if(3:Int)<(ns.length:Int) then(3:Int) else(ns.length:Int))else 1
 have hj0:0<=j:=by simp only[j];split<;>split<;>omega
 have hj1:j<=3:=by simp only[j];split<;>split<;>omega
 obtain ⟨Z,q⟩:=qc6 ns (v6 0 j.toNat) none [none,none,none,none,none,none,none,none] rfl λd hd=>by
  unfold v6 at hd
  obtain⟨k,hk,rfl⟩:=mP_.mp hd
  have hk2:=mR_.mp hk
  exact⟨_,rfl,by omega,by omega⟩
 unfold qca
 refine qcR rfl ⟨Z,?_⟩
 unfold qiV
 refine(qz (Z':=[some (.fz ns),none,none,none,none,none,none,none,none,none]) ?_).trans ?_
 ·exact qkY (r:=[]) 3 (.lst [.int 3]) _ (by omega) rfl (λj hj=>qbv rfl (by push_cast [sm1,jM (show 3<=1000000 by omega)]) rfl (qiZ j hj)) (qmn _) (by kernel_rfl)
 refine(qz (Z':=Z) ?_).trans rfl
 rw[ud,yh (j:=j) (Z1:=[some (.fz ns),none,none,none,none,none,none,none,none,none]) ?_ hj0 (by omega)]
 ·exact q
 ·rfl
section
variable{P:yaj}{w:World}{K:yah}{mg:Str->Option Value}{base:Heap}
variable{f:Addr}{fd:yaL}
set_option maxHeartbeats 4000000
theorem yP:qu ["kind","room","alone"] ["kind","room"] (qd zy):=⟨rfl,rfl,rfl,by decide +kernel,rfl,by decide +kernel,by decide +kernel⟩
section
variable(P:yaj)(w:World)(K:Fr0)(mg:Str->Option Value)(base:Heap)
abbrev Q0:Prop:=ji P w K mg base 1 "most_within" ["kind","room"] (spD K jn)
abbrev Q1:Prop:=ji P w K mg base 1 "room_left" ["kind","times","room"] (spD K yk)
abbrev Q2:Prop:=ji P w K mg base 2 "many_with" ["kind","row","room"] (spD K zZ)
abbrev Q3:Prop:=ji P w K mg base 3 "filling_counts" ["store","room"] (spD K qI)
abbrev Q4:Prop:=yg P w K mg base 1 "need_few" ["number"] (spX K (clR K RN) yE)
abbrev Q5:Prop:=ji P w K mg base 1 "is_whole" ["thing"] (spD K yF)
abbrev Q6:Prop:=ji P w K mg base 2 "is_count" ["thing"] (spD K z5)
abbrev Q7:Prop:=yg P w K mg base 3 "need_count" ["thing"] (spX K (clR K RN) jQ)
abbrev Q8:Prop:=ji P w K mg base 3 "is_kind" ["thing"] (spD K yy)
abbrev Q9:Prop:=ji P w K mg base 4 "is_store" ["thing"] (spD K yG)
abbrev Q10:Prop:=yg P w K mg base 5 "need_store" ["thing"] (spX K (clR K RN) jS)
abbrev Q11:Prop:=yg P w K mg base 6 "need_asked" ["store","number"] (spX K (clR K RN) zr)
abbrev Q12:Prop:=yg P w K mg base 7 "all_filled" ["store","room"] (spX K (clR K RN) qJ)
abbrev Q13:Prop:=yg P w K mg base 7 "fills_many" ["store","room"] (spX K (clR K RN) jX)
abbrev Q14:Prop:=yg P w K mg base 7 "filled" ["store","room"] (spX K (clR K RN) vb)
abbrev Q15:Prop:=qbY P w K mg base 1 "_law_classes" ["e"] (spD K yO)
abbrev Q16:Prop:=qbY P w K mg base 2 "_law_only" ["e","place"] (spD K vV)
abbrev Q17:Prop:=ji P w K mg base 8 "_law_told" ["kind","store","room"] (spD K qp)
abbrev Q18:Prop:=ji P w K mg base 1 "_law_loads" ["store","room"] (spD K zt)
abbrev Q19:Prop:=ji P w K mg base 1 "_law_take" ["box","many"] (qgS K qm)
abbrev Q20:Prop:=ji P w K mg base 2 "_law_store" ["box","most"] (qgS K zu)
abbrev Q21:Prop:=ji P w K mg base 1 "_law_box" ["script","k"] (spD K zH)
end
theorem q0 (F:Fun K "most_within" "most_within" zy f fd) (m:mg "most_within"=some (.ref f)) (T:Txt K mg) (XTt:XT K mg RN TN) (hB:K.In base):Q0 P w K mg base:=by
 refine⟨f,fd,?_,m,F.kp,F.binds λ_ _ _ _ _ _ us hl=>match us,hl with | [_,_],_=>rfl⟩
 exact je (N:=["kind","room","alone"]) (O:=[]) (body:=yj) F yP (by decide) λcdv A outer s H E B hr=>(qf (ja (i:=2) yP.nd (qC qdO qco (qc 1) (yR jB jx (qc 0) (gI T.c_WEIGHT))))
   (qj (qT (qjY (zQ qdS qbP (yR jB jx (qc 0) (gI T.c_MOST)) qck (zg _)) (qc 2) (qP (qaQ rfl) qa0 rfl T.b_min qgU (qb (qc 2) (qb (yR jB jx (qc 0) (gI T.c_MOST)) qe)))))))
theorem qbB:qu ["kind","times","room"] ["kind","times","room"] (qd zV):=⟨rfl,rfl,rfl,by decide +kernel,rfl,by decide +kernel,by decide +kernel⟩
theorem q1 (F:Fun K "room_left" "room_left" zV f fd) (m:mg "room_left"=some (.ref f)) (T:Txt K mg) (XTt:XT K mg RN TN) (hB:K.In base):Q1 P w K mg base:=by
 refine⟨f,fd,?_,m,F.kp,F.binds λ_ _ _ _ _ _ us hl=>match us,hl with | [_,_,_],_=>rfl⟩
 exact je (N:=["kind","times","room"]) (O:=[]) (body:=yX) F qbB (by decide) λcdv A outer s H E B hr=>(qj (qT (qC qjF qhN (qc 2) (qC jf zC (qc 1) (yR jB jx (qc 0) (gI T.c_WEIGHT))))))
theorem qbC:qu ["kind","row","room"] ["kind","row","room"] (qd zD):=⟨rfl,rfl,rfl,by decide +kernel,rfl,by decide +kernel,by decide +kernel⟩
theorem q2 (F:Fun K "many_with" "many_with" zD f fd) (m:mg "many_with"=some (.ref f)) (T:Txt K mg) (XTt:XT K mg RN TN) (hB:K.In base) (C_most_within:Q0 P w K mg base) (C_room_left:Q1 P w K mg base):Q2 P w K mg base:=by
 refine⟨f,fd,?_,m,F.kp,F.binds λ_ _ _ _ _ _ us hl=>match us,hl with | [_,_,_],_=>rfl⟩
 exact je (N:=["kind","row","room"]) (O:=[]) (body:=yY) F qbC (by decide) λcdv A outer s H E B hr=>(qj (qT (qP (qfJ rfl) qec rfl T.b_sum qko (qb (yT (fo:=none) rfl (jA rfl T.b_range (qb (qC zk zl (dC C_most_within hr (qb (qc 0) (qb (qc 2) qe))) qi) qe)) (cs ["kind","row","room"] ["times","row","kind","room"] 1 [1,0,2] (qd zD)) (f0 [1,0,2] []) (λ_ _ _ _ _ _ _ _ _ _ _=>⟨(qA (i:=0) (nd ["times","row","kind","room"])),wA,(yR jB jx (qc 1) (dC C_room_left hr (qb (qc 2) (qb (qc 0) (qb (qc 3) qe)))))⟩)) qe))))
theorem zA:qu ["store","room","row","kind"] ["store","room"] (qd qH):=⟨rfl,rfl,rfl,by decide +kernel,rfl,by decide +kernel,by decide +kernel⟩
theorem q3 (F:Fun K "filling_counts" "filling_counts" qH f fd) (m:mg "filling_counts"=some (.ref f)) (T:Txt K mg) (XTt:XT K mg RN TN) (hB:K.In base) (C_many_with:Q2 P w K mg base):Q3 P w K mg base:=by
 refine⟨f,fd,?_,m,F.kp,F.binds λ_ _ _ _ _ _ us hl=>match us,hl with | [_,_],_=>rfl⟩
 exact je (N:=["store","room","row","kind"]) (O:=[]) (body:=jh) F zA (by decide) λcdv A outer s H E B hr=>(qf (ja (i:=2) zA.nd (qC zk zl (yo (qb qi qe)) (qC jf zC (yo (qb qi qe)) (qc 1))))
   (qf (vv ybw rfl (wz (qc 0)) (qA (i:=3) zA.nd) (qj (ja (i:=2) zA.nd (yT (fo:=none) rfl (jA rfl T.b_range (qb (qC zk zl (qc 1) qi) qe)) (cs ["store","room","row","kind"] ["size","kind","row"] 1 [3,2] (qd qH)) (f0 [3,2] []) (λ_ _ _ _ _ _ _ _ _ _ _=>⟨(qA (i:=0) (nd ["size","kind","row"])),wA,(dC C_many_with hr (qb (qc 1) (qb (qc 2) (qb (qc 0) qe))))⟩)))))
   (qj (qT (qc 2)))))
theorem qce:qu ["number"] ["number"] (qd zW):=⟨rfl,rfl,rfl,by decide +kernel,rfl,by decide +kernel,by decide +kernel⟩
theorem q4 (F:Fun K "need_few" "need_few" zW f fd) (m:mg "need_few"=some (.ref f)) (T:Txt K mg) (XTt:XT K mg RN TN) (hB:K.In base):Q4 P w K mg base:=by
 obtain⟨S,mS,xS⟩:=XTt.xcls hB
 obtain⟨C_TooMany,hc_TooMany⟩:=XTt.has (n:="TooMany") (by decide)
 have mc_TooMany:=XTt.mgc _ _ (XTt.cls hc_TooMany).1
 obtain⟨bm_TooMany,xc_TooMany,_⟩:=xS.own _ _ hc_TooMany
 refine⟨f,fd,?_,m,F.kp,F.binds λ_ _ _ _ _ _ us hl=>match us,hl with | [_],_=>rfl⟩
 show uq P w K mg base (CX1 P w) 1 f fd ["number"] (spX K (clR K RN) (v7 (["number"]:List Str).length (["number"]:List Str).length yD))
 refine vJ (N:=["number"]) (ps:=["number"]) (k:=0) (O:=[]) (body:=yD) (cl:=clR K RN) F qce ?a ?b
 case a=>decide
 intro cdv A outer s H E B hr
 have L:=vI (P:=P) (w:=w) (K:=K) (mg:=mg) (base:=base) (N:=["number"]) (qual:="need_few") (scope:=qd zW) (f:=f) (cdv:=cdv) (A:=A) (outer:=outer) (s:=s) (H:=H) (E:=E) (c:=cfn [] [] B H (λ_=>False) (λx H'=>∀C,clR K RN x.cls=some C->E (.ref C) none H') λ_=>none) (cl:=clR K RN) rfl (λx C H' h1 h2=>h2 C h1)
 exact(qj (uu (zQ qfw qcp (qc 0) (gI T.c_ASKED_AT_MOST) (zg _)) (qj (qad rfl L hc_TooMany rfl mc_TooMany xc_TooMany (qb qd3 qe))) zx))
theorem qcf:qu ["thing"] ["thing"] (qd ju):=⟨rfl,rfl,rfl,by decide +kernel,rfl,by decide +kernel,by decide +kernel⟩
theorem q5 (F:Fun K "is_whole" "is_whole" ju f fd) (m:mg "is_whole"=some (.ref f)) (T:Txt K mg) (XTt:XT K mg RN TN) (hB:K.In base):Q5 P w K mg base:=by
 refine⟨f,fd,?_,m,F.kp,F.binds λ_ _ _ _ _ _ us hl=>match us,hl with | [_],_=>rfl⟩
 exact je (N:=["thing"]) (O:=[]) (body:=uJ) F qcf (by decide) λcdv A outer s H E B hr=>(qj (qT (qd7 (qcr qhT rfl T.b_isinstance rfl T.b_int qkp (qc 0) ql) (qcm (qjX (qcr qfF rfl T.b_isinstance rfl T.b_bool qia (qc 0) ql))))))
theorem qcg:qu ["thing"] ["thing"] (qd jv):=⟨rfl,rfl,rfl,by decide +kernel,rfl,by decide +kernel,by decide +kernel⟩
theorem q6 (F:Fun K "is_count" "is_count" jv f fd) (m:mg "is_count"=some (.ref f)) (T:Txt K mg) (XTt:XT K mg RN TN) (hB:K.In base) (C_is_whole:Q5 P w K mg base):Q6 P w K mg base:=by
 refine⟨f,fd,?_,m,F.kp,F.binds λ_ _ _ _ _ _ us hl=>match us,hl with | [_],_=>rfl⟩
 exact je (N:=["thing"]) (O:=[]) (body:=uK) F qcg (by decide) λcdv A outer s H E B hr=>(qj (qT (qd7 (dC C_is_whole hr (qb (qc 0) qe)) (qcm (wu qlB qj0 (qc 0) qi (zg _))))))
theorem qaG:qu ["thing"] ["thing"] (qd zm):=⟨rfl,rfl,rfl,by decide +kernel,rfl,by decide +kernel,by decide +kernel⟩
theorem q7 (F:Fun K "need_count" "need_count" zm f fd) (m:mg "need_count"=some (.ref f)) (T:Txt K mg) (XTt:XT K mg RN TN) (hB:K.In base) (C_is_count:Q6 P w K mg base):Q7 P w K mg base:=by
 obtain⟨S,mS,xS⟩:=XTt.xcls hB
 obtain⟨C_NoNumber,hc_NoNumber⟩:=XTt.has (n:="NoNumber") (by decide)
 have mc_NoNumber:=XTt.mgc _ _ (XTt.cls hc_NoNumber).1
 obtain⟨bm_NoNumber,xc_NoNumber,_⟩:=xS.own _ _ hc_NoNumber
 refine⟨f,fd,?_,m,F.kp,F.binds λ_ _ _ _ _ _ us hl=>match us,hl with | [_],_=>rfl⟩
 show uq P w K mg base (CX1 P w) 3 f fd ["thing"] (spX K (clR K RN) (v7 (["thing"]:List Str).length (["thing"]:List Str).length jO))
 refine vJ (N:=["thing"]) (ps:=["thing"]) (k:=2) (O:=[]) (body:=jO) (cl:=clR K RN) F qaG ?a ?b
 case a=>decide
 intro cdv A outer s H E B hr
 have L:=vI (P:=P) (w:=w) (K:=K) (mg:=mg) (base:=base) (N:=["thing"]) (qual:="need_count") (scope:=qd zm) (f:=f) (cdv:=cdv) (A:=A) (outer:=outer) (s:=s) (H:=H) (E:=E) (c:=cfn [] [] B H (λ_=>False) (λx H'=>∀C,clR K RN x.cls=some C->E (.ref C) none H') λ_=>none) (cl:=clR K RN) rfl (λx C H' h1 h2=>h2 C h1)
 exact(qj (uu (vk (uQ (dC C_is_count hr (qb (qc 0) qe)))) (qj (qad rfl L hc_NoNumber rfl mc_NoNumber xc_NoNumber (qb qd3 qe))) zx))
theorem qdE:qu ["thing"] ["thing"] (qd ya):=⟨rfl,rfl,rfl,by decide +kernel,rfl,by decide +kernel,by decide +kernel⟩
theorem q8 (F:Fun K "is_kind" "is_kind" ya f fd) (m:mg "is_kind"=some (.ref f)) (T:Txt K mg) (XTt:XT K mg RN TN) (hB:K.In base) (C_is_count:Q6 P w K mg base):Q8 P w K mg base:=by
 refine⟨f,fd,?_,m,F.kp,F.binds λ_ _ _ _ _ _ us hl=>match us,hl with | [_],_=>rfl⟩
 exact je (N:=["thing"]) (O:=[]) (body:=vU) F qdE (by decide) λcdv A outer s H E B hr=>(qf (uu (DW.dt (qdc (vk (uQ (qcr qa2 rfl T.b_isinstance rfl T.b_tuple w9 (qc 0) ql))) (wv (zQ (qa7 hr) vC (qP yv yw rfl T.b_len qa5 (qb (qc 0) qe)) qi (zg _))))) (qj (qT qaX)) zx)
   (qf (uu (DW.dt (qdc (vk (uQ (dC C_is_count hr (qb (yR jB jx (qc 0) (gI T.c_WEIGHT)) qe)))) (wv (zQ (qa6 hr) yU (yR jB jx (qc 0) (gI T.c_WEIGHT)) qi (zg _))))) (qj (qT qaX)) zx)
   (qj (qT (qd7 (dC C_is_count hr (qb (yR jB jx (qc 0) (gI T.c_WORTH)) qe)) (qcm (qlL (wu qdS qbP (yR jB jx (qc 0) (gI T.c_MOST)) qck (zg _)) (qcm (dC C_is_count hr (qb (yR jB jx (qc 0) (gI T.c_MOST)) qe))))))))))
theorem qch:qu ["thing"] ["thing"] (qd zX):=⟨rfl,rfl,rfl,by decide +kernel,rfl,by decide +kernel,by decide +kernel⟩
theorem q9 (F:Fun K "is_store" "is_store" zX f fd) (m:mg "is_store"=some (.ref f)) (T:Txt K mg) (XTt:XT K mg RN TN) (hB:K.In base) (C_is_kind:Q8 P w K mg base):Q9 P w K mg base:=by
 refine⟨f,fd,?_,m,F.kp,F.binds λ_ _ _ _ _ _ us hl=>match us,hl with | [_],_=>rfl⟩
 exact je (N:=["thing"]) (O:=[]) (body:=uL) F qch (by decide) λcdv A outer s H E B hr=>(qf (uu (DW.dt (qdc (vk (uQ (qcr qa2 rfl T.b_isinstance rfl T.b_tuple w9 (qc 0) ql))) (wv (zQ qfw qcp (qP yv yw rfl T.b_len qa5 (qb (qc 0) qe)) (gI T.c_KINDS_AT_MOST) (zg _))))) (qj (qT qaX)) zx)
   (qj (qT (qP (qfI rfl) qeb rfl T.b_all qkn (qb (yT (fo:=none) rfl (wz (qc 0)) (cs ["thing"] ["part"] 1 [] (qd zX)) (f0 [] []) (λ_ _ _ _ _ _ _ _ _ _ _=>⟨(qA (i:=0) (nd ["part"])),wA,(dC C_is_kind hr (qb (qc 0) qe))⟩)) qe)))))
theorem qaH:qu ["thing"] ["thing"] (qd zn):=⟨rfl,rfl,rfl,by decide +kernel,rfl,by decide +kernel,by decide +kernel⟩
theorem q10 (F:Fun K "need_store" "need_store" zn f fd) (m:mg "need_store"=some (.ref f)) (T:Txt K mg) (XTt:XT K mg RN TN) (hB:K.In base) (C_is_store:Q9 P w K mg base):Q10 P w K mg base:=by
 obtain⟨S,mS,xS⟩:=XTt.xcls hB
 obtain⟨C_NoStore,hc_NoStore⟩:=XTt.has (n:="NoStore") (by decide)
 have mc_NoStore:=XTt.mgc _ _ (XTt.cls hc_NoStore).1
 obtain⟨bm_NoStore,xc_NoStore,_⟩:=xS.own _ _ hc_NoStore
 refine⟨f,fd,?_,m,F.kp,F.binds λ_ _ _ _ _ _ us hl=>match us,hl with | [_],_=>rfl⟩
 show uq P w K mg base (CX1 P w) 5 f fd ["thing"] (spX K (clR K RN) (v7 (["thing"]:List Str).length (["thing"]:List Str).length jR))
 refine vJ (N:=["thing"]) (ps:=["thing"]) (k:=4) (O:=[]) (body:=jR) (cl:=clR K RN) F qaH ?a ?b
 case a=>decide
 intro cdv A outer s H E B hr
 have L:=vI (P:=P) (w:=w) (K:=K) (mg:=mg) (base:=base) (N:=["thing"]) (qual:="need_store") (scope:=qd zn) (f:=f) (cdv:=cdv) (A:=A) (outer:=outer) (s:=s) (H:=H) (E:=E) (c:=cfn [] [] B H (λ_=>False) (λx H'=>∀C,clR K RN x.cls=some C->E (.ref C) none H') λ_=>none) (cl:=clR K RN) rfl (λx C H' h1 h2=>h2 C h1)
 exact(qj (uu (vk (uQ (dC C_is_store hr (qb (qc 0) qe)))) (qj (qad rfl L hc_NoStore rfl mc_NoStore xc_NoStore (qb qd3 qe))) zx))
theorem qaI:qu ["store","number"] ["store","number"] (qd zo):=⟨rfl,rfl,rfl,by decide +kernel,rfl,by decide +kernel,by decide +kernel⟩
theorem q11 (F:Fun K "need_asked" "need_asked" zo f fd) (m:mg "need_asked"=some (.ref f)) (T:Txt K mg) (XTt:XT K mg RN TN) (hB:K.In base) (C_need_few:Q4 P w K mg base) (C_need_count:Q7 P w K mg base) (C_need_store:Q10 P w K mg base):Q11 P w K mg base:=by
 have hcl:∀n,RN.contains n=true->(clR K RN n).isSome=true:=λn hn=>Option.isSome_iff_exists.mpr (XTt.has hn)
 refine⟨f,fd,?_,m,F.kp,F.binds λ_ _ _ _ _ _ us hl=>match us,hl with | [_,_],_=>rfl⟩
 show uq P w K mg base (CX1 P w) 6 f fd ["store","number"] (spX K (clR K RN) (v7 (["store","number"]:List Str).length (["store","number"]:List Str).length jU))
 refine vJ (N:=["store","number"]) (ps:=["store","number"]) (k:=5) (O:=[]) (body:=jU) (cl:=clR K RN) F qaI ?a ?b
 case a=>decide
 intro cdv A outer s H E B hr
 have L:=vI (P:=P) (w:=w) (K:=K) (mg:=mg) (base:=base) (N:=["store","number"]) (qual:="need_asked") (scope:=qd zo) (f:=f) (cdv:=cdv) (A:=A) (outer:=outer) (s:=s) (H:=H) (E:=E) (c:=cfn [] [] B H (λ_=>False) (λx H'=>∀C,clR K RN x.cls=some C->E (.ref C) none H') λ_=>none) (cl:=clR K RN) rfl (λx C H' h1 h2=>h2 C h1)
 exact (qf (ye (xC L.two hcl C_need_store hr (qb (qc 0) qe)))
   (qf (ye (xC L.two hcl C_need_count hr (qb (qc 1) qe)))
   (qj (ye (xC L.two hcl C_need_few hr (qb (qc 1) qe))))))
theorem qaJ:qu ["store","room"] ["store","room"] (qd qY):=⟨rfl,rfl,rfl,by decide +kernel,rfl,by decide +kernel,by decide +kernel⟩
theorem q12 (F:Fun K "all_filled" "all_filled" qY f fd) (m:mg "all_filled"=some (.ref f)) (T:Txt K mg) (XTt:XT K mg RN TN) (hB:K.In base) (C_filling_counts:Q3 P w K mg base) (C_need_asked:Q11 P w K mg base):Q12 P w K mg base:=by
 have hcl:∀n,RN.contains n=true->(clR K RN n).isSome=true:=λn hn=>Option.isSome_iff_exists.mpr (XTt.has hn)
 refine⟨f,fd,?_,m,F.kp,F.binds λ_ _ _ _ _ _ us hl=>match us,hl with | [_,_],_=>rfl⟩
 show uq P w K mg base (CX1 P w) 7 f fd ["store","room"] (spX K (clR K RN) (v7 (["store","room"]:List Str).length (["store","room"]:List Str).length jV))
 refine vJ (N:=["store","room"]) (ps:=["store","room"]) (k:=6) (O:=[]) (body:=jV) (cl:=clR K RN) F qaJ ?a ?b
 case a=>decide
 intro cdv A outer s H E B hr
 have L:=vI (P:=P) (w:=w) (K:=K) (mg:=mg) (base:=base) (N:=["store","room"]) (qual:="all_filled") (scope:=qd qY) (f:=f) (cdv:=cdv) (A:=A) (outer:=outer) (s:=s) (H:=H) (E:=E) (c:=cfn [] [] B H (λ_=>False) (λx H'=>∀C,clR K RN x.cls=some C->E (.ref C) none H') λ_=>none) (cl:=clR K RN) rfl (λx C H' h1 h2=>h2 C h1)
 exact (qf (ye (xC L.two hcl C_need_asked hr (qb (qc 0) (qb (qc 1) qe))))
   (qj (qT (yT (fo:=none) rfl (qfY rfl T.b_enumerate (qb (dC C_filling_counts hr (qb (qc 0) (qb (qc 1) qe))) qe)) (cs ["store","room"] ["size","many"] 2 [] (qd qY)) (f0 [] []) (λ_ _ _ _ _ _ _ _ _ _ _=>⟨(vm (n:=2) rfl (qN (qA (i:=0) (nd ["size","many"])) (qN (qA (i:=1) (nd ["size","many"])) yS))),(qee (zQ qfw qcp (qc 1) qi (zg _))),(qc 0)⟩)))))
theorem qaK:qu ["store","room"] ["store","room"] (qd zp):=⟨rfl,rfl,rfl,by decide +kernel,rfl,by decide +kernel,by decide +kernel⟩
theorem q13 (F:Fun K "fills_many" "fills_many" zp f fd) (m:mg "fills_many"=some (.ref f)) (T:Txt K mg) (XTt:XT K mg RN TN) (hB:K.In base) (C_filling_counts:Q3 P w K mg base) (C_need_asked:Q11 P w K mg base):Q13 P w K mg base:=by
 have hcl:∀n,RN.contains n=true->(clR K RN n).isSome=true:=λn hn=>Option.isSome_iff_exists.mpr (XTt.has hn)
 refine⟨f,fd,?_,m,F.kp,F.binds λ_ _ _ _ _ _ us hl=>match us,hl with | [_,_],_=>rfl⟩
 show uq P w K mg base (CX1 P w) 7 f fd ["store","room"] (spX K (clR K RN) (v7 (["store","room"]:List Str).length (["store","room"]:List Str).length jW))
 refine vJ (N:=["store","room"]) (ps:=["store","room"]) (k:=6) (O:=[]) (body:=jW) (cl:=clR K RN) F qaK ?a ?b
 case a=>decide
 intro cdv A outer s H E B hr
 have L:=vI (P:=P) (w:=w) (K:=K) (mg:=mg) (base:=base) (N:=["store","room"]) (qual:="fills_many") (scope:=qd zp) (f:=f) (cdv:=cdv) (A:=A) (outer:=outer) (s:=s) (H:=H) (E:=E) (c:=cfn [] [] B H (λ_=>False) (λx H'=>∀C,clR K RN x.cls=some C->E (.ref C) none H') λ_=>none) (cl:=clR K RN) rfl (λx C H' h1 h2=>h2 C h1)
 exact (qf (ye (xC L.two hcl C_need_asked hr (qb (qc 0) (qb (qc 1) qe))))
   (qj (qT (yR jB jx (dC C_filling_counts hr (qb (qc 0) (qb (qc 1) qe))) (qc 1)))))
theorem qff:qu ["store","room"] ["store","room"] (qd yi):=⟨rfl,rfl,rfl,by decide +kernel,rfl,by decide +kernel,by decide +kernel⟩
theorem q14 (F:Fun K "filled" "filled" yi f fd) (m:mg "filled"=some (.ref f)) (T:Txt K mg) (XTt:XT K mg RN TN) (hB:K.In base) (C_filling_counts:Q3 P w K mg base) (C_need_asked:Q11 P w K mg base):Q14 P w K mg base:=by
 have hcl:∀n,RN.contains n=true->(clR K RN n).isSome=true:=λn hn=>Option.isSome_iff_exists.mpr (XTt.has hn)
 refine⟨f,fd,?_,m,F.kp,F.binds λ_ _ _ _ _ _ us hl=>match us,hl with | [_,_],_=>rfl⟩
 show uq P w K mg base (CX1 P w) 7 f fd ["store","room"] (spX K (clR K RN) (v7 (["store","room"]:List Str).length (["store","room"]:List Str).length va))
 refine vJ (N:=["store","room"]) (ps:=["store","room"]) (k:=6) (O:=[]) (body:=va) (cl:=clR K RN) F qff ?a ?b
 case a=>decide
 intro cdv A outer s H E B hr
 have L:=vI (P:=P) (w:=w) (K:=K) (mg:=mg) (base:=base) (N:=["store","room"]) (qual:="filled") (scope:=qd yi) (f:=f) (cdv:=cdv) (A:=A) (outer:=outer) (s:=s) (H:=H) (E:=E) (c:=cfn [] [] B H (λ_=>False) (λx H'=>∀C,clR K RN x.cls=some C->E (.ref C) none H') λ_=>none) (cl:=clR K RN) rfl (λx C H' h1 h2=>h2 C h1)
 exact (qf (ye (xC L.two hcl C_need_asked hr (qb (qc 0) (qb (qc 1) qe))))
   (qj (qT (wu qfw qcp (yR jB jx (dC C_filling_counts hr (qb (qc 0) (qb (qc 1) qe))) (qc 1)) qi (zg _)))))
theorem jK:qu ["e","found"] ["e"] (qd qR):=⟨rfl,rfl,rfl,by decide +kernel,rfl,by decide +kernel,by decide +kernel⟩
theorem q15 (F:Fun K "_law_classes" "_law_classes" qR f fd) (m:mg "_law_classes"=some (.ref f)) (T:Txt K mg) (XTt:XT K mg RN TN) (hB:K.In base):Q15 P w K mg base:=by
 have rn0:RN.contains "TooMany"=true:=by decide
 refine⟨f,fd,?_,m,F.kp,F.binds λ_ _ _ _ _ _ us hl=>match us,hl with | [_],_=>rfl⟩
 show qae P w K mg base CX0 1 f fd ["e"] (spD K (dfn (["e","found"]:List Str).length (["e"]:List Str).length j7))
 refine qcG (N:=["e","found"]) (ps:=["e"]) (k:=0) (O:=[]) (body:=j7) F jK ?a ?b
 case a=>decide
 intro cdv A outer s H E B hr al
 have hal:∀Z σ H',Rep K (cfn [] [] B H (λ_=>False) (λ_ _=>False) λ_=>none) Z σ H'->AloneA (A.deeper (ybd "_law_classes" (qd qR) s.heap.objs.size f cdv)) H':=Sk.AloneA.rep al (λ_ z=>z)
 exact (qf (ja (i:=1) jK.nd (yo (qb (yL (RN:=RN) (m:="NoStore") (mgl:=mg) XTt (by decide) (by decide) rfl T.b_isinstance rfl (qc 0) (XTt.ask rn0 (by decide)) ql) (qb (yL (RN:=RN) (m:="NoNumber") (mgl:=mg) XTt (by decide) (by decide) rfl T.b_isinstance rfl (qc 0) (XTt.ask rn0 (by decide)) ql) (qb (yL (RN:=RN) (m:="NoLoad") (mgl:=mg) XTt (by decide) (by decide) rfl T.b_isinstance rfl (qc 0) (XTt.ask rn0 (by decide)) ql) (qb (yL (RN:=RN) (m:="TooMany") (mgl:=mg) XTt (by decide) (by decide) rfl T.b_isinstance rfl (qc 0) (XTt.ask rn0 (by decide)) ql) qe))))))
   (qf (ja (i:=1) jK.nd (qC zk zl (qc 1) (yo (qb (yL (RN:=RN) (m:="NotSingle") (mgl:=mg) XTt (by decide) (by decide) rfl T.b_isinstance rfl (qc 0) (XTt.ask rn0 (by decide)) ql) (qb (yL (RN:=RN) (m:="NotEndless") (mgl:=mg) XTt (by decide) (by decide) rfl T.b_isinstance rfl (qc 0) (XTt.ask rn0 (by decide)) ql) (qb (yL (RN:=RN) (m:="NoKind") (mgl:=mg) XTt (by decide) (by decide) rfl T.b_isinstance rfl (qc 0) (XTt.ask rn0 (by decide)) ql) qe))))))
   (qj (qT (qC zk zl (qc 1) (yo (qb (yL (RN:=RN) (m:="NoLine") (mgl:=mg) XTt (by decide) (by decide) rfl T.b_isinstance rfl (qc 0) (XTt.ask rn0 (by decide)) ql) (qb (yL (RN:=RN) (m:="NoText") (mgl:=mg) XTt (by decide) (by decide) rfl T.b_isinstance rfl (qc 0) (XTt.ask rn0 (by decide)) ql) qe))))))))
theorem qbD:qu ["e","place"] ["e","place"] (qd zq):=⟨rfl,rfl,rfl,by decide +kernel,rfl,by decide +kernel,by decide +kernel⟩
theorem q16 (F:Fun K "_law_only" "_law_only" zq f fd) (m:mg "_law_only"=some (.ref f)) (T:Txt K mg) (XTt:XT K mg RN TN) (hB:K.In base) (C__law_classes:Q15 P w K mg base):Q16 P w K mg base:=by
 have rn0:RN.contains "TooMany"=true:=by decide
 refine⟨f,fd,?_,m,F.kp,F.binds λ_ _ _ _ _ _ us hl=>match us,hl with | [_,_],_=>rfl⟩
 show qae P w K mg base CX0 2 f fd ["e","place"] (spD K (dfn (["e","place"]:List Str).length (["e","place"]:List Str).length yZ))
 refine qcG (N:=["e","place"]) (ps:=["e","place"]) (k:=1) (O:=[]) (body:=yZ) F qbD ?a ?b
 case a=>decide
 intro cdv A outer s H E B hr al
 have hal:∀Z σ H',Rep K (cfn [] [] B H (λ_=>False) (λ_ _=>False) λ_=>none) Z σ H'->AloneA (A.deeper (ybd "_law_only" (qd zq) s.heap.objs.size f cdv)) H':=Sk.AloneA.rep al (λ_ z=>z)
 exact (qf (uu (DW.dt (qdc (vk (uQ (yL (RN:=RN) (m:="SackError") (mgl:=mg) XTt (by decide) (by decide) rfl T.b_isinstance rfl (qc 0) (XTt.ask rn0 (by decide)) ql))) (wv (vk (uQ (qio XTt rfl T.b_isinstance rfl T.b_ValueError (qc 0) ql)))))) (qj (qT qaX)) zx)
   (qj (qT (wu (qez hr) yU (lC hal C__law_classes hr (qb (qc 0) qe)) (qcL (fo:=none) hal (wE rfl T.b_range (qb qi qe)) (cs ["e","place"] ["k","place"] 1 [1] (qd zq)) (f0 [1] []) rfl (λ_ _ _ _ _ _ _ _ _ _ _ hal=>⟨(qA (i:=0) (nd ["k","place"])),wA,(wu (qez hr) yU (qc 0) (qc 1) (zg _))⟩)) (zg _)))))
theorem uV:qu ["kind","store","room","e"] ["kind","store","room"] (qd zE):=⟨rfl,rfl,rfl,by decide +kernel,rfl,by decide +kernel,by decide +kernel⟩
theorem q17 (F:Fun K "_law_told" "_law_told" zE f fd) (m:mg "_law_told"=some (.ref f)) (T:Txt K mg) (XTt:XT K mg RN TN) (hB:K.In base) (C_all_filled:Q12 P w K mg base) (C_fills_many:Q13 P w K mg base) (C_filled:Q14 P w K mg base) (C__law_only:Q16 P w K mg base):Q17 P w K mg base:=by
 have hcl:∀n,RN.contains n=true->(clR K RN n).isSome=true:=λn hn=>Option.isSome_iff_exists.mpr (XTt.has hn)
 obtain⟨S,mS,xS⟩:=XTt.xcls hB
 refine⟨f,fd,?_,m,F.kp,F.binds λ_ _ _ _ _ _ us hl=>match us,hl with | [_,_,_],_=>rfl⟩
 exact je (N:=["kind","store","room","e"]) (O:=[]) (body:=ym) F uV (by decide) λcdv A outer s H E B hr=>(qj (qim (i:=3) uV.nd rfl rfl xS rfl mS (λee H6 al=>have hal:=ql0 (K:=K) al;have hr:=qiw (e:=ee) hr;(qcL (fo:=none) hal (wE rfl T.b_range (qb qi qe)) (cs ["kind","store","room","e"] ["place","e"] 1 [3] (qd zE)) (f0 [3] []) rfl (λ_ _ _ _ _ _ _ _ _ _ _ hal=>⟨(qA (i:=0) (nd ["place","e"])),(qee (uQ (lC hal C__law_only hr (qb (qc 1) (qb (qc 0) qe))))),(qc 0)⟩))) (λxe pn E2 cE L=>(qf (uu (zQ (qa6 hr) yU (qc 0) qi (zg _)) (qj (qT (xC L hcl C_filled hr (qb (qc 1) (qb (qc 2) qe))))) zx)
   (qj (qT (qjY (zQ (qa6 hr) yU (qc 0) qi (zg _)) (xC L hcl C_all_filled hr (qb (qc 1) (qb (qc 2) qe))) (xC L hcl C_fills_many hr (qb (qc 1) (qb (qc 2) qe))))))))))
theorem qy:qu ["store","room","found","heft","gain","most","longer","load","heavy","dear","often"] ["store","room"] (qd zF):=⟨rfl,rfl,rfl,by decide +kernel,rfl,by decide +kernel,by decide +kernel⟩
theorem q18 (F:Fun K "_law_loads" "_law_loads" zF f fd) (m:mg "_law_loads"=some (.ref f)) (T:Txt K mg) (XTt:XT K mg RN TN) (hB:K.In base):Q18 P w K mg base:=by
 refine⟨f,fd,?_,m,F.kp,F.binds λ_ _ _ _ _ _ us hl=>match us,hl with | [_,_],_=>rfl⟩
 exact je (N:=["store","room","found","heft","gain","most","longer","load","heavy","dear","often"]) (O:=[6]) (body:=yz) F qy (by decide) λcdv A outer s H E B hr=>(qf (ja (i:=2) qy.nd (yo (qb (uP (qb (uP qe) (qb qi (qb qi qe)))) qe)))
   (qf (vv ybw rfl (wz (qc 0)) (vm (n:=3) rfl (qN (qA (i:=3) qy.nd) (qN (qA (i:=4) qy.nd) (qN (qA (i:=5) qy.nd) yS)))) (qf (w5 (i:=6) qy.nd (qgR qe))
   (qf (vv ybw rfl (wz (qc 2)) (vm (n:=3) rfl (qN (qA (i:=7) qy.nd) (qN (qA (i:=8) qy.nd) (qN (qA (i:=9) qy.nd) yS)))) (qf (ja (i:=10) qy.nd qi)
   (qj (qfQ ybw (DW.dt (qjW (zQ qjI qgL (qC zk zl (qc 8) (qC jf zC (qc 10) (qc 3))) (qc 1) (zg _)) (qhL (DW.dt (qdc (zQ qdS qbP (qc 5) qck (zg _)) (wv (zQ qjI qgL (qc 10) (qc 5) (zg _)))))))) (qf (ye (vy (i:=6) (uP (qb (qC zk zl (qc 7) (uP (qb (qc 10) qe))) (qb (qC zk zl (qc 8) (qC jf zC (qc 10) (qc 3))) (qb (qC zk zl (qc 9) (qC jf zC (qc 10) (qc 4))) qe))))))
   (qj (ja (i:=10) qy.nd (qC zk zl (qc 10) qi))))))))
   (qj (qix (i:=2) (j:=6) qy.nd)))))
   (qj (qT (qc 2)))))
theorem yA:qu ["box","many","left","digit"] ["box","many"] (qd zY):=⟨rfl,rfl,rfl,by decide +kernel,rfl,by decide +kernel,by decide +kernel⟩
theorem q19 (F:Fun K "_law_take" "_law_take" zY f fd) (m:mg "_law_take"=some (.ref f)) (T:Txt K mg) (XTt:XT K mg RN TN) (hB:K.In base):Q19 P w K mg base:=by
 refine⟨f,fd,?_,m,F.kp,F.binds λ_ _ _ _ _ _ us hl=>match us,hl with | [_,_],_=>rfl⟩
 show uq P w K mg base CX0 1 f fd ["box","many"] (qgS K (w6 (["box","many","left","digit"]:List Str).length (["box","many"]:List Str).length yn))
 refine qkd (N:=["box","many","left","digit"]) (ps:=["box","many"]) (k:=0) (O:=[0]) (body:=yn) F yA ?a ?a0 ?b
 case a=>decide
 case a0=>decide
 intro cdv A outer s H E B Io S hr
 exact (qf (qgJ (qP qbJ qa1 rfl T.b_divmod qek (qb (qkc (i:=0) qi) (qb (qc 1) qe))) (vm (n:=2) rfl (qN (qA (i:=2) yA.nd) (qN (qA (i:=3) yA.nd) yS))))
   (qf (qhX (i:=0) (qc 2) qi)
   (qj (qT (qc 3)))))
theorem jp:qu ["box","most","found","k","heft","gain"] ["box","most"] (qd zG):=⟨rfl,rfl,rfl,by decide +kernel,rfl,by decide +kernel,by decide +kernel⟩
theorem q20 (F:Fun K "_law_store" "_law_store" zG f fd) (m:mg "_law_store"=some (.ref f)) (T:Txt K mg) (XTt:XT K mg RN TN) (hB:K.In base) (C__law_take:Q19 P w K mg base):Q20 P w K mg base:=by
 refine⟨f,fd,?_,m,F.kp,F.binds λ_ _ _ _ _ _ us hl=>match us,hl with | [_,_],_=>rfl⟩
 show uq P w K mg base CX0 2 f fd ["box","most"] (qgS K (w6 (["box","most","found","k","heft","gain"]:List Str).length (["box","most"]:List Str).length jY))
 refine qkd (N:=["box","most","found","k","heft","gain"]) (ps:=["box","most"]) (k:=1) (O:=[0,2]) (body:=jY) F jp ?a ?a0 ?b
 case a=>decide
 case a0=>decide
 intro cdv A outer s H E B Io S hr
 exact (qf (w5 (i:=2) jp.nd (qgR qe))
   (qf (vv ybw rfl (jA rfl T.b_range (qb (iC (i:=0) C__law_take hr (qb (qC zk zl (qc 1) qi) qe)) qe)) (qA (i:=3) jp.nd) (qf (qkl (i:=4) (j:=5) jp.nd (qb (qC zk zl qi (iC (i:=0) C__law_take hr (qb qi qe))) (qb (iC (i:=0) C__law_take hr (qb qi qe)) qe)) rfl)
   (qj (ye (vy (i:=2) (uP (qb (qc 4) (qb (qc 5) (qb (yR jB jx (yo (qb qck (qb qi (qb qi (qb qi (qb qi (qb qi (qb qi qe)))))))) (iC (i:=0) C__law_take hr (qb qi qe))) qe)))))))))
   (qj (qT (qhZ (i:=2) rfl T.b_tuple w9)))))
theorem zv:qu ["script","k","here","number","j","part"] ["script","k"] (qd jw):=⟨rfl,rfl,rfl,by decide +kernel,rfl,by decide +kernel,by decide +kernel⟩
theorem q21 (F:Fun K "_law_box" "_law_box" jw f fd) (m:mg "_law_box"=some (.ref f)) (T:Txt K mg) (XTt:XT K mg RN TN) (hB:K.In base):Q21 P w K mg base:=by
 refine⟨f,fd,?_,m,F.kp,F.binds λ_ _ _ _ _ _ us hl=>match us,hl with | [_,_],_=>rfl⟩
 exact je (N:=["script","k","here","number","j","part"]) (O:=[]) (body:=yH) F zv (by decide) λcdv A outer s H E B hr=>(qf (ja (i:=2) zv.nd (qC zk zl (qC jf zC qi (qc 1)) qi))
   (qf (uu (zQ qlA qjZ (qc 1) (qP yv yw rfl T.b_len qa5 (qb (qc 0) qe)) (zg _)) (qj (ja (i:=2) zv.nd (yR jB jx (qc 0) (qc 1)))) zx)
   (qf (uu (zQ (qa6 hr) yU (qC qaO vo (qc 2) qi) qi (zg _)) (qj (qT (yo (qb (qC qdO qco (qc 2) qi) qe)))) zx)
   (qf (ja (i:=3) zv.nd qi)
   (qf (vv ybw rfl (jA rfl T.b_range (qb qi qe)) (qA (i:=4) zv.nd) (qf (ja (i:=5) zv.nd (qC qaO vo (qC zk zl (qC zk zl (qC jf zC (qC qaO vo (qc 2) qi) qi) (qC jf zC qi (qc 4))) qi) qi))
   (qf (ja (i:=5) zv.nd (qC qaO vo (qC jf zC (qc 5) (qc 5)) qi))
   (qj (ja (i:=3) zv.nd (qC zk zl (qC jf zC (qc 3) qi) (qC qaO vo (qC jf zC (qc 5) (qC zk zl (qc 5) qi)) qi)))))))
   (qj (qT (yo (qb (qc 3) qe)))))))))
theorem yQ:qu ["script","k","box","store","room","some","rooms","many","lap","found"] ["script"] (qd uY):=⟨rfl,rfl,rfl,by decide +kernel,rfl,by decide +kernel,by decide +kernel⟩
theorem qla (F:Fun K "law" "law" uY f fd) (T:Txt K mg) (XTt:XT K mg RN TN) (hB:K.In base) (C_all_filled:Q12 P w K mg base) (C__law_told:Q17 P w K mg base) (C__law_loads:Q18 P w K mg base) (C__law_take:Q19 P w K mg base) (C__law_store:Q20 P w K mg base) (C__law_box:Q21 P w K mg base):uq P w K mg base CX0 9 f fd ["script"] (spD K qca):=by
 exact je (N:=["script","k","box","store","room","some","rooms","many","lap","found"]) (O:=[2,9]) (body:=qiV) F yQ (by decide) λcdv A outer s H E B hr=>(qf (uu (zQ (qa7 hr) vC (yT (fo:=none) rfl (jA rfl T.b_range (qb qi qe)) (cs ["script","k","box","store","room","some","rooms","many","lap","found"] ["kind"] 1 [] (qd uY)) (f0 [] [2,9]) (λ_ _ _ _ _ _ _ _ _ _ _=>⟨(qA (i:=0) (nd ["kind"])),wA,(dC C__law_told hr (qb (qc 0) (qb (uP (qb (uP (qb qi (qb qi (qb qi qe)))) qe)) (qb qi qe))))⟩)) (qC jf zC (yo (qb (yo (qb qi qe)) qe)) qi) (zg _)) (qj (qT qaX)) zx)
   (qf (vv ybw rfl (jA rfl T.b_range (qb (qP (qdT rfl) qea rfl T.b_max qkm (qb qi (qb (qP (qaQ rfl) qa0 rfl T.b_min qgU (qb (qP yv yw rfl T.b_len qa5 (qb (qc 0) qe)) (qb qi qe))) qe))) qe)) (qA (i:=1) yQ.nd) (qf (w5 (i:=2) yQ.nd (nC C__law_box hr (qb (qc 0) (qb (qc 1) qe))))
   (qf (qgJ (uP (qb (iC (i:=2) C__law_store hr (qb qi qe)) (qb (iC (i:=2) C__law_take hr (qb (yR jB jx (yo (qb qi (qb qi (qb qi qe)))) (qc 1)) qe)) qe))) (vm (n:=2) rfl (qN (qA (i:=3) yQ.nd) (qN (qA (i:=4) yQ.nd) yS))))
   (qf (ja (i:=5) yQ.nd (dC C__law_loads hr (qb (qc 3) (qb (qc 4) qe))))
   (qf (ja (i:=6) yQ.nd (qiP (yT (fo:=none) rfl (wz (qc 5)) (cs ["script","k","box","store","room","some","rooms","many","lap","found"] ["load","heavy","dear"] 3 [] (qd uY)) (f0 [] [2,9]) (λ_ _ _ _ _ _ _ _ _ _ _=>⟨(vm (n:=3) rfl (qN (qA (i:=0) (nd ["load","heavy","dear"])) (qN (qA (i:=1) (nd ["load","heavy","dear"])) (qN (qA (i:=2) (nd ["load","heavy","dear"])) yS)))),wA,(qc 1)⟩)) rfl rfl T.b_sorted rfl T.b_set))
   (qf (ja (i:=7) yQ.nd (qP yv yw rfl T.b_len qa5 (qb (yT (fo:=none) rfl (wz (qc 5)) (cs ["script","k","box","store","room","some","rooms","many","lap","found"] ["load","heavy","dear","room"] 3 [4] (qd uY)) (f0 [4] [2,9]) (λ_ _ _ _ _ _ _ _ _ _ _=>⟨(vm (n:=3) rfl (qN (qA (i:=0) (nd ["load","heavy","dear","room"])) (qN (qA (i:=1) (nd ["load","heavy","dear","room"])) (qN (qA (i:=2) (nd ["load","heavy","dear","room"])) yS)))),(qee (zQ (qa6 hr) yU (qc 1) (qc 3) (zg _))),qi⟩)) qe)))
   (qf (uu (DW.dt (qdc (zQ (qa7 hr) vC (qP (js hr) jt rfl T.b_repr uA (qb (dC C__law_told hr (qb qi (qb (qc 3) (qb (qc 4) qe)))) qe)) (qP (js hr) jt rfl T.b_repr uA (qb (wu (qkB hr) qiu (qc 4) (qc 6) rfl) qe)) (zg _)) (wv (zQ (qa7 hr) vC (qP (js hr) jt rfl T.b_repr uA (qb (dC C__law_told hr (qb qi (qb (qc 3) (qb (qc 4) qe)))) qe)) (qP (js hr) jt rfl T.b_repr uA (qb (qc 7) qe)) (zg _))))) (qj (qT qaX)) zx)
   (qj (vv ybw rfl (jA rfl T.b_range (qb qi qe)) (qA (i:=8) yQ.nd) (qf (w5 (i:=9) yQ.nd (nCP C_all_filled hr (qb (qc 3) (qb (qc 4) qe))))
   (qf (uu (zQ (qa7 hr) vC (qir (i:=9) (qP (js hr) jt rfl T.b_repr uA (qb (qc 9) qe))) (qP (js hr) jt rfl T.b_repr uA (qb (qc 6) qe)) (zg _)) (qj (qT qaX)) zx)
   (qj (ye (vy (i:=9) qi))))))))))))))
   (qj (qT qaX))))
end
theorem all_mk {l:yek} {w:World} {K:yah} {h:Heap} {mg:Str->Option Value} {fa f0 f1 f2 f3 f4 f5 f6 f7 f8 f9 f10 f11 f12 f13 f14 f15 f16 f17 f18 f19 f20 f21 f22:Addr} (X:K.In h) (G:h.Ns yai mg) (hfa:mg "law"=some (.ref fa))
  {od0 an0 od1 an1 od2 an2 od3 an3 od4 an4 od5 an5 od6 an6 od7 an7 od8 an8 od9 an9 od10 an10 od11 an11 od12 an12 od13 an13 od14 an14 od15 an15 od16 an16 od17 an17 od18 an18 od19 an19 od20 an20 od21 an21 od22 an22:Option Addr} {sl0 sl1 sl2 sl3 sl4 sl5 sl6 sl7 sl8 sl9 sl10 sl11 sl12 sl13 sl14 sl15 sl16 sl17 sl18 sl19 sl20 sl21 sl22:Array (Option Value)} {oc0 kV0 dc0 pm0 cd0 ct0 oc1 kV1 dc1 pm1 cd1 ct1 oc2 kV2 dc2 pm2 cd2 ct2 oc3 kV3 dc3 pm3 cd3 ct3 oc4 kV4 dc4 pm4 cd4 ct4 oc5 kV5 dc5 pm5 cd5 ct5 oc6 kV6 dc6 pm6 cd6 ct6 oc7 kV7 dc7 pm7 cd7 ct7 oc8 kV8 dc8 pm8 cd8 ct8 oc9 kV9 dc9 pm9 cd9 ct9 oc10 kV10 dc10 pm10 cd10 ct10 oc11 kV11 dc11 pm11 cd11 ct11 oc12 kV12 dc12 pm12 cd12 ct12 oc13 kV13 dc13 pm13 cd13 ct13 oc14 kV14 dc14 pm14 cd14 ct14 oc15 kV15 dc15 pm15 cd15 ct15 oc16 kV16 dc16 pm16 cd16 ct16 oc17 kV17 dc17 pm17 cd17 ct17 oc18 kV18 dc18 pm18 cd18 ct18 oc19 kV19 dc19 pm19 cd19 ct19 oc20 kV20 dc20 pm20 cd20 ct20 oc21 kV21 dc21 pm21 cd21 ct21 oc22 kV22 dc22 pm22 cd22 ct22:Value} {tk_ASKED_AT_MOST:Tok} {tk_KINDS_AT_MOST:Tok} {tk_MOST:Tok} {tk_WEIGHT:Tok} {tk_WORTH:Tok}
  (a0:yao K yai "most_within"=some (some (.ref f0))) (l0:K.lookup f0=some ⟨oc0,od0,.func (yaw "most_within" "most_within" (qB zy) (qt zy) (qd zy) .none kV0 dc0 pm0 an0 cd0 ct0),sl0⟩) (c0:yax K cd0 "most_within"=true) (k0:yaq K (.ref f0)=true)
  (a1:yao K yai "room_left"=some (some (.ref f1))) (l1:K.lookup f1=some ⟨oc1,od1,.func (yaw "room_left" "room_left" (qB zV) (qt zV) (qd zV) .none kV1 dc1 pm1 an1 cd1 ct1),sl1⟩) (c1:yax K cd1 "room_left"=true) (k1:yaq K (.ref f1)=true)
  (a2:yao K yai "many_with"=some (some (.ref f2))) (l2:K.lookup f2=some ⟨oc2,od2,.func (yaw "many_with" "many_with" (qB zD) (qt zD) (qd zD) .none kV2 dc2 pm2 an2 cd2 ct2),sl2⟩) (c2:yax K cd2 "many_with"=true) (k2:yaq K (.ref f2)=true)
  (a3:yao K yai "filling_counts"=some (some (.ref f3))) (l3:K.lookup f3=some ⟨oc3,od3,.func (yaw "filling_counts" "filling_counts" (qB qH) (qt qH) (qd qH) .none kV3 dc3 pm3 an3 cd3 ct3),sl3⟩) (c3:yax K cd3 "filling_counts"=true) (k3:yaq K (.ref f3)=true)
  (a4:yao K yai "need_few"=some (some (.ref f4))) (l4:K.lookup f4=some ⟨oc4,od4,.func (yaw "need_few" "need_few" (qB zW) (qt zW) (qd zW) .none kV4 dc4 pm4 an4 cd4 ct4),sl4⟩) (c4:yax K cd4 "need_few"=true) (k4:yaq K (.ref f4)=true)
  (a5:yao K yai "is_whole"=some (some (.ref f5))) (l5:K.lookup f5=some ⟨oc5,od5,.func (yaw "is_whole" "is_whole" (qB ju) (qt ju) (qd ju) .none kV5 dc5 pm5 an5 cd5 ct5),sl5⟩) (c5:yax K cd5 "is_whole"=true) (k5:yaq K (.ref f5)=true)
  (a6:yao K yai "is_count"=some (some (.ref f6))) (l6:K.lookup f6=some ⟨oc6,od6,.func (yaw "is_count" "is_count" (qB jv) (qt jv) (qd jv) .none kV6 dc6 pm6 an6 cd6 ct6),sl6⟩) (c6:yax K cd6 "is_count"=true) (k6:yaq K (.ref f6)=true)
  (a7:yao K yai "need_count"=some (some (.ref f7))) (l7:K.lookup f7=some ⟨oc7,od7,.func (yaw "need_count" "need_count" (qB zm) (qt zm) (qd zm) .none kV7 dc7 pm7 an7 cd7 ct7),sl7⟩) (c7:yax K cd7 "need_count"=true) (k7:yaq K (.ref f7)=true)
  (a8:yao K yai "is_kind"=some (some (.ref f8))) (l8:K.lookup f8=some ⟨oc8,od8,.func (yaw "is_kind" "is_kind" (qB ya) (qt ya) (qd ya) .none kV8 dc8 pm8 an8 cd8 ct8),sl8⟩) (c8:yax K cd8 "is_kind"=true) (k8:yaq K (.ref f8)=true)
  (a9:yao K yai "is_store"=some (some (.ref f9))) (l9:K.lookup f9=some ⟨oc9,od9,.func (yaw "is_store" "is_store" (qB zX) (qt zX) (qd zX) .none kV9 dc9 pm9 an9 cd9 ct9),sl9⟩) (c9:yax K cd9 "is_store"=true) (k9:yaq K (.ref f9)=true)
  (a10:yao K yai "need_store"=some (some (.ref f10))) (l10:K.lookup f10=some ⟨oc10,od10,.func (yaw "need_store" "need_store" (qB zn) (qt zn) (qd zn) .none kV10 dc10 pm10 an10 cd10 ct10),sl10⟩) (c10:yax K cd10 "need_store"=true) (k10:yaq K (.ref f10)=true)
  (a11:yao K yai "need_asked"=some (some (.ref f11))) (l11:K.lookup f11=some ⟨oc11,od11,.func (yaw "need_asked" "need_asked" (qB zo) (qt zo) (qd zo) .none kV11 dc11 pm11 an11 cd11 ct11),sl11⟩) (c11:yax K cd11 "need_asked"=true) (k11:yaq K (.ref f11)=true)
  (a12:yao K yai "all_filled"=some (some (.ref f12))) (l12:K.lookup f12=some ⟨oc12,od12,.func (yaw "all_filled" "all_filled" (qB qY) (qt qY) (qd qY) .none kV12 dc12 pm12 an12 cd12 ct12),sl12⟩) (c12:yax K cd12 "all_filled"=true) (k12:yaq K (.ref f12)=true)
  (a13:yao K yai "fills_many"=some (some (.ref f13))) (l13:K.lookup f13=some ⟨oc13,od13,.func (yaw "fills_many" "fills_many" (qB zp) (qt zp) (qd zp) .none kV13 dc13 pm13 an13 cd13 ct13),sl13⟩) (c13:yax K cd13 "fills_many"=true) (k13:yaq K (.ref f13)=true)
  (a14:yao K yai "filled"=some (some (.ref f14))) (l14:K.lookup f14=some ⟨oc14,od14,.func (yaw "filled" "filled" (qB yi) (qt yi) (qd yi) .none kV14 dc14 pm14 an14 cd14 ct14),sl14⟩) (c14:yax K cd14 "filled"=true) (k14:yaq K (.ref f14)=true)
  (a15:yao K yai "_law_classes"=some (some (.ref f15))) (l15:K.lookup f15=some ⟨oc15,od15,.func (yaw "_law_classes" "_law_classes" (qB qR) (qt qR) (qd qR) .none kV15 dc15 pm15 an15 cd15 ct15),sl15⟩) (c15:yax K cd15 "_law_classes"=true) (k15:yaq K (.ref f15)=true)
  (a16:yao K yai "_law_only"=some (some (.ref f16))) (l16:K.lookup f16=some ⟨oc16,od16,.func (yaw "_law_only" "_law_only" (qB zq) (qt zq) (qd zq) .none kV16 dc16 pm16 an16 cd16 ct16),sl16⟩) (c16:yax K cd16 "_law_only"=true) (k16:yaq K (.ref f16)=true)
  (a17:yao K yai "_law_told"=some (some (.ref f17))) (l17:K.lookup f17=some ⟨oc17,od17,.func (yaw "_law_told" "_law_told" (qB zE) (qt zE) (qd zE) .none kV17 dc17 pm17 an17 cd17 ct17),sl17⟩) (c17:yax K cd17 "_law_told"=true) (k17:yaq K (.ref f17)=true)
  (a18:yao K yai "_law_loads"=some (some (.ref f18))) (l18:K.lookup f18=some ⟨oc18,od18,.func (yaw "_law_loads" "_law_loads" (qB zF) (qt zF) (qd zF) .none kV18 dc18 pm18 an18 cd18 ct18),sl18⟩) (c18:yax K cd18 "_law_loads"=true) (k18:yaq K (.ref f18)=true)
  (a19:yao K yai "_law_take"=some (some (.ref f19))) (l19:K.lookup f19=some ⟨oc19,od19,.func (yaw "_law_take" "_law_take" (qB zY) (qt zY) (qd zY) .none kV19 dc19 pm19 an19 cd19 ct19),sl19⟩) (c19:yax K cd19 "_law_take"=true) (k19:yaq K (.ref f19)=true)
  (a20:yao K yai "_law_store"=some (some (.ref f20))) (l20:K.lookup f20=some ⟨oc20,od20,.func (yaw "_law_store" "_law_store" (qB zG) (qt zG) (qd zG) .none kV20 dc20 pm20 an20 cd20 ct20),sl20⟩) (c20:yax K cd20 "_law_store"=true) (k20:yaq K (.ref f20)=true)
  (a21:yao K yai "_law_box"=some (some (.ref f21))) (l21:K.lookup f21=some ⟨oc21,od21,.func (yaw "_law_box" "_law_box" (qB jw) (qt jw) (qd jw) .none kV21 dc21 pm21 an21 cd21 ct21),sl21⟩) (c21:yax K cd21 "_law_box"=true) (k21:yaq K (.ref f21)=true)
  (a22:yao K yai "law"=some (some (.ref f22))) (l22:K.lookup f22=some ⟨oc22,od22,.func (yaw "law" "law" (qB uY) (qt uY) (qd uY) .none kV22 dc22 pm22 an22 cd22 ct22),sl22⟩) (c22:yax K cd22 "law"=true) (k22:yaq K (.ref f22)=true)
  (zb_ValueError:yao K yai "ValueError"=some none)
  (zb_all:yao K yai "all"=some none)
  (zb_bool:yao K yai "bool"=some none)
  (zb_divmod:yao K yai "divmod"=some none)
  (zb_enumerate:yao K yai "enumerate"=some none)
  (zb_int:yao K yai "int"=some none)
  (zb_isinstance:yao K yai "isinstance"=some none)
  (zb_len:yao K yai "len"=some none)
  (zb_max:yao K yai "max"=some none)
  (zb_min:yao K yai "min"=some none)
  (zb_range:yao K yai "range"=some none)
  (zb_repr:yao K yai "repr"=some none)
  (zb_set:yao K yai "set"=some none)
  (zb_sorted:yao K yai "sorted"=some none)
  (zb_sum:yao K yai "sum"=some none)
  (zb_tuple:yao K yai "tuple"=some none)
  (xz:qlW K RN TN=true)
  (zg_ASKED_AT_MOST:yao K yai "ASKED_AT_MOST"=some (some (.int 200 tk_ASKED_AT_MOST)))
  (zg_KINDS_AT_MOST:yao K yai "KINDS_AT_MOST"=some (some (.int 12 tk_KINDS_AT_MOST)))
  (zg_MOST:yao K yai "MOST"=some (some (.int 2 tk_MOST)))
  (zg_WEIGHT:yao K yai "WEIGHT"=some (some (.int 0 tk_WEIGHT)))
  (zg_WORTH:yao K yai "WORTH"=some (some (.int 1 tk_WORTH))) :
  ∃fd:yaL,(∀(s:yab)(v:Value),ydY s fd ⟨[v],[]⟩ [("script",v)])/\∀base:Heap,K.In base->base.Ns yai mg->uq l.prog w K mg base CX0 9 fa fd ["script"] (spD K qca):=by
 have e:=hfa.symm.trans (yay X G a22)
 cases e
 have T:Txt K mg:=⟨yaC X G zb_ValueError,yaC X G zb_all,yaC X G zb_bool,yaC X G zb_divmod,yaC X G zb_enumerate,yaC X G zb_int,yaC X G zb_isinstance,yaC X G zb_len,yaC X G zb_max,yaC X G zb_min,yaC X G zb_range,yaC X G zb_repr,yaC X G zb_set,yaC X G zb_sorted,yaC X G zb_sum,yaC X G zb_tuple,⟨_,yay X G zg_ASKED_AT_MOST⟩,⟨_,yay X G zg_KINDS_AT_MOST⟩,⟨_,yay X G zg_MOST⟩,⟨_,yay X G zg_WEIGHT⟩,⟨_,yay X G zg_WORTH⟩⟩
 refine⟨yaw "law" "law" (qB uY) (qt uY) (qd uY) .none kV22 dc22 pm22 an22 cd22 ct22,λs v => .of_eq rfl,λbase hB _=>?_⟩
 have XTt:XT K mg RN TN:=⟨xz,qfV X G⟩
 have C_most_within:=q0 (P:=l.prog) (w:=w) (base:=base) (zh (st:=zy) l0 c0 k0) (yay X G a0) T XTt hB
 have C_room_left:=q1 (P:=l.prog) (w:=w) (base:=base) (zh (st:=zV) l1 c1 k1) (yay X G a1) T XTt hB
 have C_many_with:=q2 (P:=l.prog) (w:=w) (base:=base) (zh (st:=zD) l2 c2 k2) (yay X G a2) T XTt hB C_most_within C_room_left
 have C_filling_counts:=q3 (P:=l.prog) (w:=w) (base:=base) (zh (st:=qH) l3 c3 k3) (yay X G a3) T XTt hB C_many_with
 have C_need_few:=q4 (P:=l.prog) (w:=w) (base:=base) (zh (st:=zW) l4 c4 k4) (yay X G a4) T XTt hB
 have C_is_whole:=q5 (P:=l.prog) (w:=w) (base:=base) (zh (st:=ju) l5 c5 k5) (yay X G a5) T XTt hB
 have C_is_count:=q6 (P:=l.prog) (w:=w) (base:=base) (zh (st:=jv) l6 c6 k6) (yay X G a6) T XTt hB C_is_whole
 have C_need_count:=q7 (P:=l.prog) (w:=w) (base:=base) (zh (st:=zm) l7 c7 k7) (yay X G a7) T XTt hB C_is_count
 have C_is_kind:=q8 (P:=l.prog) (w:=w) (base:=base) (zh (st:=ya) l8 c8 k8) (yay X G a8) T XTt hB C_is_count
 have C_is_store:=q9 (P:=l.prog) (w:=w) (base:=base) (zh (st:=zX) l9 c9 k9) (yay X G a9) T XTt hB C_is_kind
 have C_need_store:=q10 (P:=l.prog) (w:=w) (base:=base) (zh (st:=zn) l10 c10 k10) (yay X G a10) T XTt hB C_is_store
 have C_need_asked:=q11 (P:=l.prog) (w:=w) (base:=base) (zh (st:=zo) l11 c11 k11) (yay X G a11) T XTt hB C_need_few C_need_count C_need_store
 have C_all_filled:=q12 (P:=l.prog) (w:=w) (base:=base) (zh (st:=qY) l12 c12 k12) (yay X G a12) T XTt hB C_filling_counts C_need_asked
 have C_fills_many:=q13 (P:=l.prog) (w:=w) (base:=base) (zh (st:=zp) l13 c13 k13) (yay X G a13) T XTt hB C_filling_counts C_need_asked
 have C_filled:=q14 (P:=l.prog) (w:=w) (base:=base) (zh (st:=yi) l14 c14 k14) (yay X G a14) T XTt hB C_filling_counts C_need_asked
 have C__law_classes:=q15 (P:=l.prog) (w:=w) (base:=base) (zh (st:=qR) l15 c15 k15) (yay X G a15) T XTt hB
 have C__law_only:=q16 (P:=l.prog) (w:=w) (base:=base) (zh (st:=zq) l16 c16 k16) (yay X G a16) T XTt hB C__law_classes
 have C__law_told:=q17 (P:=l.prog) (w:=w) (base:=base) (zh (st:=zE) l17 c17 k17) (yay X G a17) T XTt hB C_all_filled C_fills_many C_filled C__law_only
 have C__law_loads:=q18 (P:=l.prog) (w:=w) (base:=base) (zh (st:=zF) l18 c18 k18) (yay X G a18) T XTt hB
 have C__law_take:=q19 (P:=l.prog) (w:=w) (base:=base) (zh (st:=zY) l19 c19 k19) (yay X G a19) T XTt hB
 have C__law_store:=q20 (P:=l.prog) (w:=w) (base:=base) (zh (st:=zG) l20 c20 k20) (yay X G a20) T XTt hB C__law_take
 have C__law_box:=q21 (P:=l.prog) (w:=w) (base:=base) (zh (st:=jw) l21 c21 k21) (yay X G a21) T XTt hB
 exact qla (P:=l.prog) (w:=w) (base:=base) (zh (st:=uY) l22 c22 k22) T XTt hB C_all_filled C__law_told C__law_loads C__law_take C__law_store C__law_box
theorem qmo {K:Fr0} {H:Hp} {a:Addr} {ns:List Int} (hO:qld H) (hS:SqL K H a (ns.map V.int)):qjV K H a (ns.map V.int):=by
 rcases hS with(h|h)|h
 ·rcases hO a with z|z
  ·rw[h]at z;cases z
  ·rcases z with⟨_,_,z⟩|⟨_,_,z⟩<;>(rw[h]at z;cases z)
 ·exact .inl h
 ·exact .inr h
theorem walk {l:yek} {q:yaj} {loose:List Str} {XP:(Str->Option Value)->Heap->Prop} {YP:World->Heap->Prop} {d:DefRec} {K:Params->yah} (hn:l.most=some 63) (hdf:d.params.defaults=[])
  (hY:∀(w:World)(h:Heap),YP w h->(K w.params).In h) (hlm:∀(w:World)(mean:ExcName->Option Value)(mg mb:Str->Option Value)(h:Heap)(c Pt:Addr)(pos:Pos),Top q (PySem.W.looseW q loose) mean mg mb h->(K w.params).In h->lamOf (K w.params)=some (c,Pt,pos)->yeD h c Pt/\h.get? Pt=some (yeE #[])/\(K w.params).lookup Pt=none) (hlaw:∀ns:List Int,ns.length<=63->qca [.fz ns]=.ok (.bl true))
  (F:∀(w:World)(mg:Str->Option Value)(fa:Addr)(h:Heap),(K w.params).In h->h.Ns yai mg->mg d.name=some (.ref fa) ->
   ∃fd:yaL,(∀(s:yab)(u:Value),ydY s fd ⟨[u],[]⟩ [("script",u)])/\∀base:Heap,(K w.params).In base->base.Ns yai mg->uq l.prog w (K w.params) mg base CX0 9 fa fd ["script"] (spD (K w.params) qca)) :
  PySem.W.WalkO q loose XP YP l.row.toRowW d [] (λf vs=>yf9 f vs) :=
 L2.walk_lam (n:=63) (k:=9) (x:="script") (CX:=λ_=>CX0) (sp:=λw=>spD (K w.params) qca) (lm:=λw=>(lamOf (K w.params)).map λz=>(z.1,z.2.1,z.2.2,qlK)) hn (by decide) hdf ⟨rfl,by decide,by decide,rfl⟩ hY (λw mean mg mb h c Pt pos z T X e=>by
  cases el:lamOf (K w.params) with
  |none=>rw[el]at e;cases e
  |some p=>obtain⟨c',P',pos'⟩:=p;rw[el]at e;cases e;exact hlm w mean mg mb h _ _ _ T X el) F (λw H a ns hl hO hT hS=>by
  refine⟨[.fz ns],λ_=>False,⟨.ref a,[],rfl,⟨a,rfl,qmo hO hS⟩,rfl⟩,λc P pos e=>⟨hT c P pos qlK (by rw[e];rfl),λz=>z⟩,?_⟩
  rw[hlaw ns hl]
  exact λv H' _ h=>h) λ_ _ _ _ _ z=>z
end Law
end L2.Sk
open PySem PySem.W PyProof.Rows
set_option maxRecDepth 100000 in
set_option maxHeartbeats 0 in
theorem PySem.Challenge.cw_sackloads_k51_rooms_filled_holds : PySem.Challenge.rw_sackloads_k51_rooms_filled.Holds := by
 w_on;o_law;k_head;(case hw=>w_witness2)
 k_fill
 refine L2.Sk.Law.walk (l:=PySem.Challenge.rw_sackloads_k51_rooms_filled) rfl rfl (λw h Y=>by first|exact PySem.W.kIn_of Y|exact PySem.W.km_in_of Y) ?hlm0 L2.Sk.Law.law_true ?F
 case hlm0=>
  intro w mean mg mb h c Pt pos T X e
  exact absurd ((show L2.Sk.lamOf _=none by kernel_rfl).symm.trans e) (by simp)
 case F=>
  intro w mg fa h KX G hmg
  refine' L2.Sk.Law.all_mk KX G hmg ?a0 ?l0 ?c0 ?k0 ?a1 ?l1 ?c1 ?k1 ?a2 ?l2 ?c2 ?k2 ?a3 ?l3 ?c3 ?k3 ?a4 ?l4 ?c4 ?k4 ?a5 ?l5 ?c5 ?k5 ?a6 ?l6 ?c6 ?k6 ?a7 ?l7 ?c7 ?k7 ?a8 ?l8 ?c8 ?k8 ?a9 ?l9 ?c9 ?k9 ?a10 ?l10 ?c10 ?k10 ?a11 ?l11 ?c11 ?k11 ?a12 ?l12 ?c12 ?k12 ?a13 ?l13 ?c13 ?k13 ?a14 ?l14 ?c14 ?k14 ?a15 ?l15 ?c15 ?k15 ?a16 ?l16 ?c16 ?k16 ?a17 ?l17 ?c17 ?k17 ?a18 ?l18 ?c18 ?k18 ?a19 ?l19 ?c19 ?k19 ?a20 ?l20 ?c20 ?k20 ?a21 ?l21 ?c21 ?k21 ?a22 ?l22 ?c22 ?k22 ?zb_ValueError ?zb_all ?zb_bool ?zb_divmod ?zb_enumerate ?zb_int ?zb_isinstance ?zb_len ?zb_max ?zb_min ?zb_range ?zb_repr ?zb_set ?zb_sorted ?zb_sum ?zb_tuple ?xz ?zg_ASKED_AT_MOST ?zg_KINDS_AT_MOST ?zg_MOST ?zg_WEIGHT ?zg_WORTH
  (case a0=>k_is)
  (case l0=>k_is)
  (case c0=>k_is)
  (case k0=>k_is)
  (case a1=>k_is)
  (case l1=>k_is)
  (case c1=>k_is)
  (case k1=>k_is)
  (case a2=>k_is)
  (case l2=>k_is)
  (case c2=>k_is)
  (case k2=>k_is)
  (case a3=>k_is)
  (case l3=>k_is)
  (case c3=>k_is)
  (case k3=>k_is)
  (case a4=>k_is)
  (case l4=>k_is)
  (case c4=>k_is)
  (case k4=>k_is)
  (case a5=>k_is)
  (case l5=>k_is)
  (case c5=>k_is)
  (case k5=>k_is)
  (case a6=>k_is)
  (case l6=>k_is)
  (case c6=>k_is)
  (case k6=>k_is)
  (case a7=>k_is)
  (case l7=>k_is)
  (case c7=>k_is)
  (case k7=>k_is)
  (case a8=>k_is)
  (case l8=>k_is)
  (case c8=>k_is)
  (case k8=>k_is)
  (case a9=>k_is)
  (case l9=>k_is)
  (case c9=>k_is)
  (case k9=>k_is)
  (case a10=>k_is)
  (case l10=>k_is)
  (case c10=>k_is)
  (case k10=>k_is)
  (case a11=>k_is)
  (case l11=>k_is)
  (case c11=>k_is)
  (case k11=>k_is)
  (case a12=>k_is)
  (case l12=>k_is)
  (case c12=>k_is)
  (case k12=>k_is)
  (case a13=>k_is)
  (case l13=>k_is)
  (case c13=>k_is)
  (case k13=>k_is)
  (case a14=>k_is)
  (case l14=>k_is)
  (case c14=>k_is)
  (case k14=>k_is)
  (case a15=>k_is)
  (case l15=>k_is)
  (case c15=>k_is)
  (case k15=>k_is)
  (case a16=>k_is)
  (case l16=>k_is)
  (case c16=>k_is)
  (case k16=>k_is)
  (case a17=>k_is)
  (case l17=>k_is)
  (case c17=>k_is)
  (case k17=>k_is)
  (case a18=>k_is)
  (case l18=>k_is)
  (case c18=>k_is)
  (case k18=>k_is)
  (case a19=>k_is)
  (case l19=>k_is)
  (case c19=>k_is)
  (case k19=>k_is)
  (case a20=>k_is)
  (case l20=>k_is)
  (case c20=>k_is)
  (case k20=>k_is)
  (case a21=>k_is)
  (case l21=>k_is)
  (case c21=>k_is)
  (case k21=>k_is)
  (case a22=>k_is)
  (case l22=>k_is)
  (case c22=>k_is)
  (case k22=>k_is)
  (case zb_ValueError=>k_is)
  (case zb_all=>k_is)
  (case zb_bool=>k_is)
  (case zb_divmod=>k_is)
  (case zb_enumerate=>k_is)
  (case zb_int=>k_is)
  (case zb_isinstance=>k_is)
  (case zb_len=>k_is)
  (case zb_max=>k_is)
  (case zb_min=>k_is)
  (case zb_range=>k_is)
  (case zb_repr=>k_is)
  (case zb_set=>k_is)
  (case zb_sorted=>k_is)
  (case zb_sum=>k_is)
  (case zb_tuple=>k_is)
  (case xz=>kernel_rfl)
  (case zg_ASKED_AT_MOST=>k_is)
  (case zg_KINDS_AT_MOST=>k_is)
  (case zg_MOST=>k_is)
  (case zg_WEIGHT=>k_is)
  (case zg_WORTH=>k_is)
