import PyProof.Rows.All
import Wide.All
import OpenK.AllK
import Wide.FinOn
import Lean
import PyProof.EqAt
import PyProof.EqKinds
import PyProof.TupleCall
import KE.KUnpack
import PyProof.Rows.SetFrom
import KE.KRevIter
import KE.KIntText
import PySem.Challenge.RW_sackloads_k55_whole_fills
namespace PySem.W.Fast
def tw2448027780336703485:Nat:=0
def tw14817252447595051985:Nat:=0
def tw6145612746331069020:Nat:=0
def tw10642778812635125417:Nat:=0
def tw11519524786638141226:Nat:=0
def tw2983932221870346773:Nat:=0
def tw17011953452581084974:Nat:=0
def tw3758821505803120630:Nat:=0
def tw2473674295898963244:Nat:=0
def tw13692726037891162680:Nat:=0
def tw13949275840011264817:Nat:=0
def tw14342340738147732156:Nat:=0
def tw6397249196242988182:Nat:=0
def tw583131800526031869:Nat:=0
def tw2422532108216082972:Nat:=0
def tw7722892740427149360:Nat:=0
def tw5542982081969427582:Nat:=0
end PySem.W.Fast
open PySem renaming wpAny_bind→yaa,Shared→yab,wpAny_pure→yac,mainGlobals→yad,starEach→yam,Program→yar,Around→yau,sizeLine→yav,argBest→yax,wpAny_newObj_type→yay,wpAny_seqItems→yaE,bootBuiltins→yaF,wpAny_call_entry→yaH,codeAny_builtin→yaI,compareOp→yaL,plainId_quiet→yaO,wpAny_truthy_bool→yaU,wpAny_field→yaV,Builtin→yaX,wpAny_holding→ya2,wpAny_pyIter_list→ya4,wpAny_tryCatch→ya7,backTo→ybb,rawInt→ybm,FuncData→ybn,wpAny_letGo→ybp,wpAny_setField_rec→ybq,binaryOp→ybx,builtinLookup_eq_fast→ybz,sizeLine_eq→ybA,wpAny_of_eq→ybC,wpAny_updateSeq→ybF,codeAny→ybI,keywordEach→ybM,assignEach→ybU,intItems→ybV,foldedSetIterable→yb2,wpAny_attempt→yb4,mem_of_lookup→yb6,wpAny_setField→yb7,wpAny_rule→yca,wpAny_pyIter_tuple→ycb,wpAny_passesOwn→yce,typeLookup_type→ycf,SetTable→ycj,pyNext→yck,wpAny_setState_of→ycl,Keyword→ycq,isSubtype_type→ycr,backToKw→ycs,IsPair→ycv,wpAny_isInstance→ycw,wpAny_setEntries_of→ycy,intKind→ycz,behindInMarks→ycA,wpAny_mono→ycC,wpAny_Call_Name_kw→ycD,wpAny_loadPart'→ycE,firstArgMember→ycP,argsOk→ycQ,call_meets→ycV,codeAny_call_builtin→ycW,assign→yc0,richCompare→yc1,sliceBounds→yc2,builtinsNs→ydg,wpAny_pyIter_enum→ydp,wpAny_pyIter_slot→ydq,intItems_at→ydv,wpAny_standAt→ydy,swapsWithSole→ydz,swappedStores→ydA,nums_intItems→ydC,NameKind→ydE,checkBuiltinCall→ydG,holding→ydJ,swapsWith→ydK,Env→ydO,wpAny_execs_nil→ydS,letOwnedTupleGo→ydT,Result→ydU,codeAny_mono→ydV,IsPart→ydY,wpAny_typeOf→ydZ,wpAny_updateSeq_pair→yd1,isSubtype_stop→yec,setNext→yed,wpAny_fieldsOf→yee,attributeBase→yet,wpAny_onRaise→yev,wpAny_letOwnedTupleGo_enum→yew,sysModules→yeI,typeIs_int→yeK,wpAny_binaryOp_repeat_ref→yeL,hashInt→yeM,getItem→yeP,callerA→yeQ,noFill_tuple_add→yeS,wpAny_comprehension_free→yeU,callType_new→yeW,entryFor→yeY,wpAny_askSetting→ye1,wpAny_pyNext_enum_itemD→ye8,codeAny_compStart_list→yfn,wpAny_pyNext_enum_endD→yfp,wpAny_isTrue_Compare1→yfv,BindsTo→yfy,entryFor_alias→yfF,GenState→yfI,compEnvC→yfL,wpAny_newFunctionEnv→yfM,relayAll→yfO,assignInOrder→yfS,seq_tuple_add→yfT,wpAny_handled→yfU,PassesOwn→yf3,pyIter→yf4,Arguments→yf7,concat_meets→yga,seqIndex?→ygc,seqIndex_neg→ygd,isSubtype→ygf,newExc→ygg,standAt→ygp,ElemsOf→ygq,wpAny_assign_Name→ygr,wpAny_sequenceKey→ygv,wpAny_storeSet_of→ygD,wpAny_setEpoch_of→ygG,seqIndex_of→ygK,wpAny_throw→ygL,bindName→ygM,compPost→ygN,ReadsAll→ygO,raiseNew→ygP,wpAny_Name→ygQ,wpAny_call→ygR,typeLookup→ygS,call→ygT
open PySem.Heap renaming lt_size→yae,size_push→yaN,SameBut→ybK,IsTuple→yeV
open PySem.W renaming nsIn→yaf,keepIn→yai,codeIn→yaj,mg_of→yak,fnOf→yal,Frag→yas,mg_none_of→yaC,kia_one→ya8,findIn→ydj,methodObj→yeC,kitx_list→yeD,instObj→yfb,OpenLaw→yfg,cellsFrom_some→yfl,lookIn→yfw,kitOne→yfx,CodeHd→yfz,tabObj→yfA,kitx_tuple→yf5,kitx_dict→ygt
open List renaming range→yag,replicate→yap,mem_cons→yaD,nil_append→yaJ,append_nil→yaR,length_singleton→yaY,lookup_cons→ybh,sum_cons→ybl,mem_of_getElem?→ybt,flatten_cons→ybE,map_append→ybH,range_succ_eq_map→ybP,length_replicate→ybR,filter_append→ybS,sum_append→ybZ,eq_of_mem_replicate→yb0,range_eq_range'→yb1,set_cons_zero→ycd,all_cons→ych,mem_append_left→ycm,length_reverse→ycx,getElem_range→ycF,drop_of_length_le→ycH,sum_replicate_nat→ycJ,reverse_cons→ycL,map_nil→ycO,length_take→ycU,reverse_reverse→ycZ,filterMap_cons→yc3,range_succ→yc6,all_map→ydd,set_cons_succ→yde,filter_congr→ydr,range'→ydw,length_drop→ydF,getElem_mem→ydI,Perm→ydP,singleton_append→ydQ,take_append_drop→ydR,of_mem_zip→ydW,any_map→yd5,range'_append_1→yd8,dropLast_concat_getLast→yef,length_eraseIdx_of_lt→yey,cons_append→ye3,range'_succ→ye5,forIn_cons→yfe,filter_map→yfj,findIdx_lt_length→yfr,not_of_lt_findIdx→yfs,filter_eq_nil_iff→yft,mem_iff_getElem?→yfC,length_filter_le→yfH,foldl→yfK,getElem_toArray→yfN,findIdx_getElem→yfP,flatMap_append→yf0,zip_cons_cons→yf9,length_range'→ygm,ne_nil_of_mem→ygo,ext_getElem?→ygF
open Nat renaming le_refl→yah,ne_of_lt→yao,lt_of_lt_of_le→yaA,le_trans→yaP,gcd→yaS,lt_irrefl→yaT,zero_add→ybf,le_succ→ybw,zero_le→ybB,ne_of_gt→ybL,succ_mul→ybN,mul_comm→ybO,le_of_not_lt→ybQ,lt_succ_of_lt→yb3,le_add_right→yb8,div_add_mod→ycg,le_of_lt→ycM,le_div_iff_mul_le→ycS,succ_ne_self→ycX,mod_lt→ycY,not_lt_zero→yc5,add_mul_mod_self_left→yc7,exists_eq_add_of_le→ydo,add_mod→ydx,lt_succ_self→ydH,min_eq_left→yd2,mul_le_mul_right→yd7,mul_le_mul→yeg,lt_or_ge→ye0,mul_succ→ye4,strongRecOn→yfi,add_mul→yfq,pow_le_pow_right→yfR,mul_assoc→yfW,lt_or_eq_of_le→ygk,lt_of_le_of_lt→ygl,gcd_dvd_right→ygI
open Bool renaming and_eq_true→yan,false_ne_true→yaq,and_self→yaG,eq_iff_iff→ybc,false_eq_true→ybr,true_and→ybu,false_and→ydi,or_eq_true→yfd,not_false→yfG,and_true→yfV
open PySem.Value renaming ref→yat,none→yaM,type→ycB,bool→ydf,isInt→yds,builtin→ydB,int→yej,isInt_shape→yeB
open Option.some renaming inj→yaw
open PySem.F renaming plain_min_loop→yaz,plain_max_loop→ya6,entry_min_loop→ybv,slot_tuple_iterator_next→yci,entry_max_loop→ycI,args_tuple_add_2→yc8,entry_tuple_add→ydm,plainAttrs_list→ydn,slot_tuple_add→ydu,typeOf_object_class→ydN,slot_int_rmul→yd0,slot_zip_next→yd3,args_object_init_2→yd4,args_tuple_iterator_next_1→yeb,entry_tuple_iterator_next→yel,plain_min→yeE,entry_min→yeF,kind_min→yeX,slot_list_insert→yeZ,slot_list_index→ye9,typeCall_enumerate_1→yfo,newCall_enumerate_1→yfD,entry_enumerate_new→yfE,sub_reversed_self→yfZ,called_enumerate→ygh,args_int_rmul_2→ygw,args_zip_next_1→ygy,plain_max→ygA,entry_max→ygB,plain_list_iadd→ygH
open PySem.Around renaming under_plainId→yaB
open PySem.SetTable renaming below→yaK,grown→ycR,insertAt→yeG
open PySem.Heap.SameBut renaming update→yaQ,refl→ygz
open PyProof.Rows renaming callWith_type1→yaW,IntsAre→ybJ,slot_tuple_getitem→ybT,IntsAre→ybX,kindOf→ycN,AllBare→ydh,envOfC→ydt,callWith_builtin1→ydX,assignInOrder_cons→yek,boot_enumerate→yem,listUpdate_at→yez,subscriptTail_builtinR→yfm,entry_tuple_getitem→yfX,args_tuple_getitem→ygb,assignInOrder_nil→ygs
open PySem.PyData renaming eqv→yaZ,canLayAll0→ybk,canLay0→ybo,depthAll→ybY,depth→yd6
open PySem.PassesOwn renaming never→ya0
open Array renaming length_toList→ya1,getD_eq_getD_getElem?→ycT,size_extract→ygj,toList_push→ygE
open Or renaming inr→ya3,inl→yby
open PySem.Builtin.SmallTypes renaming nextOf→ya5,ownedTupleIsFree→ybD,ownedTupleHandOut→yda
open PySem.AutoSeq1 renaming wpAny_loadPart'→ya9,sub_tuple_tuple→yeR
open PySem.NameKind renaming free→yba,cell→ydD
open PySem.Str renaming ofString→ybd
open Int renaming natCast_mul→ybe,toNat_natCast→ybj,le_refl→ycp,emod_lt_of_pos→ycG,le_trans→ydb,mul_nonneg→ydl,emod_nonneg→yd9,mul_le_mul_of_nonneg_left→yea,fdiv_eq_ediv_of_nonneg→yep,fmod_eq_emod_of_nonneg→yeq,eq_of_mul_eq_mul_right→yeA,mul_ediv_cancel_left→ye6,mul_comm→ye7,eq_ofNat_of_zero_le→yfa,le_antisymm→yff,ediv_nonneg→yfh,natCast_add→yfk,neg_mul→yfu,mul_lt_mul_right→yfQ,mul_left_comm→ygJ
open Option renaming map_some→ybg,getD_some→yeT
open ToString renaming toString→ybi
open Ne renaming symm→ybs
open PySem.Builtin.Builtins renaming bindParams→ybG
open ForInStep renaming yield→ybW
open PySem.Obj renaming mapFields→yb5,mapSeq→yco,data_mapFields→yc9,isFreed_of_fields→yfB,cls_mapFields→ygx,putSet→ygU
open False renaming elim→yb9
open PyProof.Rows.F renaming plain_set_update_loop→ycc,entry_set_update_loop→ydc
open PySem.Builtin.Slice renaming slicePlaces→ycn,sliceAdjust→yc4,sliceApplied→yer
open PySem.Builtin.Tuple renaming tupleExact→yct,tupleItemsOf→yes,tupleIsExact→yeu
open PySem.Builtin.List renaming listTooLong→ycu,listExtendWith→yen,listSameRef→ye2
open Function renaming comp_def→ycK
open PySem.Walks renaming list→ydk
open PySem.Data renaming cell→ydL,fields→yeh
open LawfulBEq renaming eq_of_beq→ydM
open PySem.Shared renaming heap→yei,TypeIs→yex
open PySem.Calls renaming Name_function_global→yeo,spliced_cons→yf6,spliced_nil→ygu
open PySem.SetTable.probe renaming go→yeH
open True renaming intro→yeJ
open Sum renaming inl→yeN,inr→yeO
open PyProof.Rows.IsTup renaming new→yfc
open PySem.SeqAt renaming EqAt→yfJ,readOf→ygi
open PySem.Builtin.Int renaming intBits→yfY
open PySem.SeqAt.EqAt renaming int_str→yf1,str_int→yf2,int_int→yf8
open PySem.Code renaming quiet_builtin→yge
open PySem.pickOrder renaming go→ygn
open PySem.SetTable.below renaming go→ygC
set_option linter.all false
set_option Elab.async false
set_option maxRecDepth 100000
open List renaming mem_cons_of_mem → mM, mem_cons_self → mS_, getElem?_eq_getElem → gG, length_cons → lC_, length_map → lM_, length_append → lA_, getElem?_map → gM_, map_cons → mC_, mem_append → mA_, length_range → lR_, length_nil → lN_, size_toArray → sT_, mem_range → mR_, mem_map → mP_, map_map → mm_, replicate_succ → rS_, length_set → lS_, not_mem_nil → nN_, map_congr_left → mL_, append_assoc → aA_, getElem?_eq_some_iff → gI_, flatMap_cons → fC_, foldl_cons → fo_, mem_singleton → ms_, mem_append_right → mr_, filter_cons → ft_
namespace L2
open PySem PySem.Spec PyProof.Rows
abbrev Key:=Sum Int Str
def qp3:Key->Value->Bool
 |.inl k,v=>yds k v
 |.inr x,v=>Value.isStrOf x v
def qty (w:World):Key->Int
 |.inl k=>yeM k
 |.inr x=>hashStr w x
theorem zX:∀{k:Key}{v:Value},qp3 k v=true->(∃i t,k=yeN i/\v=yej i t)\/(∃x t,k=yeO x/\v=Value.str x t)
 |.inl i,v,h=>by
  obtain⟨t,e⟩:=yeB (k:=i) (v:=v) h
  exact .inl ⟨i,t,rfl,e⟩
 |.inr x,v,h=>by
  obtain⟨t,e⟩:=Value.isStrOf_shape (x:=x) (v:=v) h
  exact .inr ⟨x,t,rfl,e⟩
theorem qp4 (a b:Int):decide ((yeN a:Key)=yeN b)=(a==b):=by
 by_cases e:a=b
 ·subst e;simp
 ·have h:¬(yeN a:Key)=yeN b:=λq=>e (Sum.inl.inj q)
  rw[decide_eq_false h]
  exact(beq_eq_false_iff_ne.mpr e).symm
theorem qp5 (a b:Str):decide ((yeO a:Key)=yeO b)=decide (a=b):=by
 by_cases e:a=b
 ·subst e;simp
 ·have h:¬(yeO a:Key)=yeO b:=λq=>e (Sum.inr.inj q)
  rw[decide_eq_false h,decide_eq_false e]
theorem qp6(a:Int)(b:Str):decide ((yeN a:Key)=yeO b)=false:=decide_eq_false (λq=>nomatch q)
theorem qp7(a:Str)(b:Int):decide ((yeO a:Key)=yeN b)=false:=decide_eq_false (λq=>nomatch q)
def qd5 (prog:yar) (w:World):PySem.KeyKind prog w Key where
 is:=qp3
 hash:=qty w
 inj:=λv a b ha hb=>by
  rcases zX ha with⟨i,t,rfl,rfl⟩|⟨x,t,rfl,rfl⟩
  ·rcases zX hb with⟨j,u,rfl,e⟩|⟨y,u,rfl,e⟩
   ·injection e with e1 _;rw[e1]
   ·exact nomatch e
  ·rcases zX hb with⟨j,u,rfl,e⟩|⟨y,u,rfl,e⟩
   ·exact nomatch e
   ·injection e with e1 _;rw[e1]
 byValue:=λk v h=>by
  rcases zX h with⟨i,t,rfl,rfl⟩|⟨x,t,rfl,rfl⟩<;>rfl
 pyHash:=λhv h=>by
  rcases zX hv with⟨i,t,rfl,rfl⟩|⟨x,t,rfl,rfl⟩
  ·exact wpAny_pyHash_int h
  ·exact wpAny_pyHash_str h
 eqBool:=λhu hv h=>by
  rcases zX hu with⟨i,t,rfl,rfl⟩|⟨x,t,rfl,rfl⟩
  ·rcases zX hv with⟨j,u,rfl,rfl⟩|⟨y,u,rfl,rfl⟩
   ·rw[qp4]at h;exact wpAny_eqBool_int h
   ·rw[qp6]at h;exact yf1 i t y u _ _ _ _ h
  ·rcases zX hv with⟨j,u,rfl,rfl⟩|⟨y,u,rfl,rfl⟩
   ·rw[qp7]at h;exact yf2 x t j u _ _ _ _ h
   ·rw[qp5]at h;exact wpAny_eqBool_str h
 «strs»:=λk x t v h=>by
  rcases zX h with⟨i,u,rfl,e⟩|⟨y,u,rfl,e⟩
  ·exact nomatch e
  ·injection e with e1 _
   subst e1
   cases v<;>rfl
end L2
namespace L2
open PySem PySem.Spec PyProof.Rows
inductive V where
 |non|bl (b:Bool)|int (i:Int)|str (x:Str)|byt (b:Array UInt8)|flt (b:UInt64)|ref (a:Addr)|ty (n:String)
 deriving DecidableEq
def uk:V->Value->Prop
 |.non,u=>u=yaM
 |.bl b,u=>u=ydf b
 |.int i,u=>∃t,u=yej i t
 |.str x,u=>∃t,u=Value.str x t
 |.byt b,u=>∃t,u=Value.bytes b t
 |.flt b,u=>∃t,u=Value.float b t
 |.ref a,u=>u=yat a
 |.ty n,u=>u=ycB n
abbrev zT:List V->List Value->Prop:=Paired uk
theorem zT.length{xs:List V}{us:List Value}(r:zT xs us):xs.length=us.length:=Paired.length r
theorem zT.get:∀{xs:List V}{us:List Value}{i:Nat}{x:V},zT xs us->xs[i]? = some x->∃u,us[i]? = some u/\uk x u
 |_,_,_,_,.nil,e=>by simp at e
 |_,_,0,_,.cons r _,e=>by simp at e;subst e;exact⟨_,rfl,r⟩
 |_,_,i+1,x,.cons _ t,e=>by
  obtain⟨u,h1,h2⟩:=zT.get (i:=i) (x:=x) t (by simpa using e)
  exact⟨u,by simpa using h1,h2⟩
theorem zT.set {x:V} {u:Value} (r:uk x u):∀{xs:List V}{us:List Value}(i:Nat),zT xs us->zT (xs.set i x) (us.set i u)
 |_,_,_,.nil => .nil
 |_,_,0,.cons _ t => .cons r t
 |_,_,i+1,.cons q t => .cons q (zT.set r i t)
theorem zT.append:∀{xs ys:List V}{us ws:List Value},zT xs us->zT ys ws->zT (xs++ys) (us++ws)
 |_,_,_,_,.nil,s=>s
 |_,_,_,_,.cons r t,s => .cons r (zT.append t s)
theorem zT.take:∀{xs:List V}{us:List Value}(n:Nat),zT xs us->zT (xs.take n) (us.take n)
 |_,_,0,_ => .nil
 |_,_,_+1,.nil => .nil
 |_,_,n+1,.cons r t => .cons r (zT.take n t)
theorem zT.drop:∀{xs:List V}{us:List Value}(n:Nat),zT xs us->zT (xs.drop n) (us.drop n)
 |_,_,0,r=>r
 |_,_,_+1,.nil => .nil
 |_,_,n+1,.cons _ t=>zT.drop n t
def qsf:Option V->Option Value->Prop
 |some v,some u=>uk v u
 |none,none=>True
 |_,_=>False
def KV{κ:Type}:List (κ×V)->List (κ×Value)->Prop:=Paired λ(p:κ×V) (q:κ×Value)=>p.1=q.1/\uk p.2 q.2
def kV:Key->V
 |.inl i => .int i
 |.inr x => .str x
inductive HO where
 |lst (xs:List V)
 |tup (xs:List V)
 |dK (kvs:List (Key×V))|dT (kvs:List (List Key×V))
 |set (S:Int->Bool) (n:Nat)
 |ins (C dx:Addr) (fs:List (Str×V))
 |own (x:Addr)
 |xd (fs:List (Str×V))
 |met (f x:Addr)
 |rng (lo hi:Int)
 |frz (o:Obj) (u:HO)
 |tbl (ps:Array Value)
 |ext (φ:Heap->Prop)
 |lam (pos:Pos) (q:Str)
abbrev Hp:=Addr->Option HO
def upd(H:Hp)(a:Addr)(o:HO):Hp:=λb=>if b=a then some o else H b
theorem qz{H:Hp}{a:Addr}{o:HO}:upd H a o a=some o:=by unfold upd;rw[if_pos rfl]
theorem qx{H:Hp}{a b:Addr}{o:HO}(h:b≠a):upd H a o b=H b:=by unfold upd;rw[if_neg h]
theorem qaU {H:Hp} {a b:Addr} {o u:HO} (h:H a=some o) (h':H b=some u) (d:o≠u):a≠b:=by
 intro e;subst e;rw[h]at h';exact d (yaw h')
theorem qJ {H:Hp} {a b:Addr} {o:HO} (h:H a=some o) (h':H b=none):a≠b:=by
 intro e;subst e;rw[h]at h';cases h'
section
variable(P:yar)(w:World)
def u7 (H:Hp) (h:Heap) (a:Addr):HO->Prop
 |.lst xs=>xs.length<=yav/\∃(its:List Value)(n:Nat),zT xs its/\h.get? a=some {cls:=.type "list",data:=.seq its.toArray n}
 |.tup xs=>xs.length<=yav/\∃its:List Value,zT xs its/\IsTup h a its.toArray
 |.dK kvs=>kvs.length<=yav/\(a==yeI)=false/\∃vs,KV kvs vs/\h.DictOf (qd5 P w) a vs
 | .dT kvs=>kvs.length<=yav/\(a==yeI)=false/\∃xs:List (List Key×Addr×Value),
   Paired (λ(p:List Key×V) (q:List Key×Addr×Value)=>p.1=q.1/\H q.2.1=some (.tup (p.1.map kV))/\uk p.2 q.2.2) kvs xs /\
   ∃o es ep,h.get? a=some o/\o.ExactDict/\o.data=.dict es ep/\es.toList=xs.map (entryOfKey (tupleKind (qd5 P w)))/\(xs.map (·.1)).Nodup
 |.set S n=>h.SetOf (ycz P w) a S n
 | .ins C dx fs=>H dx=some (.own a)/\fs.length<=1000/\dx≠a/\h.get? a=some (yfb C dx) /\
   ∃mA,h.Ns1 dx mA/\(∀f,qsf (fs.lookup f) (mA f))/\PySem.Within mA (fs.map (·.1))
 |.own _=>∃o,h.get? a=some o
 |.xd fs=>∃mA,h.Ns1 a mA/\∀f,qsf (fs.lookup f) (mA f)
 |.rng lo hi=>∃t u v,h.get? a=some {cls:=.type "range",data:=.fields #[.int lo t,.int hi u,.int 1 v]}
 |.frz o u=>h.get? a=some o/\u7 H h a u
 |.tbl ps=>h.get? a=some {cls:=.none,data:=.fields ps}
 |.met f x=>h.get? a=some (yeC (.ref f) (.ref x))
 | .lam pos q=>h.get? a=some {cls:=.none,data:=.fields #[]}\/∃(c:Addr)(oc:Obj)(vs:Array Value)(t:Tok),H c=some (.frz oc (.own c))/\oc.data=.fields vs/\vs[1]? = some (.str q t) /\
   h.get? a=some {cls:=.none,data:=.fields #[ybm pos.line,ybm pos.col,.ref c]}
 |.ext φ=>φ h/\(∃o,h.get? a=some o)/\∀h1 h2:Heap,φ h1->(∀o,h1.get? a=some o->h2.get? a=some o)->φ h2
def HOk(H:Hp)(h:Heap):Prop:=∀a o,H a=some o->u7 P w H h a o
end
section
variable{P:yar}{w:World}{H H':Hp}{h h':Heap}{a:Addr}{o:HO}
theorem u7.lt (x:u7 P w H h a o):a<h.objs.size:=by
 cases o with
 |lst xs=>obtain⟨_,_,_,_,e⟩:=x;exact yae e
 |tup xs=>obtain⟨_,_,_,p⟩:=x;exact p.lt
 |dK kvs=>obtain⟨_,_,_,_,o,_,_,e,_⟩:=x;exact yae e
 |dT kvs=>obtain⟨_,_,_,_,o,_,_,e,_⟩:=x;exact yae e
 |set S n=>obtain⟨o,_,_,_,e,_⟩:=x;exact yae e
 |ins C dx fs=>obtain⟨_,_,_,e,_⟩:=x;exact yae e
 |own y=>obtain⟨_,e⟩:=x;exact yae e
 |xd fs=>obtain⟨_,⟨_,_,_,e,_⟩,_⟩:=x;exact yae e
 |rng lo hi=>obtain⟨_,_,_,e⟩:=x;exact yae e
 |frz ob u=>obtain⟨e,_⟩:=x;exact yae e
 |tbl ps=>exact yae (show h.get? a=some _ from x)
 |met f y=>exact yae (show h.get? a=some _ from x)
 |ext φ=>obtain⟨_,⟨_,e⟩,_⟩:=x;exact yae e
 |lam pos q=>
  rcases x with e|⟨_,_,_,_,_,_,_,e⟩
  ·exact yae e
  ·exact yae e
theorem Paired.mapP {α β:Type} {F G:α->β->Prop}:∀{lK:List α}{lQ:List β},Paired F lK lQ->(∀a b,F a b->G a b)->Paired G lK lQ
 |_,_,.nil,_ => .nil
 |_,_,.cons r t,f => .cons (f _ _ r) (Paired.mapP t f)
theorem u7.stay (x:u7 P w H h a o) (k:∀b u,(b=a\/H b=some (.own a))->h.get? b=some u->h'.get? b=some u)
  (ho:∀b,H b=some (.own a)->H' b=some (.own a)) (ht:∀b xs,H b=some (.tup xs)->H' b=some (.tup xs)) (hz:∀b ob u,H b=some (.frz ob u)->H' b=some (.frz ob u):=by exact λ_ _ _ q=>q):u7 P w H' h' a o:=by
 induction o with
 |lst xs=>obtain⟨z,its,n,r,e⟩:=x;exact⟨z,its,n,r,k _ _ (.inl rfl) e⟩
 |tup xs=>obtain⟨z,its,r,ob,e,c⟩:=x;exact⟨z,its,r,ob,k _ _ (.inl rfl) e,c⟩
 |dK kvs=>obtain⟨z,y,vs,r,ob,es,ep,e,c⟩:=x;exact⟨z,y,vs,r,ob,es,ep,k _ _ (.inl rfl) e,c⟩
 |dT kvs=>
  obtain⟨z,y,xs,r,ob,es,ep,e,c⟩:=x
  exact⟨z,y,xs,Paired.mapP r λp q z=>⟨z.1,ht _ _ z.2.1,z.2.2⟩,ob,es,ep,k _ _ (.inl rfl) e,c⟩
 |set S n=>obtain⟨ob,es,ep,t,e,c⟩:=x;exact⟨ob,es,ep,t,k _ _ (.inl rfl) e,c⟩
 |ins C dx fs=>
  obtain⟨d,z,ne,e,mA,⟨od,es,ep,e2,c⟩,r⟩:=x
  exact⟨ho _ d,z,ne,k _ _ (.inl rfl) e,mA,⟨od,es,ep,k _ _ (.inr d) e2,c⟩,r⟩
 |own y=>obtain⟨ob,e⟩:=x;exact⟨ob,k _ _ (.inl rfl) e⟩
 |xd fs=>obtain⟨mA,⟨od,es,ep,e,c⟩,r⟩:=x;exact⟨mA,⟨od,es,ep,k _ _ (.inl rfl) e,c⟩,r⟩
 |rng lo hi=>obtain⟨t,u,v,e⟩:=x;exact⟨t,u,v,k _ _ (.inl rfl) e⟩
 |frz ob u ih=>obtain⟨e,q⟩:=x;exact⟨k _ _ (.inl rfl) e,ih q⟩
 |tbl ps=>
  have e:h.get? a=some {cls:=.none,data:=.fields ps}:=x
  show h'.get? a=some {cls:=.none,data:=.fields ps}
  exact k a _ (.inl rfl) e
 |met f y=>
  have e:h.get? a=some (yeC (.ref f) (.ref y)):=x
  show h'.get? a=some (yeC (.ref f) (.ref y))
  exact k a _ (.inl rfl) e
 |ext φ=>obtain⟨p,⟨o,e⟩,st⟩:=x;exact⟨st _ _ p λo q=>k _ _ (.inl rfl) q,⟨o,k _ _ (.inl rfl) e⟩,st⟩
 |lam pos q=>
  rcases x with e|⟨c,oc,vs,t,h1,h2,h3,e⟩
  ·exact .inl (k _ _ (.inl rfl) e)
  ·exact .inr ⟨c,oc,vs,t,hz _ _ _ h1,h2,h3,k _ _ (.inl rfl) e⟩
theorem HOk.lt(x:HOk P w H h)(e:H a=some o):a<h.objs.size:=(x a o e).lt
theorem HOk.fresh (x:HOk P w H h) (e:h.objs.size<=a):H a=none:=by
 cases q:H a with
 |none=>rfl
 |some u=>exact absurd (yaA (x.lt q) e) (yaT _)
theorem HOk.kept (x:HOk P w H h) (k:∀b u,h.get? b=some u->h'.get? b=some u):HOk P w H h':=λa o e=>
 (x a o e).stay (λb u _ q=>k b u q) (λ_ q=>q) λ_ _ q=>q
theorem HOk.laid (x:HOk P w H h) (k:∀b u,h.get? b=some u->h'.get? b=some u) (hp:h.objs.size<=a) (new:u7 P w (upd H a o) h' a o):HOk P w (upd H a o) h':=λb u e=>by
 have hn:=x.fresh hp
 by_cases hb:b=a
 ·subst hb;rw[qz]at e;cases e;exact new
 ·rw[qx hb]at e
  exact(x b u e).stay (λc v _ q=>k c v q) (λc q=>by rw[qx (qJ q hn)];exact q) (λc xs q=>by rw[qx (qJ q hn)];exact q) λc ob z q=>by rw[qx (qJ q hn)];exact q
end
def Rd(H:Hp)(a:Addr)(u:HO):Prop:=H a=some u\/∃o,H a=some (.frz o u)
theorem Rd.ok {P:yar} {w:World} {H:Hp} {h:Heap} {a:Addr} {u:HO} (r:Rd H a u) (x:HOk P w H h):u7 P w H h a u:=by
 rcases r with r|⟨o,r⟩
 ·exact x a u r
 ·obtain⟨_,q⟩:=x a _ r
  exact q
def Mut:Option HO->Prop
 |some (.lst _)=>True
 |some (.dK _)=>True
 |some (.dT _)=>True
 |some (.set _ _)=>True
 |some (.ins _ _ _)=>True
 |some (.ext _)=>True
 |_=>False
section
variable{P:yar}{w:World}{H:Hp}{h h':Heap}{x e:Addr}{o':HO}
theorem HOk.write (ok:HOk P w H h) (mu:Mut (H x)) (he:e=x\/H e=some (.own x)) (k:∀b u,b≠e->h.get? b=some u->h'.get? b=some u) (heo:∃u,h'.get? e=some u)
  (new:u7 P w (upd H x o') h' x o'):HOk P w (upd H x o') h':=λb u q=>by
 have nown:∀c y,H c=some (.own y)->c≠x:=λc y r z=>by subst z;rw[r]at mu;exact mu
 have ntup:∀c xs,H c=some (.tup xs)->c≠x:=λc xs r z=>by subst z;rw[r]at mu;exact mu
 have nfrz:∀c ob y,H c=some (.frz ob y)->c≠x:=λc ob y r z=>by subst z;rw[r]at mu;exact mu
 by_cases hb:b=x
 ·subst hb;rw[qz]at q;cases q;exact new
 ·rw [qx hb]at q
  by_cases hbe:b=e
  ·have q':H b=some (.own x):=by
    rcases he with z|z
    ·exact absurd (hbe.trans z) hb
    ·rw[hbe];exact z
   rw[q]at q';cases q'
   obtain⟨v,hv⟩:=heo
   exact⟨v,by rw[hbe];exact hv⟩
  ·refine (ok b u q).stay (λc v hc r=>k c v ?_ r) (λc r=>by rw[qx (nown c b r)];exact r) (λc xs r=>by rw[qx (ntup c xs r)];exact r) λc ob z r=>by rw[qx (nfrz c ob z r)];exact r
   rcases hc with rfl|hc
   ·exact hbe
   ·rintro rfl
    rcases he with z|z
    ·exact nown c b hc z
    ·rw[hc]at z;cases z;exact hb rfl
end
structure Un (fs ex:List Addr) (H H':Hp) (h h':Heap):Prop where
 keep:∀b o,h.get? b=some o->H b=none->b ∉ fs->b ∉ ex->h'.get? b=some o
 slot:∀b o,h.get? b=some o->H b=none->b∈fs->b ∉ ex->∃sl,h'.get? b=some {o with slots:=sl}
 free:∀b o,h.get? b=some o->H b=none->b ∉ ex->H' b=none
 there:∀b o,h.get? b=some o->b ∉ ex->∃o',h'.get? b=some o'
 tups:∀b xs,H b=some (.tup xs)->H' b=some (.tup xs)
 frzs:∀b o u,H b=some (.frz o u)->H' b=some (.frz o u)
 tbls:∀b pos q,H b=some (.lam pos q)->H' b=some (.lam pos q)
section
variable{fs fs' ex ex':List Addr}{H H1 H2:Hp}{h h1 h2 h':Heap}{a x e:Addr}{o:HO}
theorem Un.any (u:Un fs ex H H1 h h1) {b:Addr} {ob:Obj} (q:h.get? b=some ob) (n:H b=none) (hx:b ∉ ex):∃sl,h1.get? b=some {ob with slots:=sl}:=by
 by_cases hb:b∈fs
 ·exact u.slot b ob q n hb hx
 ·exact⟨ob.slots,u.keep b ob q n hb hx⟩
theorem Un.trans (a:Un fs ex H H1 h h1) (b:Un fs ex H1 H2 h1 h2):Un fs ex H H2 h h2 where
 keep:=λc ob q n hc hx=>b.keep c ob (a.keep c ob q n hc hx) (a.free c ob q n hx) hc hx
 slot:=λc ob q n hc hx=>by
  obtain⟨sl,e1⟩:=a.slot c ob q n hc hx
  obtain⟨sl',e2⟩:=b.slot c _ e1 (a.free c ob q n hx) hc hx
  exact⟨sl',e2⟩
 free:=λc ob q n hx=>by
  obtain⟨o',e1⟩:=a.there c ob q hx
  exact b.free c o' e1 (a.free c ob q n hx) hx
 there:=λc ob q hx=>by
  obtain⟨o',e1⟩:=a.there c ob q hx
  exact b.there c o' e1 hx
 tups:=λc xs q=>b.tups c xs (a.tups c xs q)
 frzs:=λc ob xs q=>b.frzs c ob xs (a.frzs c ob xs q)
 tbls:=λc ps x q=>b.tbls c ps x (a.tbls c ps x q)
theorem Un.kept (k:∀b u,h.get? b=some u->h'.get? b=some u):Un fs ex H H h h' :=
 ⟨λb ob q _ _ _=>k b ob q,λb ob q _ _ _=>⟨ob.slots,k b ob q⟩,λ_ _ _ n _=>n,λb ob q _=>⟨ob,k b ob q⟩,λ_ _ q=>q,λ_ _ _ q=>q,λ_ _ _ q=>q⟩
theorem Un.refl:Un fs ex H H h h:=Un.kept λ_ _ q=>q
theorem Un.laid (k:∀b u,h.get? b=some u->h'.get? b=some u) (hp:h.objs.size<=a) (hn:H a=none):Un fs ex H (upd H a o) h h' where
 keep:=λb u q _ _ _=>k b u q
 slot:=λb u q _ _ _=>⟨u.slots,k b u q⟩
 free:=λb u q n _=>by rw[qx (yao (yaA (yae q) hp))];exact n
 there:=λb u q _=>⟨u,k b u q⟩
 tups:=λb xs q=>by rw[qx (qJ q hn)];exact q
 frzs:=λb u xs q=>by rw[qx (qJ q hn)];exact q
 tbls:=λb ps x q=>by rw[qx (qJ q hn)];exact q
theorem Un.write (mu:Mut (H x)) (he:e=x\/H e=some (.own x)) (k:∀b u,b≠e->h.get? b=some u->h'.get? b=some u) (heo:∃u,h'.get? e=some u):Un fs ex H (upd H x o) h h':=by
 have hx:∀b,H b=none->b≠x:=λb n z=>by subst z;rw[n]at mu;exact mu
 have hb:∀b,H b=none->b≠e:=λb n z=>by
  subst z
  rcases he with r|r
  ·exact hx b n r
  ·rw[n]at r;cases r
 have hm:∀b u,H b=some u->¬Mut (some u)->b≠x:=λb u q nm z=>by subst z;rw[q]at mu;exact nm mu
 refine ⟨λb u q n _ _=>k b u (hb b n) q,λb u q n _ _=>⟨u.slots,k b u (hb b n) q⟩,λb u q n _=>by rw[qx (hx b n)];exact n,λb u q _=>?_,
  λb xs q=>by rw[qx (hm b _ q λz=>z)];exact q,λb u xs q=>by rw[qx (hm b _ q λz=>z)];exact q,λb ps x q=>by rw[qx (hm b _ q λz=>z)];exact q⟩
 by_cases hbe:b=e
 ·subst hbe;exact heo
 ·exact⟨u,k b u hbe q⟩
end
def trk(h:Heap)(H:Hp):List Addr:=(yag h.objs.size).filter λa=>(H a).isSome
def qlj(h:Heap)(H:Hp):Heap:=PySem.W.hideAll h (trk h H)
theorem qi3(h:Heap)(H:Hp):(qlj h H).objs.size=h.objs.size:=PySem.W.hideAll_size _ _
theorem qlk {h:Heap} {H:Hp} {b:Addr} {o:Obj} (e:h.get? b=some o) (n:H b=none):(qlj h H).get? b=some o :=
 PySem.W.hideAll_get _ e λhm=>by
  have q:(H b).isSome=true:=(List.mem_filter.mp hm).2
  rw[n]at q;simp at q
theorem qn9 {h:Heap} {H:Hp} {b:Addr} {o:Obj} (e:(qlj h H).get? b=some o):h.get? b=some o/\H b=none:=by
 have e':h.get? b=some o:=PySem.W.of_hideAll (trk h H) e
 refine⟨e',?_⟩
 cases q:H b with
 |none=>rfl
 |some x=>
  have hm:b∈trk h H:=List.mem_filter.mpr ⟨mR_.mpr (yae e'),by simp[q]⟩
  have z:(qlj h H).get? b=none:=PySem.W.hideAll_none (trk h H) hm
  rw[z]at e;cases e
end L2
namespace L2
open PySem PySem.Spec PyProof.Rows
structure Mod (K:yas) (mg:Str->Option Value) (base:Heap):Prop where
 kin:K.In base
 glob:base.Ns yad mg
 blt:∃mb,base.Ns ydg mb/\∀x:Str,x≠"__name__"->mb x=yaF x
 nolimit:base.NoLimit
 bm:∃bm ob,mg "__builtins__"=some (.ref bm)/\bm≠ydg/\base.get? bm=some ob/\ob.cls=.type "module"/\ob.dict=some ydg/\ob.data=.plain
structure Cx where
 prog:yar
 w:World
 K:yas
 mg:Str->Option Value
 base:Heap
 A:yau
 N:List Str
 s₀:yab
 H₀:Hp
 env:Env
 outer:List Env
 stack:List Env
 ex:List Addr
 fn:Str->Bool
 calm:Bool
 pn:List (Addr×Obj)
 xe:Value->yab->Prop
def frs(l:List Env):List Addr:=l.filterMap (·.frame)
abbrev Cx.fs(X:Cx):List Addr:=frs X.outer
def Vis(sc:Scope)(x:Str):Prop:=sc.names.lookup x=some .local\/sc.names.lookup x=some .cell\/sc.names.lookup x=some .free
def Loc(sc:Scope)(x:Str):Prop:=sc.names.lookup x=some .local\/sc.names.lookup x=some .cell
def qtz (env:Env) (h:Heap) (m:Str->Option Value) (x:Str) (u:Value):Prop :=
 (env.kindOf x=some .local/\m x=some u)\/((env.kindOf x=some .cell\/env.kindOf x=some .free)/\∃c,env.cells.lookup x=some c/\h.IsCell c (some u))
structure Cx.Ok (X:Cx):Prop where
 mod:Mod X.K X.mg X.base
 kind:X.env.scope.kind=.function
 glob:X.env.globals=yad
 blt:X.env.builtins=ydg
 above:X.s₀.heap.objs.size<=X.env.locals
 inj:∀x y c,X.env.cells.lookup x=some c->X.env.cells.lookup y=some c->x=y
 has:∀x,(X.env.kindOf x=some .cell\/X.env.kindOf x=some .free)->∃c,X.env.cells.lookup x=some c
 cab:∀x c,X.fn x=true->X.env.cells.lookup x=some c->X.s₀.heap.objs.size<=c
 hd:X.calm=true->X.A.handled=none
 frames:X.A.frames=some X.stack
 stk:X.stack=X.outer\/(X.stack=X.env::X.outer/\X.env.frame=some X.env.locals)
 exf:∀b∈X.ex,b≠X.env.locals/\∀x c,X.env.cells.lookup x=some c->c≠b
 bs:∀b o,X.base.get? b=some o->X.s₀.heap.get? b=some o/\X.H₀ b=none
 bsz:X.base.objs.size<=X.s₀.heap.objs.size
 noex:∀b o,X.base.get? b=some o->b ∉ X.ex
 exfs:∀b∈X.ex,b ∉ X.fs
 funs:X.s₀.heap.FunFrames X.base X.outer
 frf:∀b∈X.fs,X.H₀ b=none
structure Inv (X:Cx) (pins:List (Addr×Obj)) (σ:List (Option V)) (H:Hp) (s:yab):Prop where
 ok:X.Ok
 os:s.os=X.s₀.os
 bare:ydh s.gens
 base:Un X.fs X.ex X.H₀ H X.s₀.heap s.heap
 loc:∃m,s.heap.Ns X.env.locals m/\∀(i:Nat)(x:Str)(v:V),X.N[i]? = some x->σ[i]? = some (some v)->Vis X.env.scope x->∃u,uk v u/\qtz X.env s.heap m x u
 cell:∀x c,X.env.cells.lookup x=some c->∃v,s.heap.IsCell c v
 free:H X.env.locals=none
 freeC:∀x c,X.env.cells.lookup x=some c->H c=none
 pin:∀p∈X.pn++pins,s.heap.get? p.1=some p.2/\H p.1=none/\p.1≠X.env.locals/\p.1 ∉ X.fs/\∀v,p.2.data ≠ .cell v
 hok:HOk X.prog X.w H s.heap
 len:σ.length=X.N.length
section
variable{X:Cx}{pins:List (Addr×Obj)}{σ:List (Option V)}{H H':Hp}{s:yab}{h':Heap}
theorem Cx.Ok.nofr (ok:X.Ok) {b:Addr} {o:Obj} (e:X.base.get? b=some o):b ∉ X.fs:=λhb=>by
 have:=(ok.funs.mem hb).1
 rw[e]at this;cases this
theorem Inv.bs (I:Inv X pins σ H s):∀b o,X.base.get? b=some o->s.heap.get? b=some o/\H b=none:=λb o e=>
 ⟨I.base.keep b o (I.ok.bs b o e).1 (I.ok.bs b o e).2 (I.ok.nofr e) (I.ok.noex b o e),I.base.free b o (I.ok.bs b o e).1 (I.ok.bs b o e).2 (I.ok.noex b o e)⟩
theorem Inv.bk(I:Inv X pins σ H s):∀b o,X.base.get? b=some o->s.heap.get? b=some o:=λb o e=>(I.bs b o e).1
theorem Inv.mod(I:Inv X pins σ H s):Mod X.K X.mg X.base:=I.ok.mod
theorem Inv.kIn(I:Inv X pins σ H s):X.K.In s.heap:=I.ok.mod.kin.keeps I.bk
theorem Inv.lt(I:Inv X pins σ H s):X.env.locals<s.heap.objs.size:=let ⟨_,hn,_⟩:=I.loc;hn.lt
theorem Inv.sz(I:Inv X pins σ H s):X.s₀.heap.objs.size<=s.heap.objs.size:=yaP I.ok.above (ycM I.lt)
theorem Inv.nofs (I:Inv X pins σ H s) {a:Addr} (h:s.heap.objs.size<=a):a ∉ X.fs:=λhb=>by
 obtain⟨_,o,ho,_⟩:=I.ok.funs.mem hb
 exact absurd (yaA (yae ho) (yaP I.sz h)) (yaT _)
theorem Inv.cne (I:Inv X pins σ H s):∀x c,X.env.cells.lookup x=some c->c≠X.env.locals:=λx c e z=>by
 obtain⟨v,o,ho,hd⟩:=I.cell x c e
 obtain⟨m,⟨o',es,ep,ho',hd',_⟩,_⟩:=I.loc
 rw[z,ho']at ho;cases ho;rw[hd']at hd;cases hd
theorem Inv.funs (I:Inv X pins σ H s):s.heap.FunFrames X.base X.outer:=by
 have all:∀(l:List Env),(∀b∈frs l,b∈X.fs)->X.s₀.heap.FunFrames X.base l->s.heap.FunFrames X.base l:=by
  intro l
  induction l with
  |nil=>intro _ _;trivial
  |cons env r ih=>
   intro hs hl
   obtain⟨hk,⟨L,o,hf,hn,ho,hd⟩,hr⟩:=hl
   have hL:L∈X.fs:=hs L (by unfold frs;rw[yc3,hf];exact mS_)
   obtain⟨sl,e⟩:=I.base.slot L o ho (I.ok.frf L hL) hL λz=>I.ok.exfs L z hL
   exact⟨hk,⟨L,_,hf,hn,e,hd⟩,ih (λb hb=>hs b (by unfold frs;rw[yc3,hf];exact mM _ hb)) hr⟩
 exact all X.outer (λ_ hb=>hb) I.ok.funs
theorem Inv.stack (I:Inv X pins σ H s):s.heap.FunFrames X.base X.stack:=by
 rcases I.ok.stk with e|⟨e,hf⟩
 ·rw[e];exact I.funs
 ·rw[e]
  obtain⟨m,hn,_⟩:=I.loc
  refine .cons (by rw[I.ok.kind];decide) hf hn ?_ I.funs
  exact Heap.get?_none_of_le (yaP I.ok.bsz I.ok.above)
theorem Inv.stkSub (I:Inv X pins σ H s):∀b∈frs X.stack,b∈X.env.locals::X.fs:=λb hb=>by
 rcases I.ok.stk with e|⟨e,hf⟩
 ·rw[e]at hb;exact mM _ hb
 ·rw[e]at hb
  unfold frs at hb
  rw[yc3,hf]at hb
  exact hb
theorem Inv.stkFree (I:Inv X pins σ H s):∀b∈frs X.stack,H b=none:=λb hb=>by
 rcases List.mem_cons.mp (I.stkSub b hb)with e|hb
 ·rw[e];exact I.free
 ·obtain⟨_,o,ho,_⟩:=I.ok.funs.mem hb
  exact I.base.free b o ho (I.ok.frf b hb) λz=>I.ok.exfs b z hb
theorem Inv.step {g':Array yfI} {t':Nat} {d':Drawn} {ch:List Addr} (I:Inv X pins σ H s)
  (hch:∀b∈ch,(b∈X.ex\/X.s₀.heap.objs.size<=b)/\b≠X.env.locals/\(∀x c,X.env.cells.lookup x=some c->c≠b)/\∀p∈X.pn++pins,p.1≠b)
  (keep:∀b o,b≠X.env.locals->b ∉ X.fs->b ∉ ch->s.heap.get? b=some o->H b=none->h'.get? b=some o)
  (slot:∀b o,b≠X.env.locals->b∈X.fs->b ∉ ch->s.heap.get? b=some o->H b=none->∃sl,h'.get? b=some {o with slots:=sl}) (free:∀b o,b ∉ ch->s.heap.get? b=some o->H b=none->H' b=none)
  (there:∀b o,b ∉ ch->s.heap.get? b=some o->∃o',h'.get? b=some o')
  (tups:∀b xs,H b=some (.tup xs)->H' b=some (.tup xs)) (frzs:∀b o u,H b=some (.frz o u)->H' b=some (.frz o u)) (tbls:∀b pos q,H b=some (.lam pos q)->H' b=some (.lam pos q))
  (ns:∀m,s.heap.Ns X.env.locals m->h'.Ns X.env.locals m) (hok:HOk X.prog X.w H' h') (hg:ydh g') :
  Inv X pins σ H' {s with heap:=h',gens:=g',drawn:=d',toks:=t' }:=by
 have neL:∀b o,X.s₀.heap.get? b=some o->b≠X.env.locals:=λb o e=>yao (yaA (yae e) I.ok.above)
 have neC:∀b o,X.s₀.heap.get? b=some o->b ∉ X.ex->b ∉ ch:=λb o e hx hb=>by
  rcases(hch b hb).1 with z|z
  ·exact hx z
  ·exact absurd (yaA (yae e) z) (yaT _)
 have cellK:∀x c,X.env.cells.lookup x=some c->∀v,s.heap.IsCell c v->h'.IsCell c v:=λx c e v ⟨o,ho,hd⟩=>by
  have nch:c ∉ ch:=λz=>(hch c z).2.2.1 x c e rfl
  by_cases hc:c∈X.fs
  ·obtain⟨sl,q⟩:=slot c o (I.cne x c e) hc nch ho (I.freeC x c e)
   exact⟨_,q,hd⟩
  ·exact⟨o,keep c o (I.cne x c e) hc nch ho (I.freeC x c e),hd⟩
 refine⟨I.ok,I.os,hg,⟨λb o e n hb hx=>?_,λb o e n hb hx=>?_,λb o e n hx=>?_,λb o e hx=>?_,λb xs e=>tups b xs (I.base.tups b xs e),λb o xs e=>frzs b o xs (I.base.frzs b o xs e),λb ps x e=>tbls b ps x (I.base.tbls b ps x e)⟩,?_,λx c e=>?_,?_,λx c e=>?_,λp hp=>?_,hok,I.len⟩
 ·exact keep b o (neL b o e) hb (neC b o e hx) (I.base.keep b o e n hb hx) (I.base.free b o e n hx)
 ·obtain⟨sl,e1⟩:=I.base.slot b o e n hb hx
  obtain⟨sl',e2⟩:=slot b _ (neL b o e) hb (neC b o e hx) e1 (I.base.free b o e n hx)
  exact⟨sl',e2⟩
 ·obtain⟨o',e1⟩:=I.base.there b o e hx
  exact free b o' (neC b o e hx) e1 (I.base.free b o e n hx)
 ·obtain⟨o',e1⟩:=I.base.there b o e hx
  exact there b o' (neC b o e hx) e1
 ·obtain⟨m,hn,hl⟩:=I.loc
  refine⟨m,ns m hn,λi x v e1 e2 e3=>?_⟩
  obtain⟨u,r,l⟩:=hl i x v e1 e2 e3
  refine⟨u,r,?_⟩
  rcases l with l|⟨k,c,e,z⟩
  ·exact .inl l
  ·exact .inr ⟨k,c,e,cellK x c e _ z⟩
 ·obtain⟨v,z⟩:=I.cell x c e
  exact⟨v,cellK x c e v z⟩
 ·obtain⟨m,⟨o,_,_,ho,_⟩,_⟩:=I.loc
  exact free _ o (λz=>(hch _ z).2.1 rfl) ho I.free
 ·obtain⟨v,o,ho,hd⟩:=I.cell x c e
  exact free c o (λz=>(hch c z).2.2.1 x c e rfl) ho (I.freeC x c e)
 ·obtain⟨e,n,ne,nf,d⟩:=I.pin p hp
  have nch:p.1 ∉ ch:=λz=>(hch p.1 z).2.2.2 p hp rfl
  exact⟨keep p.1 p.2 ne nf nch e n,free p.1 p.2 nch e n,ne,nf,d⟩
theorem Inv.un {t':Nat} (I:Inv X pins σ H s) (u:Un X.fs [] H H' s.heap h') (hok:HOk X.prog X.w H' h'):Inv X pins σ H' {s with heap:=h',toks:=t' }:=by
 obtain⟨m,⟨o,es,ep,ho,r⟩,_⟩:=id I.loc
 obtain⟨sl,hL⟩:=u.any ho I.free (by simp)
 exact I.step (g':=s.gens) (d':=s.drawn) (ch:=[]) (λ_ z=>nomatch z) (λb o _ hb _ e n=>u.keep b o e n hb (by simp)) (λb o _ hb _ e n=>u.slot b o e n hb (by simp)) (λb o _ e n=>u.free b o e n (by simp)) (λb o _ e=>u.there b o e (by simp)) u.tups u.frzs u.tbls (λm' hm=>by
  obtain⟨o',es',ep',ho',r'⟩:=hm
  rw[ho]at ho';cases ho'
  exact⟨_,es',ep',hL,r'⟩) hok I.bare
theorem Inv.call {g':Array yfI} {t':Nat} {d':Drawn} {ch:List Addr} (I:Inv X pins σ H s) (u:Un (frs X.stack) ch H H' s.heap h') (hok:HOk X.prog X.w H' h') (hg:ydh g')
  (hch:∀b∈ch,(b∈X.ex\/X.s₀.heap.objs.size<=b)/\b≠X.env.locals/\(∀x c,X.env.cells.lookup x=some c->c≠b)/\∀p∈X.pn++pins,p.1≠b) :
  Inv X pins σ H' {s with heap:=h',gens:=g',drawn:=d',toks:=t' }:=by
 obtain⟨m,⟨o,es,ep,ho,r⟩,_⟩:=id I.loc
 obtain⟨sl,hL⟩:=u.any ho I.free λz=>(hch _ z).2.1 rfl
 exact I.step (ch:=ch) hch (λb o hL hb hc e n=>u.keep b o e n (λz=>(List.mem_cons.mp (I.stkSub b z)).elim hL hb) hc) (λb o _ _ hc e n=>u.any e n hc) (λb o hc e n=>u.free b o e n hc) (λb o hc e=>u.there b o e hc) u.tups u.frzs u.tbls (λm' hm=>by
  obtain⟨o',es',ep',ho',r'⟩:=hm
  rw[ho]at ho';cases ho'
  exact⟨_,es',ep',hL,r'⟩) hok hg
theorem Inv.turned {t':Nat} {it:Addr} (I:Inv X pins σ H s) (k:∀b o,b≠it->s.heap.get? b=some o->h'.get? b=some o) (hn:H it=none) (hL:it≠X.env.locals)
  (h1:it∈X.ex\/X.s₀.heap.objs.size<=it) (h2:∀x c,X.env.cells.lookup x=some c->c≠it) (h3:∀p∈X.pn++pins,p.1≠it):Inv X pins σ H {s with heap:=h',toks:=t' }:=by
 have nit:∀b u,H b=some u->b≠it:=λb u e z=>by rw[z,hn]at e;cases e
 refine I.step (g':=s.gens) (d':=s.drawn) (ch:=[it]) (λb hb=>?_) (λb o _ _ hc e _=>k b o (λz=>hc (by simp[z])) e) (λb o _ _ hc e _=>⟨o.slots,k b o (λz=>hc (by simp[z])) e⟩) (λ_ _ _ _ n=>n)
  (λb o hc e=>⟨o,k b o (λz=>hc (by simp[z])) e⟩) (λ_ _ e=>e) (λ_ _ _ e=>e) (λ_ _ _ e=>e) (λm hm=>?_) (λb u e=>?_) I.bare
 ·have e:b=it:=by simpa using hb
  subst e
  exact⟨h1,hL,h2,h3⟩
 ·obtain⟨o,es,ep,ho,r⟩:=hm
  exact⟨o,es,ep,k _ o (ybs hL) ho,r⟩
 ·refine(I.hok b u e).stay (λc v hc q=>k c v ?_ q) (λ_ q=>q) λ_ _ q=>q
  rcases hc with z|z
  ·rw[z];exact nit b u e
  ·exact nit c _ z
theorem Inv.tok(I:Inv X pins σ H s)(t:Nat):Inv X pins σ H {s with toks:=t}:=I.un (h':=s.heap) (t':=t) Un.refl I.hok
theorem Inv.kept{t':Nat}(I:Inv X pins σ H s)(k:∀b u,s.heap.get? b=some u->h'.get? b=some u):Inv X pins σ H {s with heap:=h',toks:=t' }:=I.un (Un.kept k) (I.hok.kept k)
theorem Inv.laid {a:Addr} {o:HO} {t':Nat} (I:Inv X pins σ H s) (k:∀b u,s.heap.get? b=some u->h'.get? b=some u) (hp:s.heap.objs.size<=a) (new:u7 X.prog X.w (upd H a o) h' a o) :
  Inv X pins σ (upd H a o) {s with heap:=h',toks:=t' }:=I.un (Un.laid k hp (I.hok.fresh hp)) (I.hok.laid k hp new)
theorem Inv.write {x e:Addr} {o:HO} {t':Nat} (I:Inv X pins σ H s) (mu:Mut (H x)) (he:e=x\/H e=some (.own x)) (k:∀b u,b≠e->s.heap.get? b=some u->h'.get? b=some u) (heo:∃u,h'.get? e=some u)
  (new:u7 X.prog X.w (upd H x o) h' x o):Inv X pins σ (upd H x o) {s with heap:=h',toks:=t' }:=I.un (Un.write mu he k heo) (I.hok.write mu he k heo new)
theorem Inv.pins_of {pins':List (Addr×Obj)} (I:Inv X pins σ H s) (h:∀p∈pins',s.heap.get? p.1=some p.2/\H p.1=none/\p.1≠X.env.locals/\p.1 ∉ X.fs/\∀v,p.2.data ≠ .cell v):Inv X pins' σ H s :=
 ⟨I.ok,I.os,I.bare,I.base,I.loc,I.cell,I.free,I.freeC,λp hp=>(mA_.mp hp).elim (λz=>I.pin p (ycm _ z)) (h p),I.hok,I.len⟩
theorem qhd {N:List Str} (hN:N.Nodup) {i j:Nat} {x:Str} (a:N[i]? = some x) (b:N[j]? = some x):i=j:=by
 obtain⟨h1,e1⟩:=gI_.mp a
 obtain⟨h2,e2⟩:=gI_.mp b
 exact(List.getElem_inj hN).mp (e1.trans e2.symm)
theorem qe6 {M:Model} {A:yau} {E:Value->yab->Prop} {i:Nat} {x:Str} {v:V} {u:Value} {Q:Unit->yab->Prop} (I:Inv X pins σ H s) (hN:X.N.Nodup) (hi:X.N[i]? = some x) (hx:Loc X.env.scope x) (r:uk v u)
  (h:∀s',Inv X pins (σ.set i (some v)) H s'->(∃a,ybK a s.heap s'.heap/\(a=X.env.locals\/X.env.cells.lookup x=some a))->Q () s') (hf:X.fn x=true\/X.env.scope.names.lookup x=some .local:=by first|exact .inl rfl|exact .inr rfl|assumption):wpAny M A (storeName X.env x u) Q E s:=by
 obtain⟨m,hn,hl⟩:=id I.loc
 have hcls:(X.env.scope.kind == .class||(X.env.scope.kind == .module&&X.env.locals != X.env.globals))=false:=by rw[I.ok.kind];rfl
 have hiσ:i<σ.length:=by rw[I.len];exact(gI_.mp hi).1
 have cne:=I.cne
 have tracked:∀{a:Addr}{h':Heap},(∃o,s.heap.get? a=some o/\H a=none)->ybK a s.heap h'->HOk X.prog X.w H h':=λ{a h'} ha hs b ob e=>by
  obtain⟨_,_,hfree⟩:=ha
  refine(I.hok b ob e).stay (λc w' hc q=>(hs.2 c ?_).trans q) (λ_ q=>q) λ_ _ q=>q
  rintro rfl
  rcases hc with rfl|hc
  ·rw[hfree]at e;cases e
  ·rw[hfree]at hc;cases hc
 rcases hx with hk|hk
 ·refine wpAny_storeName_local hk hn (λh' hn' hs=>?_) hcls
  obtain⟨oL,_,_,hoL,_⟩:=id hn
  refine h _ ⟨I.ok,I.os,I.bare,⟨λb o e n hb hx=>?_,λb o e n hb hx=>?_,I.base.free,λb o e hx=>?_,I.base.tups,I.base.frzs,I.base.tbls⟩,⟨_,hn',λj y v' e1 e2 e3=>?_⟩,λy c e=>?_,I.free,I.freeC,λp hp=>?_,tracked ⟨oL,hoL,I.free⟩ hs,by simpa using I.len⟩ ⟨_,hs,.inl rfl⟩
  ·exact(hs.2 b (yao (yaA (yae e) I.ok.above))).trans (I.base.keep b o e n hb hx)
  ·obtain⟨sl,e1⟩:=I.base.slot b o e n hb hx
   exact⟨sl,(hs.2 b (yao (yaA (yae e) I.ok.above))).trans e1⟩
  ·obtain⟨o',e1⟩:=I.base.there b o e hx
   exact⟨o',(hs.2 b (yao (yaA (yae e) I.ok.above))).trans e1⟩
  ·by_cases hj:j=i
   ·subst hj
    rw[hi]at e1;cases e1
    rw[List.getElem?_set_self hiσ]at e2
    cases e2
    exact⟨u,r,.inl ⟨hk,by simp⟩⟩
   ·rw [List.getElem?_set_ne (ybs hj)]at e2
    obtain⟨u',r',q⟩:=hl j y v' e1 e2 e3
    refine⟨u',r',?_⟩
    rcases q with⟨k,e⟩|⟨k,c,e,z⟩
    ·refine .inl ⟨k,?_⟩
     have:y≠x:=λe=>hj (qhd hN e1 (e▸hi))
     simp[this,e]
    ·exact .inr ⟨k,c,e,z.sameBut hs (cne y c e)⟩
  ·obtain⟨w',z⟩:=I.cell y c e
   exact⟨w',z.sameBut hs (cne y c e)⟩
  ·obtain⟨e,n,ne,nf,d⟩:=I.pin p hp
   exact⟨(hs.2 p.1 ne).trans e,n,ne,nf,d⟩
 ·have hfn:X.fn x=true:=by
   rcases hf with z|z
   ·exact z
   ·rw[z]at hk;cases hk
  obtain⟨c,hc⟩:=I.ok.has x (.inl hk)
  obtain⟨w',z⟩:=I.cell x c hc
  refine wpAny_storeName_cell I.ok.kind hk hc z (λh' hc' hs=>?_)
  obtain⟨oc,hoc,hocd⟩:=id z
  refine h {s with heap:=h' } ⟨I.ok,I.os,I.bare,⟨λb o e n hb hx=>?_,λb o e n hb hx=>?_,I.base.free,λb o e hx=>?_,I.base.tups,I.base.frzs,I.base.tbls⟩,⟨m,hn.sameBut hs (ybs (cne x c hc)),λj y v' e1 e2 e3=>?_⟩,λy c' e=>?_,I.free,I.freeC,λp hp=>?_,tracked ⟨oc,hoc,I.freeC x c hc⟩ hs,by simpa using I.len⟩ ⟨c,hs,.inr hc⟩
  ·exact(hs.2 b (yao (yaA (yae e) (I.ok.cab x c hfn hc)))).trans (I.base.keep b o e n hb hx)
  ·obtain⟨sl,e1⟩:=I.base.slot b o e n hb hx
   exact⟨sl,(hs.2 b (yao (yaA (yae e) (I.ok.cab x c hfn hc)))).trans e1⟩
  ·obtain⟨o',e1⟩:=I.base.there b o e hx
   exact⟨o',(hs.2 b (yao (yaA (yae e) (I.ok.cab x c hfn hc)))).trans e1⟩
  ·by_cases hj:j=i
   ·subst hj
    rw[hi]at e1;cases e1
    rw[List.getElem?_set_self hiσ]at e2
    cases e2
    exact⟨u,r,.inr ⟨.inl hk,c,hc,hc'⟩⟩
   ·rw [List.getElem?_set_ne (ybs hj)]at e2
    obtain⟨u',r',q⟩:=hl j y v' e1 e2 e3
    refine⟨u',r',?_⟩
    rcases q with q|⟨k,c',e,z'⟩
    ·exact .inl q
    ·refine .inr ⟨k,c',e,z'.sameBut hs ?_⟩
     rintro rfl
     exact hj (qhd hN e1 (I.ok.inj _ _ _ e hc▸hi))
  ·by_cases hcc:c'=c
   ·subst hcc;exact⟨_,hc'⟩
   ·obtain⟨w2,z2⟩:=I.cell y c' e
    exact⟨w2,z2.sameBut hs hcc⟩
  ·obtain⟨e,n,ne,nf,d⟩:=I.pin p hp
   refine⟨(hs.2 p.1 ?_).trans e,n,ne,nf,d⟩
   intro q
   rw[q,hoc]at e
   have q':oc=p.2:=yaw e
   exact d w' (by rw[<-q'];exact hocd)
theorem qcn {M:Model} {A:yau} {E:Value->yab->Prop} {i:Nat} {x:Str} {v:V} {u:Value} {Q:Unit->yab->Prop} (I:Inv X pins σ H s) (hN:X.N.Nodup) (hi:X.N[i]? = some x) (hx:Loc X.env.scope x) (r:uk v u)
  (h:∀s',Inv X pins (σ.set i (some v)) H s'->Q () s') (hf:X.fn x=true\/X.env.scope.names.lookup x=some .local:=by first|exact .inl rfl|exact .inr rfl|assumption):wpAny M A (storeName X.env x u) Q E s :=
 qe6 I hN hi hx r (λs' I' _=>h s' I') hf
theorem Inv.call' {s':yab} {ch:List Addr} (I:Inv X pins σ H s) (ho:s'.os=s.os) (u:Un (frs X.stack) ch H H' s.heap s'.heap) (hok:HOk X.prog X.w H' s'.heap) (hg:ydh s'.gens)
  (hch:∀b∈ch,(b∈X.ex\/X.s₀.heap.objs.size<=b)/\b≠X.env.locals/\(∀x c,X.env.cells.lookup x=some c->c≠b)/\∀p∈X.pn++pins,p.1≠b):Inv X pins σ H' s':=by
 obtain⟨h',g',d',t',o'⟩:=s'
 have e:o'=s.os:=ho
 subst e
 exact I.call (g':=g') (t':=t') (d':=d') u hok hg hch
end
abbrev XK:=Value->Option Addr->Hp->Prop
abbrev St:=List (Option V)
abbrev VK:=V->Hp->Prop
abbrev TE:=St->Hp->VK->Prop
abbrev TT:=St->Hp->(Bool->Hp->Prop)->Prop
abbrev TA:=St->Hp->(List V->Hp->Prop)->Prop
structure qlc where
 nx:St->Hp->Prop
 rt:VK
 bk:St->Hp->Prop:=λ_ _=>False
 ct:St->Hp->Prop:=λ_ _=>False
abbrev TS:=qlc->St->Hp->Prop
def EP(X:Cx)(pins:List (Addr×Obj))(σ:St)(Q:VK)(u:Value)(s':yab):Prop:=∃v H',Inv X pins σ H' s'/\uk v u/\Q v H'
def TP(X:Cx)(pins:List (Addr×Obj))(σ:St)(Q:Bool->Hp->Prop)(b:Bool)(s':yab):Prop:=∃H',Inv X pins σ H' s'/\Q b H'
def AP(X:Cx)(pins:List (Addr×Obj))(σ:St)(Q:List V->Hp->Prop)(us:List Value)(s':yab):Prop:=∃vs H',Inv X pins σ H' s'/\zT vs us/\Q vs H'
def SP (X:Cx) (pins:List (Addr×Obj)) (D:qlc) (f:Flow) (s':yab):Prop :=
 match f with
 |.next=>∃σ' H',Inv X pins σ' H' s'/\D.nx σ' H'
 |.brk=>∃σ' H',Inv X pins σ' H' s'/\D.bk σ' H'
 |.cont=>∃σ' H',Inv X pins σ' H' s'/\D.ct σ' H'
 |.ret u=>∃v σ' H',Inv X pins σ' H' s'/\uk v u/\D.rt v H'
def PE (X:Cx) (e:Expr) (t:TE):Prop :=
 ∀(pins:List (Addr×Obj))(s:yab)(σ:St)(H:Hp)(Q:VK),Inv X pins σ H s->t σ H Q->wpAny (model X.prog X.w) X.A (eval e X.env) (EP X pins σ Q) X.xe s
def PT (X:Cx) (e:Expr) (t:TT):Prop :=
 ∀(pins:List (Addr×Obj))(s:yab)(σ:St)(H:Hp)(Q:Bool->Hp->Prop),Inv X pins σ H s->t σ H Q->wpAny (model X.prog X.w) X.A (isTrue e X.env (eval e X.env)) (TP X pins σ Q) X.xe s
def PW (X:Cx) (e:Expr) (t:TT):Prop :=
 ∀(whole:Sem Value)(pins:List (Addr×Obj))(s:yab)(σ:St)(H:Hp)(Q:Bool->Hp->Prop),Inv X pins σ H s->t σ H Q->wpAny (model X.prog X.w) X.A (isTrue e X.env whole) (TP X pins σ Q) X.xe s
theorem PW.pt{X:Cx}{e:Expr}{t:TT}(h:PW X e t):PT X e t:=h _
def PA (X:Cx) (es:List Expr) (t:TA):Prop :=
 ∀(pos:Pos)(pins:List (Addr×Obj))(s:yab)(σ:St)(H:Hp)(Q:List V->Hp->Prop),Inv X pins σ H s->t σ H Q->wpAny (model X.prog X.w) X.A (spliced (ybb pos (yam es X.env))) (AP X pins σ Q) X.xe s
def PS (X:Cx) (st:Stmt) (t:TS):Prop :=
 ∀(pins:List (Addr×Obj))(s:yab)(σ:St)(H:Hp)(D:qlc),Inv X pins σ H s->t D σ H->wpAny (model X.prog X.w) X.A (exec st X.env) (SP X pins D) X.xe s
def PSs (X:Cx) (st:List Stmt) (t:TS):Prop :=
 ∀(pins:List (Addr×Obj))(s:yab)(σ:St)(H:Hp)(D:qlc),Inv X pins σ H s->t D σ H->wpAny (model X.prog X.w) X.A (execs st X.env) (SP X pins D) X.xe s
theorem thn{α:Type}{t:Sem α}{Q Q':α->yab->Prop}{M:Model}{A:yau}{E:Value->yab->Prop}{s:yab}(h:wpAny M A t Q E s)(hQ:∀a s,Q a s->Q' a s):wpAny M A t Q' E s:=ycC h hQ λ_ _ x=>x
end L2
namespace L2
open PySem PySem.Spec PyProof.Rows
section
variable{X:Cx}
theorem bin {a b:Expr} {ta tb:TE} (ha:PE X a ta) (hb:PE X b tb) {pins:List (Addr×Obj)} {s:yab} {σ:St} {H:Hp} {R:V->V->Hp->Prop} (I:Inv X pins σ H s) (h:ta σ H λx H1=>tb σ H1 λy H2=>R x y H2)
  {α:Type} {Q:α->yab->Prop} {f:Value->Value->Sem α}
  (hf:∀v u s2 x y H2,Inv X pins σ H2 s2->uk x v->uk y u->R x y H2->wpAny (model X.prog X.w) X.A (f v u) Q X.xe s2) :
  wpAny (model X.prog X.w) X.A (eval a X.env) (λv sV=>wpAny (model X.prog X.w) X.A (eval b X.env) (λu sJ=>wpAny (model X.prog X.w) X.A (f v u) Q X.xe sJ) X.xe sV) X.xe s:=by
 refine thn (ha pins s σ H _ I h) λv s1 ⟨x,H1,I1,r1,q1⟩=>?_
 refine thn (hb pins s1 σ H1 _ I1 q1) λu s2 ⟨y,H2,I2,r2,q2⟩=>?_
 exact hf v u s2 x y H2 I2 r1 r2 q2
def qtA(i:Nat):TE:=λσ H Q=>∃v,σ[i]? = some (some v)/\Q v H
def tC(v:V):TE:=λ_ H Q=>Q v H
theorem qb7 {i:Nat} {x:Str} {pos:Pos} (hN:X.N[i]? = some x) (hv:Vis X.env.scope x) (hd:(x==("__debug__":Str))=false:=by decide) (hcd:(x==("__classdict__":Str))=false:=by decide):PE X (.Name x pos) (qtA i):=by
 intro pins s σ H Q I h
 obtain⟨v,e,h⟩:=h
 obtain⟨m,hn,hl⟩:=I.loc
 obtain⟨u,r,l⟩:=hl i x v hN e hv
 have fin:EP X pins σ Q u s:=⟨v,H,I,r,h⟩
 rcases l with⟨hk,hm⟩|⟨hk,c,hc,hcell⟩
 ·exact ygQ (wpAny_loadName_local I.ok.kind hk hn hm fin) hd
 ·rcases hk with hk|hk
  ·exact ygQ (wpAny_loadName_cell I.ok.kind hk hc hcell fin) hd
  ·exact ygQ (wpAny_loadName_free I.ok.kind hk hc hcell fin hcd) hd
theorem qng{i j pos}:PE X (.Constant (.int i) j pos) (tC (.int i)):=λ_ _ _ H _ I h=>wpAny_Constant_int ⟨.int i,H,I.tok _,⟨_,rfl⟩,h⟩
theorem qsg{b j pos}:PE X (.Constant (.bool b) j pos) (tC (.bl b)):=λ_ _ _ H _ I h=>Constant_bool ⟨.bl b,H,I,rfl,h⟩
theorem qp8{j pos}:PE X (.Constant .none j pos) (tC .non):=λ_ _ _ H _ I h=>Constant_none ⟨.non,H,I,rfl,h⟩
theorem qp9{x j pos}:PE X (.Constant (.str x) j pos) (tC (.str x)):=λ_ _ _ H _ I h=>Calls.Constant_str ⟨.str x,H,I.tok _,⟨_,rfl⟩,h⟩
def Gl(X:Cx)(x:Str):Prop:=X.env.kindOf x=some .globalImplicit
theorem qi4 {E:Value->yab->Prop} {pins:List (Addr×Obj)} {s:yab} {σ:St} {H:Hp} {x:Str} {u:Value} {pos:Pos} {Q:Value->yab->Prop} (I:Inv X pins σ H s) (hg:Gl X x) (hm:X.mg x=some u) (h:Q u s)
  (hd:(x==("__debug__":Str))=false:=by decide):wpAny (model X.prog X.w) X.A (eval (.Name x pos) X.env) Q E s :=
 yeo I.ok.kind hg (Calls.loadGlobal_global (by rw[I.ok.glob];exact I.mod.glob.keeps I.bk) hm h) hd
theorem wT {E:Value->yab->Prop} {pins:List (Addr×Obj)} {s:yab} {σ:St} {H:Hp} {x:Str} {u:Value} {pos:Pos} {Q:Value->yab->Prop} (I:Inv X pins σ H s) (hg:Gl X x) (hm:X.mg x=none) (hv:yaF x=some u) (h:Q u s)
  (hn:x≠"__name__":=by decide) (hd:(x==("__debug__":Str))=false:=by decide):wpAny (model X.prog X.w) X.A (eval (.Name x pos) X.env) Q E s:=by
 obtain⟨mb,h1,h2⟩:=I.mod.blt
 exact yeo I.ok.kind hg (Calls.loadGlobal_builtin (by rw[I.ok.glob];exact I.mod.glob.keeps I.bk) hm (by rw[I.ok.blt];exact h1.keeps I.bk) ((h2 x hn).trans hv) h) hd
theorem qoa {x:Str} {v:V} {u:Value} {pos:Pos} (hg:Gl X x) (hm:X.mg x=some u) (r:uk v u) (hd:(x==("__debug__":Str))=false:=by decide):PE X (.Name x pos) (tC v) :=
 λ_ _ _ H _ I h=>qi4 I hg hm ⟨v,H,I,r,h⟩ hd
theorem qob {x:Str} {v:V} {u:Value} {pos:Pos} (hg:Gl X x) (hm:X.mg x=none) (hv:yaF x=some u) (r:uk v u) (hn:x≠"__name__":=by decide) (hd:(x==("__debug__":Str))=false:=by decide):PE X (.Name x pos) (tC v) :=
 λ_ _ _ H _ I h=>wT I hg hm hv ⟨v,H,I,r,h⟩ hn hd
variable{a b:Expr}{ta tb:TE}{pos:Pos}
def PC (X:Cx) (op:CmpOp) (a b:Expr) (t:TE):Prop :=
 ∀ (pins:List (Addr×Obj)) (s:yab) (σ:St) (H:Hp) (Q:VK),Inv X pins σ H s->t σ H Q ->
  wpAny (model X.prog X.w) X.A (eval a X.env) (λv sV=>wpAny (model X.prog X.w) X.A (eval b X.env) (λu sJ=>wpAny (model X.prog X.w) X.A (yaL op v u) (EP X pins σ Q) X.xe sJ) X.xe sV) X.xe s
def tB(t:TE):TT:=λσ H Q=>t σ H λx H1=>∃c,x=.bl c/\Q c H1
theorem qtb {op:CmpOp} {t:TE} (h:PC X op a b t) (h1:ycA op b=false:=by first|exact nobehind _ (by decide) (by decide)|rfl):PT X (.Compare a [op] [b] pos) (tB t):=by
 intro pins s σ H Q I hw
 refine yfv (thn (h pins s σ H _ I hw) λv s1 h1=>thn h1 λu s2 h2=>thn h2 λc s3 ⟨x,H1,I1,r1,q1⟩=>?_) h1
 obtain⟨d,rfl,q⟩:=q1
 cases r1
 exact yaU ⟨H1,I1,q⟩
theorem qqa {e:Expr} {t:TE} (h:PE X e t) (he:∀whole,isTrue e X.env whole=(do let v <-whole;ygp e.pos;ydJ [v] (truthy v)):=by intro _;rfl):PT X e (tB t):=by
 intro pins s σ H Q I hw
 refine isTrue_plain (thn (h pins s σ H _ I hw) λv s1 ⟨x,H1,I1,r1,q1⟩=>?_) (he _)
 obtain⟨d,rfl,q⟩:=q1
 cases r1
 exact yaU ⟨H1,I1,q⟩
variable{tA tB':TT}{rest:List Expr}
def qtB(t u:TT):TT:=λσ H Q=>t σ H λc H1=>if c=true then u σ H1 Q else Q false H1
def tOr(t u:TT):TT:=λσ H Q=>t σ H λc H1=>if c=true then Q true H1 else u σ H1 Q
def qtC(t:TT):TT:=λσ H Q=>t σ H λc H1=>Q (!c) H1
theorem qoc (ha:PT X a tA):PW X (.BoolOp .And [a] pos) tA:=by
 intro wh pins s σ H Q I h
 refine isTrue_and (thn (ha pins s σ H Q I h) λc s1 e=>?_)
 cases c with
 |true=>exact isTrue_and_nil e
 |false=>exact e
theorem qqb (ha:PT X a tA):PW X (.BoolOp .Or [a] pos) tA:=by
 intro wh pins s σ H Q I h
 refine isTrue_or (thn (ha pins s σ H Q I h) λc s1 e=>?_)
 cases c with
 |false=>exact isTrue_or_nil e
 |true=>exact e
theorem qqc (ha:PT X a tA) (hb:PW X (.BoolOp .And (b::rest) pos) tB'):PW X (.BoolOp .And (a::b::rest) pos) (qtB tA tB'):=by
 intro wh pins s σ H Q I h
 refine isTrue_and (thn (ha pins s σ H _ I h) λc s1 ⟨H1,I1,q1⟩=>?_)
 cases c with
 |true=>exact hb wh pins s1 σ H1 Q I1 q1
 |false=>exact⟨H1,I1,q1⟩
theorem qsh (ha:PT X a tA) (hb:PW X (.BoolOp .Or (b::rest) pos) tB'):PW X (.BoolOp .Or (a::b::rest) pos) (tOr tA tB'):=by
 intro wh pins s σ H Q I h
 refine isTrue_or (thn (ha pins s σ H _ I h) λc s1 ⟨H1,I1,q1⟩=>?_)
 cases c with
 |true=>exact⟨H1,I1,q1⟩
 |false=>exact hb wh pins s1 σ H1 Q I1 q1
theorem qqd (ha:PT X a tA):PT X (.UnaryOp .Not a pos) (qtC tA):=by
 intro pins s σ H Q I h
 exact isTrue_not (ha pins s σ H (λc H1=>Q (!c) H1) I h)
def qsi(ta tb:TE):TE:=λσ H Q=>ta σ H λx H1=>∃c,x=.bl c/\if c=true then tb σ H1 Q else Q (.bl false) H1
def qtD(ta tb:TE):TE:=λσ H Q=>ta σ H λx H1=>∃c,x=.bl c/\if c=true then Q (.bl true) H1 else tb σ H1 Q
def qsj(ta:TE):TE:=λσ H Q=>ta σ H λx H1=>∃c,x=.bl c/\Q (.bl (!c)) H1
theorem qqe{op}{t:TE}(h:PE X a t):PE X (.BoolOp op [a] pos) t:=λpins s σ H Q I hw=>BoolOp_one (h pins s σ H Q I hw)
theorem qqf (ha:PE X a ta) (hb:PE X (.BoolOp .And (b::rest) pos) tb):PE X (.BoolOp .And (a::b::rest) pos) (qsi ta tb):=by
 intro pins s σ H Q I h
 refine BoolOp_and (thn (ha pins s σ H _ I h) λv s1 ⟨x,H1,I1,r1,q1⟩=>?_)
 obtain⟨c,rfl,q1⟩:=q1
 cases r1
 refine yaU ?_
 cases c with
 |true=>exact hb pins s1 σ H1 Q I1 q1
 |false=>exact⟨.bl false,H1,I1,rfl,q1⟩
theorem qsk (ha:PE X a ta) (hb:PE X (.BoolOp .Or (b::rest) pos) tb):PE X (.BoolOp .Or (a::b::rest) pos) (qtD ta tb):=by
 intro pins s σ H Q I h
 refine BoolOp_or (thn (ha pins s σ H _ I h) λv s1 ⟨x,H1,I1,r1,q1⟩=>?_)
 obtain⟨c,rfl,q1⟩:=q1
 cases r1
 refine yaU ?_
 cases c with
 |false=>exact hb pins s1 σ H1 Q I1 q1
 |true=>exact⟨.bl true,H1,I1,rfl,q1⟩
theorem qqg (ha:PE X a ta):PE X (.UnaryOp .Not a pos) (qsj ta):=by
 intro pins s σ H Q I h
 refine UnaryOp_ (thn (ha pins s σ H _ I h) λv s1 ⟨x,H1,I1,r1,q1⟩=>?_)
 obtain⟨c,rfl,q1⟩:=q1
 cases r1
 exact not_of (yaU ⟨.bl (!c),H1,I1,rfl,q1⟩)
def tIf(t:TT)(ta tb:TE):TE:=λσ H Q=>t σ H λc H1=>if c=true then ta σ H1 Q else tb σ H1 Q
theorem qll {c:Expr} (hc:PT X c tA) (ha:PE X a ta) (hb:PE X b tb):PE X (.IfExp c a b pos) (tIf tA ta tb):=by
 intro pins s σ H Q I h
 refine wpAny_IfExp (thn (hc pins s σ H _ I h) λd s1 ⟨H1,I1,q1⟩=>?_)
 cases d with
 |true=>exact ha pins s1 σ H1 Q I1 q1
 |false=>exact hb pins s1 σ H1 Q I1 q1
end
end L2
namespace L2
open PySem PySem.Spec PyProof.Rows
def SqL (K:yas) (H:Hp) (a:Addr) (xs:List V):Prop :=
 Rd H a (.lst xs) \/
  ∃(o:Obj)(its:Array Value)(n:Nat),K.lookup a=some o/\o.cls=.type "list"/\o.dict=none/\o.data=.seq its n/\its.size<=yav/\zT xs its.toList
def SqT (K:yas) (H:Hp) (a:Addr) (xs:List V):Prop :=
 Rd H a (.tup xs) \/
  ∃(o:Obj)(its:Array Value)(n:Nat),K.lookup a=some o/\o.cls=.type "tuple"/\o.data=.seq its n/\its.size<=yav/\zT xs its.toList
def qtE:Value->Option V
 |.none=>some .non
 |.bool b=>some (.bl b)
 |.int i _=>some (.int i)
 |.str x _=>some (.str x)
 |.bytes b _=>some (.byt b)
 |.float b _=>some (.flt b)
 |.ref a=>some (.ref a)
 |.type n=>some (.ty n)
 |_=>none
theorem uk.abs {x:V} {u:Value} (r:uk x u):qtE u=some x:=by
 cases x with
 |non=>cases r;rfl
 |bl _=>cases r;rfl
 |int _=>obtain⟨t,rfl⟩:=r;rfl
 |str _=>obtain⟨t,rfl⟩:=r;rfl
 |byt _=>obtain⟨t,rfl⟩:=r;rfl
 |flt _=>obtain⟨t,rfl⟩:=r;rfl
 |ref _=>cases r;rfl
 |ty _=>cases r;rfl
theorem uk.inj{x y:V}{u:Value}(r:uk x u)(q:uk y u):x=y:=yaw (r.abs.symm.trans q.abs)
theorem zT.inj:∀{xs ys:List V}{us:List Value},zT xs us->zT ys us->xs=ys
 |_,_,_,.nil,.nil=>rfl
 |_,_,_,.cons r t,.cons r' t'=>by rw[r.inj r',zT.inj t t']
section
variable{X:Cx}{pins:List (Addr×Obj)}{σ:St}{H:Hp}{s:yab}{a:Addr}{xs ys:List V}
theorem SqL.of{K:yas}(h:H a=some (.lst xs)):SqL K H a xs:=.inl (.inl h)
theorem Inv.list (I:Inv X pins σ H s) (h:SqL X.K H a xs):∃its:List Value,zT xs its/\PlainL s.heap a its.toArray/\xs.length<=yav:=by
 rcases h with h|⟨o,its,n,hk,hc,hd,hs,hz,r⟩
 ·obtain⟨z,its,n,r,e⟩:=h.ok I.hok
  exact⟨its,r,⟨_,n,e,rfl,rfl,rfl⟩,z⟩
 ·refine⟨its.toList,r,⟨o,n,I.kIn a o hk,hc,hd,by simpa using hs⟩,?_⟩
  have e:=r.length
  simp only[ya1]at e
  omega
theorem Inv.tuple (I:Inv X pins σ H s) (h:SqT X.K H a xs):∃its:List Value,zT xs its/\IsTup s.heap a its.toArray/\xs.length<=yav:=by
 rcases h with h|⟨o,its,n,hk,hc,hs,hz,r⟩
 ·obtain⟨z,its,r,p⟩:=h.ok I.hok
  exact⟨its,r,p,z⟩
 ·refine⟨its.toList,r,⟨o,I.kIn a o hk,hc,n,by simpa using hs⟩,?_⟩
  have e:=r.length
  simp only[ya1]at e
  omega
theorem Inv.list_inj (I:Inv X pins σ H s) (h:SqL X.K H a xs) (h':SqL X.K H a ys):xs=ys:=by
 obtain⟨its,r,⟨o,n,e,_,_,d⟩,_⟩:=I.list h
 obtain⟨its',r',⟨o',n',e',_,_,d'⟩,_⟩:=I.list h'
 rw[e]at e';cases e'
 rw[d]at d'
 injection d' with d1 _
 have:its=its':=by simpa using congrArg Array.toList d1
 subst this
 exact r.inj r'
theorem Inv.tuple_inj (I:Inv X pins σ H s) (h:SqT X.K H a xs) (h':SqT X.K H a ys):xs=ys:=by
 obtain⟨its,r,⟨o,e,_,n,d⟩,_⟩:=I.tuple h
 obtain⟨its',r',⟨o',e',_,n',d'⟩,_⟩:=I.tuple h'
 rw[e]at e';cases e'
 rw[d]at d'
 injection d' with d1 _
 have:its=its':=by simpa using congrArg Array.toList d1
 subst this
 exact r.inj r'
end
abbrev Cx.wish(X:Cx)(E:Value->yab->Prop):Cx:={X with xe:=E}
abbrev Cx.nox(X:Cx):Cx:=X.wish λ_ _=>False
theorem Cx.Ok.wish {X:Cx} (ok:X.Ok) (E:Value->yab->Prop):(X.wish E).Ok :=
 ⟨ok.mod,ok.kind,ok.glob,ok.blt,ok.above,ok.inj,ok.has,ok.cab,ok.hd,ok.frames,ok.stk,ok.exf,ok.bs,ok.bsz,ok.noex,ok.exfs,ok.funs,ok.frf⟩
theorem Cx.Ok.unwish {X:Cx} {E:Value->yab->Prop} (ok:(X.wish E).Ok):X.Ok :=
 ⟨ok.mod,ok.kind,ok.glob,ok.blt,ok.above,ok.inj,ok.has,ok.cab,ok.hd,ok.frames,ok.stk,ok.exf,ok.bs,ok.bsz,ok.noex,ok.exfs,ok.funs,ok.frf⟩
section
variable{X:Cx}{pins:List (Addr×Obj)}{σ:St}{H:Hp}{s:yab}{E:Value->yab->Prop}
theorem Inv.wish(I:Inv X pins σ H s)(E:Value->yab->Prop):Inv (X.wish E) pins σ H s:=⟨I.ok.wish E,I.os,I.bare,I.base,I.loc,I.cell,I.free,I.freeC,I.pin,I.hok,I.len⟩
theorem Inv.unwish(I:Inv (X.wish E) pins σ H s):Inv X pins σ H s:=⟨I.ok.unwish,I.os,I.bare,I.base,I.loc,I.cell,I.free,I.freeC,I.pin,I.hok,I.len⟩
theorem SP.unwish {D:qlc} {f:Flow} {s':yab} (h:SP (X.wish E) pins D f s'):SP X pins D f s':=by
 cases f with
 |next=>obtain⟨σ',H',I,q⟩:=h;exact⟨σ',H',I.unwish,q⟩
 |brk=>obtain⟨σ',H',I,q⟩:=h;exact⟨σ',H',I.unwish,q⟩
 |cont=>obtain⟨σ',H',I,q⟩:=h;exact⟨σ',H',I.unwish,q⟩
 |ret u=>obtain⟨v,σ',H',I,r,q⟩:=h;exact⟨v,σ',H',I.unwish,r,q⟩
theorem PSs.nox {st:List Stmt} {t:TS} (h:PSs X.nox st t):PSs X st t:=λpins s σ H D I hw=>
 ycC (h pins s σ H D (I.wish _) hw) (λ_ _ q=>q.unwish) λ_ _ z=>yb9 z
end
section
variable{X:Cx}{st:Stmt}{rest:List Stmt}{t u:TS}{e:Expr}{te:TE}{pos:Pos}
def qsl:TS:=λD σ H=>D.nx σ H
def qtF(t u:TS):TS:=λD σ H=>t {D with nx:=u D} σ H
theorem qod:PSs X [] qsl:=λ_ _ σ H _ I h=>ydS ⟨σ,H,I,h⟩
theorem qlm (h1:PS X st t) (h2:PSs X rest u):PSs X (st::rest) (qtF t u):=by
 intro pins s σ H D I h
 refine wpAny_execs_cons (thn (h1 pins s σ H {D with nx:=u D} I h) λf s1 q=>?_)
 cases f with
 |next=>
  obtain⟨σ',H',I',q⟩:=q
  exact h2 pins s1 σ' H' D I' q
 |ret v=>exact q
 |brk=>exact q
 |cont=>exact q
theorem qoe (h1:PS X st t):PSs X [st] t:=by
 intro pins s σ H D I h
 refine wpAny_execs_cons (thn (h1 pins s σ H D I h) λf s1 q=>?_)
 cases f with
 |next=>exact ydS q
 |ret v=>exact q
 |brk=>exact q
 |cont=>exact q
theorem Inv.quiet{pins:List (Addr×Obj)}{σ:St}{H:Hp}{s:yab}(I:Inv X pins σ H s):interactive X.env=false:=by simp[interactive,I.ok.kind]
def qsm(te:TE):TS:=λD σ H=>te σ H λ_ H1=>D.nx σ H1
theorem qof (he:PE X e te) (hs:ydK e none pos.line X.env=pure false:=by rfl):PS X (.Expr e pos) (qsm te):=by
 intro pins s σ H D I h
 exact wpAny_Expr_any (thn (he pins s σ H _ I h) λv s1 ⟨x,H1,I1,r1,q1⟩=>⟨σ,H1,I1,q1⟩) I.quiet hs
def qtG(te:TE):TS:=λD σ H=>te σ H D.rt
theorem qnh (he:PE X e te):PS X (.Return (some e) pos) (qtG te):=by
 intro pins s σ H D I h
 exact wpAny_Return_some (thn (he pins s σ H _ I h) λv s1 ⟨x,H1,I1,r1,q1⟩=>⟨x,σ,H1,I1,r1,q1⟩)
def qtH(c:TT)(t u:TS):TS:=λD σ H=>c σ H λb H1=>if b=true then t D σ H1 else u D σ H1
theorem qsn {c:Expr} {a b:List Stmt} {tc:TT} (hc:PT X c tc) (ha:PSs X a t) (hb:PSs X b u):PS X (.If c a b pos) (qtH tc t u):=by
 intro pins s σ H D I h
 refine wpAny_If (thn (hc pins s σ H _ I h) λd s1 ⟨H1,I1,q1⟩=>?_)
 cases d with
 |true=>exact ha pins s1 σ H1 D I1 q1
 |false=>exact hb pins s1 σ H1 D I1 q1
def qqh:TS:=λ_ _ _=>False
theorem qln:PS X st qqh:=λ_ _ _ _ _ _ h=>h.elim
end
abbrev TG:=V->St->Hp->(St->Hp->Prop)->Prop
abbrev TGs:=List V->St->Hp->(St->Hp->Prop)->Prop
def PG (X:Cx) (target:Expr) (t:TG):Prop :=
 ∀ (pins:List (Addr×Obj)) (s:yab) (σ:St) (H:Hp) (v:V) (u:Value) (Q:St->Hp->Prop),Inv X pins σ H s->uk v u->t v σ H Q ->
  wpAny (model X.prog X.w) X.A (yc0 target X.env u) (λ_ s'=>∃σ' H',Inv X pins σ' H' s'/\Q σ' H') X.xe s
def PGs (X:Cx) (ts:List Expr) (t:TGs):Prop :=
 ∀ (pins:List (Addr×Obj)) (s:yab) (σ:St) (H:Hp) (vs:List V) (us:List Value) (Q:St->Hp->Prop),Inv X pins σ H s->zT vs us->t vs σ H Q ->
  wpAny (model X.prog X.w) X.A (yfS ((ybU ts X.env).map (·.2)) us) (λ_ s'=>∃σ' H',Inv X pins σ' H' s'/\Q σ' H') X.xe s
abbrev qso:=V->V->V->Hp->(Hp->Prop)->Prop
def qtc (X:Cx) (t:qso):Prop :=
 ∀ (pins:List (Addr×Obj)) (s:yab) (σ:St) (H:Hp) (o i v:V) (ov iv u:Value) (Q:Hp->Prop),Inv X pins σ H s->uk o ov->uk i iv->uk v u->t o i v H Q ->
  wpAny (model X.prog X.w) X.A (setItem ov iv u) (λ_ s'=>∃H',Inv X pins σ H' s'/\Q H') X.xe s
section
variable{X:Cx}{pos:Pos}
def qqi(i:Nat):TG:=λv σ H Q=>Q (σ.set i (some v)) H
theorem qog {i:Nat} {x:Str} (hN:X.N.Nodup) (hi:X.N[i]? = some x) (hx:Loc X.env.scope x) (hf:X.fn x=true\/X.env.scope.names.lookup x=some .local:=by first|exact .inl rfl|exact .inr rfl|assumption):PG X (.Name x pos) (qqi i):=by
 intro pins s σ H v u Q I r h
 exact ygr (qcn I hN hi hx r (λs' I'=>⟨_,H,I',h⟩) hf)
def qtI:TGs:=λvs σ H Q=>vs=[]/\Q σ H
def qsp(t:TG)(u:TGs):TGs:=λvs σ H Q=>∃v r,vs=v::r/\t v σ H λσ' H'=>u r σ' H' Q
theorem qoh:PGs X [] qtI:=by
 intro pins s σ H vs us Q I r h
 obtain⟨e,h⟩:=h
 subst e
 cases r
 exact ygs ⟨σ,H,I,h⟩
theorem qlo {e:Expr} {es:List Expr} {t:TG} {u:TGs} (h1:PG X e t) (h2:PGs X es u)
  (hs:(ybU (e::es) X.env).map (·.2)=yc0 e X.env::(ybU es X.env).map (·.2):=by rfl):PGs X (e::es) (qsp t u):=by
 intro pins s σ H vs us Q I r h
 obtain⟨v,vr,e1,h⟩:=h
 subst e1
 cases r with
 |cons r rr=>
  rw[hs]
  refine yek (thn (h1 pins s σ H _ _ _ I r h) λ_ s1 ⟨σ1,H1,I1,q1⟩=>?_)
  exact h2 pins s1 σ1 H1 _ _ Q I1 rr q1
def qtJ(K:yas)(n:Nat)(t:TGs):TG:=λv σ H Q=>∃a xs,v=.ref a/\SqT K H a xs/\xs.length=n/\t xs σ H Q
theorem qqj {es:List Expr} {k:Nat} {t:TGs} {n:Nat} (hc:X.calm=true) (h:PGs X es t)
  (hn:(ybU es X.env).length=n:=by rfl) (hst:(ybU es X.env).findIdx? (·.1)=none:=by rfl):PG X (.Tuple es k pos) (qtJ X.K n t):=by
 intro pins s σ H v u Q I r hw
 obtain⟨a,xs,e1,hq,hl,hw⟩:=hw
 subst e1
 cases r
 obtain⟨its,rv,ht,hz⟩:=I.tuple hq
 refine assign_Tuple_tuple (I.ok.hd hc) ht (by simp[hn,<-hl,rv.length]) hst λh' hx=>?_
 have I1:Inv X pins σ H {s with heap:=h' }:=I.kept (t':=s.toks) λb o e=>hx b o (yao (yae e)) e
 exact h pins _ σ H xs _ Q I1 (by simpa using rv) hw
def qtK(to ti:TE)(t:qso):TG:=λv σ H Q=>to σ H λo H1=>ti σ H1 λi H2=>t o i v H2 λH3=>Q σ H3
theorem qqk {o i:Expr} {to ti:TE} {t:qso} (ho:PE X o to) (hi:PE X i ti) (hs:qtc X t)
  (ha:∀v,yc0 (.Subscript o i pos) X.env v=(do
   let ov <-ydJ [v] (eval o X.env)
   let iv <-ydJ [v,ov] (eval i X.env)
   ygp pos
   ydJ [v,ov,iv] (setItem ov iv v)
   release [v,ov,iv] []):=by intro _;rfl):PG X (.Subscript o i pos) (qtK to ti t):=by
 intro pins s σ H v u Q I r h
 rw[ha]
 refine yaa (ya2 (thn (ho pins s σ H _ I h) λov s1 ⟨x,H1,I1,r1,q1⟩=>?_))
 refine yaa (ya2 (thn (hi pins s1 σ H1 _ I1 q1) λiv s2 ⟨y,H2,I2,r2,q2⟩=>?_))
 refine yaa (ydy (yaa (ya2 (thn (hs pins s2 σ H2 x y v ov iv u _ I2 r1 r2 r q2) λ_ s3 ⟨H3,I3,q3⟩=>?_))))
 exact wpAny_release ⟨σ,H3,I3,q3⟩
def qtd(te:TE)(g:TG):TS:=λD σ H=>te σ H λx H1=>g x σ H1 D.nx
theorem qni {tg e:Expr} {te:TE} {g:TG} (he:PE X e te) (hg:PG X tg g) (hs:ydz [tg] e pos.line X.env=pure false:=by rfl) (hw:ydA [tg] e X.env=pure none:=by rfl)
  (h1:(ybU [tg] X.env).map (·.2)=[yc0 tg X.env]:=by rfl):PS X (.Assign [tg] e pos) (qtd te g):=by
 intro pins s σ H D I h
 refine wpAny_Assign_stores (thn (he pins s σ H _ I h) λv s1 ⟨x,H1,I1,r1,q1⟩=>?_) hs hw
 rw[h1]
 exact thn (hg pins s1 σ H1 x v _ I1 r1 q1) λ_ s2 q=>q
theorem qnj {i:Nat} {x:Str} {e:Expr} {te:TE} {pos':Pos} (hN:X.N.Nodup) (hi:X.N[i]? = some x) (hx:Loc X.env.scope x) (he:PE X e te) (hs:ydK e (some (.Name x pos')) pos.line X.env=pure false:=by rfl) (hf:X.fn x=true\/X.env.scope.names.lookup x=some .local:=by first|exact .inl rfl|exact .inr rfl|assumption) :
  PS X (.Assign [.Name x pos'] e pos) (qtd te (qqi i)):=by
 intro pins s σ H D I h
 refine wpAny_Assign_Name (thn (he pins s σ H _ I h) λv s1 ⟨y,H1,I1,r1,q1⟩=>?_) hs
 exact qcn I1 hN hi hx r1 (λs2 I2=>⟨_,H1,I2,q1⟩) hf
def qtL(i j:Nat)(ta:TA):TS:=λD σ H=>ta σ H λvs H1=>∃v w,vs=[v,w]/\D.nx ((σ.set i (some v)).set j (some w)) H1
theorem qql {i j:Nat} {x y:Str} {a b:Expr} {ta:TA} {px py pt:Pos} {kt k2 pt2} (hc:X.calm=true) (hN:X.N.Nodup) (hi:X.N[i]? = some x) (hj:X.N[j]? = some y) (hij:i≠j)
  (hx:X.env.scope.names.lookup x=some .local) (hy:X.env.scope.names.lookup y=some .local) (ha:PA X [a,b] ta)
  (hw:ydA [.Tuple [.Name x px,.Name y py] kt pt] (.Tuple [a,b] k2 pt2) X.env=pure (some [x,y]))
  (hs:ydz [.Tuple [.Name x px,.Name y py] kt pt] (.Tuple [a,b] k2 pt2) pos.line X.env=pure false:=by rfl) :
  PS X (.Assign [.Tuple [.Name x px,.Name y py] kt pt] (.Tuple [a,b] k2 pt2) pos) (qtL i j ta):=by
 intro pins s σ H D I h
 rw[exec_Assign_arm]
 refine yaa (ydy ?_)
 rw[hs]
 refine yaa (yac ?_)
 rw[if_neg (by decide)]
 refine yaa (Tuple_ (thn (ha _ pins s σ H _ I h) λus s1 ⟨vs,H1,I1,r1,q1⟩=>?_))
 obtain⟨v,w,e1,q1⟩:=q1
 subst e1
 obtain ⟨u1,u2,rfl,rv,rw'⟩:∃u1 u2,us=[u1,u2]/\uk v u1/\uk w u2:=by
  cases r1 with
  | cons p q=>
   cases q with
   |cons p' q'=>
    cases q'
    exact⟨_,_,rfl,p,p'⟩
 refine yay ?_ (by show 2<=yav;decide)
 have I2:Inv X pins σ H1 {s1 with heap:=s1.heap.push {cls:=.type "tuple",data:=.seq [u1,u2].toArray} }:=I1.kept (t':=s1.toks) λb o e=>Heap.get?_push_of_some _ e
 rw[hw]
 refine yaa (yac ?_)
 show wpAny (model X.prog X.w) X.A (do rule "assign.swapped-stores";let items <-unpackItems (.ref s1.heap.objs.size) 2 none;yfS [λv=>ygM X.env y v,λv=>ygM X.env x v] items.reverse;pure Flow.next) _ _ _
 refine yaa (yca (yaa (unpackItems_tuple (items := #[u1,u2]) (I.ok.hd hc) (yfc s1.heap _) λh' hx'=>?_)))
 have I3:=I2.kept (h':=h') (t':=s1.toks) λb o e=>hx' b o (yao (yae e)) e
 show wpAny _ _ (yfS [λv=>ygM X.env y v,λv=>ygM X.env x v] [u2,u1] >>= λ_=>pure Flow.next) _ _ _
 refine yaa (yek (wpAny_bindName (qcn I3 hN hj (.inl hy) rw' (λs2 I4=>?_) (.inr hy))))
 refine yek (wpAny_bindName (qcn I4 hN hi (.inl hx) rv (λs3 I5=>ygs (yac ?_)) (.inr hx)))
 rw[List.set_comm _ _ (ybs hij)]at I5
 exact⟨_,H1,I5,q1⟩
end
section
variable{X:Cx}{pos:Pos}
def qqm (c:TT) (tb:TS):TS:=λD σ H=>∃W:Nat->St->Hp->Prop,(∃m,W m σ H)/\∀m σ H,W m σ H ->
 c σ H λb H1=>if b=true then ∃N:St->Hp->Prop,(∀σ' H',N σ' H'->∃m',m'<m/\W m' σ' H')/\tb {D with nx:=N,ct:=N,bk:=D.nx} σ H1 else D.nx σ H1
theorem qlp {c:Expr} {body:List Stmt} {tc:TT} {tb:TS} (hp:yf3 (model X.prog X.w) X.A X.env X.xe) (hc:PT X c tc) (hb:PSs X body tb):PS X (.While c body [] pos) (qqm tc tb):=by
 intro pins s σ H D I h
 obtain⟨W,⟨m0,w0⟩,turn⟩:=h
 refine wpAny_While (codeAny_whileLoop (λn s'=>∃σ' H',Inv X pins σ' H' s'/\W n σ' H') ?_ m0 ⟨σ,H,I,w0⟩)
 rintro n s1 ⟨σ1,H1,I1,w1⟩
 refine yce hp (thn (hc pins s1 σ1 H1 _ I1 (turn n σ1 H1 w1)) λb s2 ⟨H2,I2,q2⟩=>?_)
 cases b with
 | true=>
  obtain⟨N,hN,q2⟩:=q2
  rw[if_pos rfl]
  refine yce hp (thn (hb pins s2 σ1 H2 _ I2 q2) λf s3 q3=>?_)
  cases f with
  |next=>
   obtain⟨σ3,H3,I3,n3⟩:=q3
   obtain⟨m',hm,w3⟩:=hN σ3 H3 n3
   exact⟨m',hm,σ3,H3,I3,w3⟩
  |cont=>
   obtain⟨σ3,H3,I3,n3⟩:=q3
   obtain⟨m',hm,w3⟩:=hN σ3 H3 n3
   exact⟨m',hm,σ3,H3,I3,w3⟩
  |brk=>exact q3
  |ret v=>exact q3
 |false=>
  rw[if_neg yaq]
  exact ydS ⟨σ1,H2,I2,q2⟩
end
structure It where
 go:Nat->Hp->Prop
 yld:Nat->Hp->V->Hp->Prop
 stop:Nat->Hp->Prop
def qhe (X:Cx) (pins:List (Addr×Obj)) (H:Hp) (b:Addr):Prop :=
 H b=none/\b≠X.env.locals/\b ∉ X.fs/\(b∈X.ex\/X.s₀.heap.objs.size<=b)/\(∀x c,X.env.cells.lookup x=some c->c≠b)/\∀p∈X.pn++pins,p.1≠b
theorem Inv.fpOk {X:Cx} {pins:List (Addr×Obj)} {σ:St} {H H':Hp} {s:yab} {b:Addr} (I:Inv X pins σ H s) (hb:s.heap.objs.size<=b) (hn:H' b=none):qhe X pins H' b:=by
 refine⟨hn,ybL (yaA I.lt hb),I.nofs hb,.inr (yaP I.sz hb),λx c e z=>?_,λp hp z=>?_⟩
 ·obtain⟨v,q⟩:=I.cell x c e
  exact absurd (yaA q.lt (by rw[z];exact hb)) (yaT _)
 ·exact absurd (yaA (yae (I.pin p hp).1) (by rw[z];exact hb)) (yaT _)
structure qnk (P:yar) (w:World) (K:yas) (tg:Expr) (J:It) (fp:List Addr) (it:Addr) (tn:Nat->Heap->Prop):Prop where
 mem:it∈fp
 obj:∀i h,tn i h->∀b∈fp,∃o,h.get? b=some o/\∀v,o.data ≠ .cell v
 keep:∀i h h',tn i h->(∀b∈fp,∀o,h.get? b=some o->h'.get? b=some o)->tn i h'
 item:∀(X:Cx),X.prog=P->X.w=w->X.K=K->X.calm=true->∀(i:Nat)(pins:List (Addr×Obj))(s:yab)(σ:St)(H:Hp)(E:Value->yab->Prop),Inv X pins σ H s->(∀b∈fp,qhe X pins H b)->tn i s.heap->J.go i H ->
  wpAny (model P w) X.A (yck (.ref it)) (λr s1=>∃u,r=some u /\
   wpAny (model P w) X.A (ydT tg (.ref it) u) (λ_ s2=>∃x H',Inv X pins σ H' s2/\uk x u/\J.yld i H x H'/\tn (i+1) s2.heap/\∀b∈fp,H' b=none) E s1) E s
 done:∀(X:Cx),X.prog=P->X.w=w->X.K=K->X.calm=true->∀(i:Nat)(pins:List (Addr×Obj))(s:yab)(σ:St)(H:Hp)(E:Value->yab->Prop),Inv X pins σ H s->(∀b∈fp,qhe X pins H b)->tn i s.heap->J.stop i H ->
  wpAny (model P w) X.A (yck (.ref it)) (λr s1=>r=none/\Inv X pins σ H s1) E s
 self:∀(A:yau)(i:Nat)(s:yab)(Q:Value->yab->Prop)(E:Value->yab->Prop),tn i s.heap->Q (.ref it) s->wpAny (model P w) A (yf4 (.ref it)) Q E s
abbrev TI:=St->Hp->(It->Hp->Prop)->Prop
def PIE (X:Cx) (pins:List (Addr×Obj)) (σ:St) (tg:Expr) (R:It->Hp->Prop) (itv:Value) (s2:yab):Prop :=
 ∃(it:Addr)(fp:List Addr)(tn:Nat->Heap->Prop)(J:It)(H':Hp),itv=.ref it/\Inv X pins σ H' s2/\qnk X.prog X.w X.K tg J fp it tn/\tn 0 s2.heap/\(∀b∈fp,qhe X pins H' b)/\R J H'
def PI (X:Cx) (tg iter:Expr) (wi:TI):Prop :=
 ∀ (pins:List (Addr×Obj)) (s:yab) (σ:St) (H:Hp) (R:It->Hp->Prop),Inv X pins σ H s->wi σ H R ->
  wpAny (model X.prog X.w) X.A (eval iter X.env) (λv s1=>wpAny (model X.prog X.w) X.A (yf4 v) (PIE X pins σ tg R) X.xe s1) X.xe s
theorem qlq {M:Model} {A:yau} {E:Value->yab->Prop} {s:yab} {tg:Expr} {it:Addr} {u:Value} {o:Obj} {n:String} {vs:Array Value} {Q:Unit->yab->Prop} (ho:s.heap.get? it=some o) (hc:o.cls=.type n) (hd:o.data=.fields vs)
  (hn:["enumerate","zip","dict_itemiterator","dict_reverseitemiterator","odict_iterator","itertools.zip_longest","itertools.pairwise"].contains n=false) (hQ:Q () s):wpAny M A (ydT tg (.ref it) u) Q E s:=by
 unfold ydT
 cases tg<;>first
  |exact yac hQ
  | (cases u<;>first
    |exact yac hQ
    | (refine yaa (wpAny_load ho ?_)
       rw[hc,hd]
       show wpAny M A (if(["enumerate","zip","dict_itemiterator","dict_reverseitemiterator","odict_iterator","itertools.zip_longest","itertools.pairwise"].contains n&&vs[0]? == some (ybm _))=true then _ else _) Q E s
       rw[if_neg (by intro h;rw[hn,ydi]at h;cases h)]
       exact yac hQ))
def Itl (K:yas) (a:Addr):It :=
 ⟨λi H=>∃xs x,SqL K H a xs/\xs[i]? = some x,λi H x H'=>H'=H/\∀xs,SqL K H a xs->xs[i]? = some x,λi H=>∃xs,SqL K H a xs/\xs.length<=i⟩
def Itt (K:yas) (a:Addr):It :=
 ⟨λi H=>∃xs x,SqT K H a xs/\xs[i]? = some x,λi H x H'=>H'=H/\∀xs,SqT K H a xs->xs[i]? = some x,λi H=>∃xs,SqT K H a xs/\xs.length<=i⟩
def Itr(lo:Int)(n:Nat):It:=⟨λi _=>i<n,λi H x H'=>H'=H/\x=.int (lo+i),λi _=>n<=i⟩
theorem qi5 {P:yar} {w:World} {K:yas} {tg:Expr} (a it:Addr):qnk P w K tg (Itl K a) [it] it (λi h=>h.IsListIter it a i) where
 mem:=by simp
 obj:=λi h st b hb=>by
  have e:b=it:=by simpa using hb
  subst e
  obtain⟨o,e,c,d⟩:=st
  exact⟨o,e,λv z=>by rw[d]at z;cases z⟩
 keep:=λi h h' st k=>st.at λo e=>k it (by simp) o e
 item:=by
  intro X hP hw hK hc i pins s σ H E I hf st hg
  subst hP hw hK
  obtain⟨xs,x,hq,hx⟩:=hg
  obtain⟨its,rv,p,hz⟩:=I.list hq
  obtain⟨u,hu,ru⟩:=rv.get hx
  obtain⟨f0,f1,f2,f3,f4,f5⟩:=hf it (by simp)
  refine wpAny_pyNext_list_item st p.isList (x:=u) (by simpa using hu) λh' st' sb=>?_
  have I1:Inv X pins σ H {s with heap:=h' }:=I.turned (t':=s.toks) (λb o hb e=>(sb.2 b hb).trans e) f0 f1 f3 f4 f5
  obtain⟨o,e,c,d⟩:=id st'
  exact⟨u,rfl,qlq (s:={s with heap:=h' }) e c d (by decide) ⟨x,H,I1,ru,⟨rfl,λys hy=>by rw[I.list_inj hy hq];exact hx⟩,st',λb hb=>(hf b hb).1⟩⟩
 done:=by
  intro X hP hw hK hc i pins s σ H E I hf st hg
  subst hP hw hK
  obtain⟨xs,hq,hx⟩:=hg
  obtain⟨its,rv,p,hz⟩:=I.list hq
  obtain⟨f0,f1,f2,f3,f4,f5⟩:=hf it (by simp)
  have hl:=rv.length
  exact wpAny_pyNext_list_end (I.ok.hd hc) st p.isList (by simp;omega) λh' eb=>⟨rfl,I.turned (t':=s.toks) (λb o hb e=>eb b o hb e) f0 f1 f3 f4 f5⟩
 self:=λ_ _ _ _ _ st h=>wpAny_pyIter_listiter st h
theorem qic {P:yar} {w:World} {K:yas} {tg:Expr} (a it:Addr):qnk P w K tg (Itt K a) [it] it (λi h=>h.IsTupleIter it a i) where
 mem:=by simp
 obj:=λi h st b hb=>by
  have e:b=it:=by simpa using hb
  subst e
  obtain⟨o,e,c,d⟩:=st
  exact⟨o,e,λv z=>by rw[d]at z;cases z⟩
 keep:=λi h h' st k=>st.at λo e=>k it (by simp) o e
 item:=by
  intro X hP hw hK hc i pins s σ H E I hf st hg
  subst hP hw hK
  obtain⟨xs,x,hq,hx⟩:=hg
  obtain⟨its,rv,p,hz⟩:=I.tuple hq
  obtain⟨u,hu,ru⟩:=rv.get hx
  obtain⟨f0,f1,f2,f3,f4,f5⟩:=hf it (by simp)
  refine wpAny_pyNext_tuple_item st (show s.heap.IsTuple a its.toArray from p) (x:=u) (by simpa using hu) λh' st' sb=>?_
  have I1:Inv X pins σ H {s with heap:=h' }:=I.turned (t':=s.toks) (λb o hb e=>(sb.2 b hb).trans e) f0 f1 f3 f4 f5
  obtain⟨o,e,c,d⟩:=id st'
  exact⟨u,rfl,qlq (s:={s with heap:=h' }) e c d (by decide) ⟨x,H,I1,ru,⟨rfl,λys hy=>by rw[I.tuple_inj hy hq];exact hx⟩,st',λb hb=>(hf b hb).1⟩⟩
 done:=by
  intro X hP hw hK hc i pins s σ H E I hf st hg
  subst hP hw hK
  obtain⟨xs,hq,hx⟩:=hg
  obtain⟨its,rv,p,hz⟩:=I.tuple hq
  obtain⟨f0,f1,f2,f3,f4,f5⟩:=hf it (by simp)
  have hl:=rv.length
  exact wpAny_pyNext_tuple_end (I.ok.hd hc) st (show s.heap.IsTuple a its.toArray from p) (by simp;omega) λh' eb=>⟨rfl,I.turned (t':=s.toks) (λb o hb e=>eb b o hb e) f0 f1 f3 f4 f5⟩
 self:=λ_ _ _ _ _ st h=>wpAny_pyIter_tupleiter st h
theorem qid {P:yar} {w:World} {K:yas} {tg:Expr} (it:Addr) (lo:Int) (n:Nat):qnk P w K tg (Itr lo n) [it] it (λi h=>IsRangeIter h it (lo+(i:Nat)*1) ((n:Int)-(i:Nat)) 1) where
 mem:=by simp
 obj:=λi h st b hb=>by
  have e:b=it:=by simpa using hb
  subst e
  exact ⟨_,st,λv z=>by
   have z':yeh _=ydL v:=z
   cases z'⟩
 keep:=λi h h' st k=>k it (by simp) _ st
 item:=by
  intro X hP hw hK hc i pins s σ H E I hf st hg
  subst hP hw hK
  obtain⟨f0,f1,f2,f3,f4,f5⟩:=hf it (by simp)
  have W:=Walks.range (prog:=X.prog) (w:=X.w) (I.ok.hd hc) it lo 1 n
  refine W.item i s _ _ hg st λv h' tk hv st' kk=>?_
  obtain⟨t,rfl⟩:=hv
  have I1:Inv X pins σ H {s with heap:=h',toks:=tk}:=I.turned (λb o hb e=>kk b o (by simpa using hb) e) f0 f1 f3 f4 f5
  refine⟨_,rfl,qlq (s:={s with heap:=h',toks:=tk}) (n:="range_iterator") st' rfl rfl (by decide) ⟨.int (lo+i),H,I1,⟨t,?_⟩,⟨rfl,rfl⟩,st',λb hb=>(hf b hb).1⟩⟩
  rw[Int.mul_one]
 done:=by
  intro X hP hw hK hc i pins s σ H E I hf st hg
  subst hP hw hK
  obtain⟨f0,f1,f2,f3,f4,f5⟩:=hf it (by simp)
  exact wpAny_pyNext_range_end (I.ok.hd hc) st (by have:n<=i:=hg;omega) λh' eb=>⟨rfl,I.turned (t':=s.toks) (λb o hb e=>eb b o hb e) f0 f1 f3 f4 f5⟩
 self:=λ_ _ _ _ _ st h=>wpAny_pyIter_rangeiter st h
end L2
namespace L2
open PySem PySem.Spec PyProof.Rows
section
variable{X:Cx}{tg:Expr}
theorem qhf {pins:List (Addr×Obj)} {σ:St} {H:Hp} {s:yab} {R:It->Hp->Prop} {E:Value->yab->Prop} {lo hi:Int} {t u v:Tok} {tk:Nat} (I:Inv X pins σ H s) (h1 : -(2 ^ 62)<=lo) (h2:lo<2 ^ 62) (h3 : -(2 ^ 62)<=hi) (h4:hi<2 ^ 62)
  (q:R (Itr lo (hi-lo).toNat) H):wpAny (model X.prog X.w) X.A (yf4 (.ref s.heap.objs.size)) (PIE X pins σ tg R) E {s with heap:=s.heap.push {cls:=.type "range",data:=.fields #[.int lo t,.int hi u,.int 1 v]},toks:=tk}:=by
 refine wpAny_pyIter_range (IsRange.new ..) (small_one h1 h2 h3 h4) ?_
 have I1:Inv X pins σ H {s with heap:=s.heap.push {cls:=.type "range",data:=.fields #[.int lo t,.int hi u,.int 1 v]},toks:=tk}:=I.kept λb o e=>Heap.get?_push_of_some _ e
 refine ⟨(s.heap.push {cls:=.type "range",data:=.fields #[.int lo t,.int hi u,.int 1 v]}).objs.size,[(s.heap.push {cls:=.type "range",data:=.fields #[.int lo t,.int hi u,.int 1 v]}).objs.size],_,_,H,rfl,
  I1.kept (t':=tk) λb o e=>Heap.get?_push_of_some _ e,qid _ lo (hi-lo).toNat,?_,λb hb=>?_,q⟩
 ·have e1:lo+((0:Nat):Int)*1=lo:=by simp
  have e2:(((hi-lo).toNat:Nat):Int)-((0:Nat):Int)=Builtin.Range.rangeSize lo hi 1:=by rw[rangeSize_one];split<;>omega
  show IsRangeIter _ _ (lo+((0:Nat):Int)*1) ((((hi-lo).toNat:Nat):Int)-((0:Nat):Int)) 1
  rw[e1,e2]
  exact Heap.get?_push_size _ rfl
 ·have e:b=(s.heap.push {cls:=.type "range",data:=.fields #[.int lo t,.int hi u,.int 1 v]}).objs.size:=by simpa using hb
  subst e
  exact I1.fpOk (yah _) (I1.hok.fresh (yah _))
def qsq(ta:TA):TI:=λσ H R=>ta σ H λvs H1=>∃j:Int,vs=[.int j] /\ -(2 ^ 62)<=j/\j<2 ^ 62/\R (Itr 0 j.toNat) H1
def qsr(ta:TA):TI:=λσ H R=>ta σ H λvs H1=>∃i j:Int,vs=[.int i,.int j]/\(-(2 ^ 62)<=i/\i<2 ^ 62 /\ -(2 ^ 62)<=j/\j<2 ^ 62)/\R (Itr i (j-i).toNat) H1
theorem qi6 {a:Expr} {ta:TA} {p pos:Pos} (hg:Gl X "range") (hm:X.mg "range"=none) (ha:PA X [a] ta) (hs:yam [a] X.env=[(false,eval a X.env)]:=by rfl):PI X tg (.Call (.Name "range" p) [a] [] pos) (qsq ta):=by
 intro pins s σ H R I h
 refine Call_ (wT I hg hm boot_range (yaW (thn (ha pos pins s σ H _ I h) λus s1 ⟨vs,H1,I1,r1,q1⟩=>?_) hs rfl))
 obtain⟨j,e,q1,q2,q⟩:=q1
 subst e
 cases r1 with
 |cons r rr=>
  cases rr
  obtain⟨t,rfl⟩:=r
  exact call_range_1 (qhf I1 (by omega) (by omega) q1 q2 (by simpa using q))
theorem qi7 {a b:Expr} {ta:TA} {p pos:Pos} (hg:Gl X "range") (hm:X.mg "range"=none) (ha:PA X [a,b] ta) (hs:yam [a,b] X.env=[(false,eval a X.env),(false,eval b X.env)]:=by rfl) (hs2:yam [b] X.env=[(false,eval b X.env)]:=by rfl) :
  PI X tg (.Call (.Name "range" p) [a,b] [] pos) (qsr ta):=by
 intro pins s σ H R I h
 refine Call_ (wT I hg hm boot_range (yaW (thn (ha pos pins s σ H _ I h) λus s1 ⟨vs,H1,I1,r1,q1⟩=>?_) (by rw[hs,hs2]) (by rw[hs2];rfl)))
 obtain⟨i,j,e,⟨q1,q2,q3,q4⟩,q⟩:=q1
 subst e
 cases r1 with
 | cons r rr=>
  cases rr with
  |cons r' rr=>
   cases rr
   obtain⟨t,rfl⟩:=r
   obtain⟨t',rfl⟩:=r'
   exact call_range_2 (qhf I1 q1 q2 q3 q4 q)
def qtM (wi:TI) (g:TG) (tb:TS):TS:=λD σ H=>wi σ H λJ H1=>∃W:Nat->Nat->St->Hp->Prop,(∃m,W 0 m σ H1)/\∀i m σ H,W i m σ H ->
 (J.stop i H/\D.nx σ H)\/(J.go i H/\∃N:St->Hp->Prop,(∀σ' H',N σ' H'->∃m',m'<m/\W (i+1) m' σ' H')/\∀x H',J.yld i H x H'->g x σ H' λσ2 H2=>tb {D with nx:=N,ct:=N,bk:=D.nx} σ2 H2)
def qdG(fp:List Addr)(h:Heap):List (Addr×Obj):=fp.filterMap λb=>(h.get? b).map λo=>(b,o)
theorem uV{fp:List Addr}{h:Heap}{b:Addr}{o:Obj}(hb:b∈fp)(e:h.get? b=some o):(b,o)∈qdG fp h:=List.mem_filterMap.mpr ⟨b,hb,by rw[e];rfl⟩
theorem qi8 {fp:List Addr} {h:Heap} {p:Addr×Obj} (hp:p∈qdG fp h):p.1∈fp/\h.get? p.1=some p.2:=by
 obtain⟨b,hb,e⟩:=List.mem_filterMap.mp hp
 cases q:h.get? b with
 |none=>rw[q]at e;cases e
 |some o=>
  rw[q]at e
  have e':(b,o)=p:=yaw e
  subst e'
  exact⟨hb,q⟩
theorem Inv.pinned {pins:List (Addr×Obj)} {σ:St} {H:Hp} {s:yab} {fp:List Addr} (I:Inv X pins σ H s) (hf:∀b∈fp,qhe X pins H b) (ho:∀b∈fp,∃o,s.heap.get? b=some o/\∀v,o.data ≠ .cell v):Inv X (pins++qdG fp s.heap) σ H s :=
 I.pins_of λp hp=>(mA_.mp hp).elim (λz=>I.pin p (mr_ _ z)) λz=>by
  obtain⟨hb,e⟩:=qi8 z
  obtain⟨f0,f1,f2,_⟩:=hf p.1 hb
  obtain⟨o,e',d⟩:=ho p.1 hb
  rw[e]at e';cases e'
  exact⟨e,f0,f1,f2,d⟩
theorem Inv.unpinned{pins pl:List (Addr×Obj)}{σ:St}{H:Hp}{s:yab}(I:Inv X (pins++pl) σ H s):Inv X pins σ H s:=I.pins_of λp hp=>I.pin p (mr_ _ (ycm _ hp))
theorem qqn {iter:Expr} {body:List Stmt} {wi:TI} {g:TG} {tb:TS} {pos:Pos} (hp:yf3 (model X.prog X.w) X.A X.env X.xe) (hc:X.calm=true) (hi:PI X tg iter wi) (hg:PG X tg g) (hb:PSs X body tb)
  (hs:∀x,yb2 iter X.env x=pure x:=by intro _;rfl):PS X (.For tg iter body [] pos) (qtM wi g tb):=by
 intro pins s σ H D I h
 refine wpAny_For (thn (hi pins s σ H _ I h) λv s1 h1=>thn h1 λitv s2 h2=>?_) hs
 obtain⟨it,fp,tn,J,H2,e,I2,T,st2,f2,W,⟨m0,w0⟩,turn⟩:=h2
 subst e
 have stat:∀{H':Hp},(∀b∈fp,H' b=none)->∀b∈fp,qhe X pins H' b:=λhn b hb=>⟨hn b hb,(f2 b hb).2⟩
 refine codeAny_forLoop_any (λn s'=>∃i σ' H',Inv X pins σ' H' s'/\tn i s'.heap/\(∀b∈fp,H' b=none)/\W i n σ' H') ?_ m0 ⟨0,σ,H2,I2,st2,λb hb=>(f2 b hb).1,w0⟩
 rintro n s3 ⟨i,σ3,H3,I3,st3,fr3,w3⟩
 rcases turn i n σ3 H3 w3 with⟨stop,qn⟩|⟨go,N,hN,step⟩
 ·refine yce hp (thn (T.done X rfl rfl rfl hc i pins s3 σ3 H3 X.xe I3 (stat fr3) st3 stop) λr s4 ⟨hr,I4⟩=>?_)
  subst hr
  exact ydS ⟨σ3,H3,I4,qn⟩
 ·refine yce hp (thn (T.item X rfl rfl rfl hc i pins s3 σ3 H3 X.xe I3 (stat fr3) st3 go) λr s4 ⟨u,hr,h4⟩=>?_)
  subst hr
  refine yce hp (thn h4 λ_ s5 ⟨x,H5,I5,r5,y5,st5,fr5⟩=>?_)
  have I5':=I5.pinned (stat fr5) (T.obj _ _ st5)
  refine yce hp (thn (hg _ s5 σ3 H5 x u _ I5' r5 (step x H5 y5)) λ_ s6 ⟨σ6,H6,I6,q6⟩=>?_)
  refine yce hp (thn (hb _ s6 σ6 H6 _ I6 q6) λf s7 q7=>?_)
  have again:∀{σ7:St}{H7:Hp},Inv X (pins++qdG fp s5.heap) σ7 H7 s7->N σ7 H7->∃m,m<n/\∃i σ' H',Inv X pins σ' H' s7/\tn i s7.heap/\(∀b∈fp,H' b=none)/\W i m σ' H':=λ{σ7 H7} I7 n7=>by
   obtain⟨m',hm,w7⟩:=hN σ7 H7 n7
   refine⟨m',hm,i+1,σ7,H7,I7.unpinned,T.keep _ _ _ st5 λb hb o e=>(I7.pin (b,o) (mr_ _ (mr_ _ (uV hb e)))).1,λb hb=>?_,w7⟩
   obtain⟨o,e,d⟩:=T.obj _ _ st5 b hb
   exact(I7.pin (b,o) (mr_ _ (mr_ _ (uV hb e)))).2.1
  cases f with
  |next=>obtain⟨σ7,H7,I7,n7⟩:=q7;exact again I7 n7
  |cont=>obtain⟨σ7,H7,I7,n7⟩:=q7;exact again I7 n7
  |brk=>obtain⟨σ7,H7,I7,q7⟩:=q7;exact⟨σ7,H7,I7.unpinned,q7⟩
  |ret v=>obtain⟨x7,σ7,H7,I7,r7,q7⟩:=q7;exact⟨x7,σ7,H7,I7.unpinned,r7,q7⟩
end
end L2
namespace L2
open PySem PySem.Spec PyProof.Rows
abbrev R2:=V->V->Hp->VK->Prop
def OpR (X:Cx) (f:Value->Value->Sem Value) (r:R2):Prop :=
 ∀ (pins:List (Addr×Obj)) (s:yab) (σ:St) (H:Hp) (x y:V) (v u:Value) (Q:VK),Inv X pins σ H s->uk x v->uk y u->r x y H Q ->
  wpAny (model X.prog X.w) X.A (f v u) (EP X pins σ Q) X.xe s
def UnR (X:Cx) (f:Value->Sem Value) (r:V->Hp->VK->Prop):Prop :=
 ∀ (pins:List (Addr×Obj)) (s:yab) (σ:St) (H:Hp) (x:V) (v:Value) (Q:VK),Inv X pins σ H s->uk x v->r x H Q ->
  wpAny (model X.prog X.w) X.A (f v) (EP X pins σ Q) X.xe s
def uS (X:Cx) (f:Value) (r:List V->Hp->VK->Prop):Prop :=
 ∀ (pins:List (Addr×Obj)) (s:yab) (σ:St) (H:Hp) (xs:List V) (us:List Value) (Q:VK),Inv X pins σ H s->zT xs us->r xs H Q ->
  wpAny (model X.prog X.w) X.A (call f us) (EP X pins σ Q) X.xe s
def tOp(r:R2)(ta tb:TE):TE:=λσ H Q=>ta σ H λx H1=>tb σ H1 λy H2=>r x y H2 Q
def tUn(r:V->Hp->VK->Prop)(ta:TE):TE:=λσ H Q=>ta σ H λx H1=>r x H1 Q
def rI(C:Int->Int->Prop)(g:Int->Int->V):R2:=λx y H Q=>∃i j,x=.int i/\y=.int j/\C i j/\Q (g i j) H
def rI0(g:Int->Int->V):R2:=λx y H Q=>∃i j,x=.int i/\y=.int j/\Q (g i j) H
def rU(g:Int->V):V->Hp->VK->Prop:=λx H Q=>∃i,x=.int i/\Q (g i) H
section
variable{X:Cx}{a b c:Expr}{ta tb tc:TE}{pos:Pos}
theorem qss (ha:PE X a ta) (hb:PE X b tb) {pins:List (Addr×Obj)} {s:yab} {σ:St} {H:Hp} {R:V->V->Hp->Prop} (I:Inv X pins σ H s)
  (h:ta σ H λx H1=>tb σ H1 λy H2=>R x y H2) {Q:Value->yab->Prop} {f:Value->Value->Sem Value}
  (hf:∀v u s2 x y H2,Inv X pins σ H2 s2->uk x v->uk y u->R x y H2->wpAny (model X.prog X.w) X.A (f v u) Q X.xe s2) :
  wpAny (model X.prog X.w) X.A (eval a X.env) (λv sV=>wpAny (model X.prog X.w) X.A (eval b X.env) (λu sJ=>wpAny (model X.prog X.w) X.A (f v u) Q X.xe sJ) X.xe sV) X.xe s:=by
 refine thn (ha pins s σ H _ I h) λv s1 ⟨x,H1,I1,r1,q1⟩=>?_
 refine thn (hb pins s1 σ H1 _ I1 q1) λu s2 ⟨y,H2,I2,r2,q2⟩=>?_
 exact hf v u s2 x y H2 I2 r1 r2 q2
theorem qst {op:Operator} {r:R2} (ho:OpR X (ybx op) r) (ha:PE X a ta) (hb:PE X b tb):PE X (.BinOp a op b pos) (tOp r ta tb):=by
 intro pins s σ H Q I h
 exact wpAny_BinOp (qss ha hb I h λv u s2 x y H2 I2 rx ry q=>ho pins s2 σ H2 x y v u Q I2 rx ry q)
theorem qsu {op:UnaryOp} {r:V->Hp->VK->Prop} (ho:UnR X (unaryOp op) r) (ha:PE X a ta):PE X (.UnaryOp op a pos) (tUn r ta):=by
 intro pins s σ H Q I h
 exact UnaryOp_ (thn (ha pins s σ H _ I h) λv s1 ⟨x,H1,I1,r1,q1⟩=>ho pins s1 σ H1 x v Q I1 r1 q1)
theorem opI {f:Value->Value->Sem Value} {C:Int->Int->Prop} {g:Int->Int->Int}
  (rule:∀(i j:Int)(t u:Tok)(s:yab)(Q:Value->yab->Prop)(E:Value->yab->Prop),C i j->Q (.int (g i j) s.toks) {s with toks:=s.toks+1}->wpAny (model X.prog X.w) X.A (f (.int i t) (.int j u)) Q E s) :
  OpR X f (rI C λi j => .int (g i j)):=by
 intro pins s σ H x y v u Q I rx ry h
 obtain⟨i,j,rfl,rfl,hc,q⟩:=h
 obtain⟨t,rfl⟩:=rx
 obtain⟨t',rfl⟩:=ry
 exact rule i j t t' s _ _ hc ⟨.int (g i j),H,I.tok _,⟨_,rfl⟩,q⟩
theorem qte {f:Value->Value->Sem Value} {g:Int->Int->Int}
  (rule:∀(i j:Int)(t u:Tok)(s:yab)(Q:Value->yab->Prop)(E:Value->yab->Prop),Q (.int (g i j) s.toks) {s with toks:=s.toks+1}->wpAny (model X.prog X.w) X.A (f (.int i t) (.int j u)) Q E s) :
  OpR X f (rI0 λi j => .int (g i j)):=by
 intro pins s σ H x y v u Q I rx ry h
 obtain⟨i,j,rfl,rfl,q⟩:=h
 obtain⟨t,rfl⟩:=rx
 obtain⟨t',rfl⟩:=ry
 exact rule i j t t' s _ _ ⟨.int (g i j),H,I.tok _,⟨_,rfl⟩,q⟩
theorem qr6 {f:Value->Value->Sem Value} {g:Int->Int->Bool}
  (rule:∀(i j:Int)(t u:Tok)(s:yab)(Q:Value->yab->Prop)(E:Value->yab->Prop),Q (.bool (g i j)) s->wpAny (model X.prog X.w) X.A (f (.int i t) (.int j u)) Q E s) :
  OpR X f (rI0 λi j => .bl (g i j)):=by
 intro pins s σ H x y v u Q I rx ry h
 obtain⟨i,j,rfl,rfl,q⟩:=h
 obtain⟨t,rfl⟩:=rx
 obtain⟨t',rfl⟩:=ry
 exact rule i j t t' s _ _ ⟨.bl (g i j),H,I,rfl,q⟩
def qqo(i j:Int):Prop:=0<j/\j<1606938044258990275541962092341162602522202993782792835301376
theorem qtf {i j:Int} (h1:0<j) (h2:j<1606938044258990275541962092341162602522202993782792835301376):Builtin.divisionGoesByPylong i j=false:=by
 refine PyProof.noPylong_of_log2 ?_
 have h0:j.natAbs≠0:=by omega
 have h3:j.natAbs<2 ^ 200:=by
   have:(2:Nat) ^ 200=1606938044258990275541962092341162602522202993782792835301376:=by decide +kernel
   omega
 have:=(Nat.log2_lt h0).mpr h3
 omega
def qtg(i j:Int):Prop:=0<=j/\j<=1000000/\i.natAbs<2 ^ 64
def qqp(i j:Int):Prop:=(-(2 ^ 64)<i/\i<2 ^ 64)\/(-(2 ^ 64)<j/\j<2 ^ 64)
theorem qqp.ok {i j:Int} (h:qqp i j):IntMulOk i j:=by
 rcases h with⟨h1,h2⟩|⟨h1,h2⟩
 ·exact .of_left (intBits_le_64 h1 h2)
 ·exact .of_right (intBits_le_64 h1 h2)
theorem qqq:OpR X (ybx .Add) (rI0 λi j => .int (i+j)):=qte λ_ _ _ _ _ _ _ q=>add_int q
theorem qab:OpR X (ybx .Sub) (rI0 λi j => .int (i-j)):=qte λ_ _ _ _ _ _ _ q=>sub_int q
theorem qqr:OpR X (ybx .Mult) (rI qqp λi j => .int (i*j)):=opI λ_ _ _ _ _ _ _ hc q=>mul_int q hc.ok
theorem qd6:OpR X (ybx .FloorDiv) (rI qqo λi j => .int (i/j)):=opI λi j _ _ _ _ _ hc q=>by
 have h1:(0:Int)<j:=hc.1
 have h2:j<1606938044258990275541962092341162602522202993782792835301376:=hc.2
 exact floordiv_int (by omega) (by rw[yep i (by omega)];exact q) (.inl (qtf h1 h2))
theorem qb8:OpR X (ybx .Mod) (rI (λ_ j=>0<j) λi j => .int (i%j)):=opI λi j _ _ _ _ _ hc q=>by
 have h1:(0:Int)<j:=hc
 exact mod_int' (by omega) (by rw[yeq i (by omega)];exact q)
theorem qqs:OpR X (ybx .Pow) (rI qtg λi j => .int (i ^ j.toNat)):=opI λ_ _ _ _ _ _ _ hc q=>pow_int_small hc.1 hc.2.1 hc.2.2 q
theorem unI {f:Value->Sem Value} {g:Int->Int}
  (rule:∀(i:Int)(t:Tok)(s:yab)(Q:Value->yab->Prop)(E:Value->yab->Prop),Q (.int (g i) s.toks) {s with toks:=s.toks+1}->wpAny (model X.prog X.w) X.A (f (.int i t)) Q E s) :
  UnR X f (rU λi => .int (g i)):=by
 intro pins s σ H x v Q I rx h
 obtain⟨i,rfl,q⟩:=h
 obtain⟨t,rfl⟩:=rx
 exact rule i t s _ _ ⟨.int (g i),H,I.tok _,⟨_,rfl⟩,q⟩
theorem qqt:UnR X (unaryOp .USub) (rU λi => .int (-i)):=unI λ_ _ _ _ _ q=>neg_int q
end
def qsv:V->V->Bool
 |.non,.non=>true|.non,.int _=>true|.int _,.non=>true|.non,.bl _=>true|.bl _,.non=>true|.non,.str _=>true|.str _,.non=>true
 |.int _,.int _=>true|.bl _,.bl _=>true|.str _,.str _=>true|.byt _,.byt _=>true
 |.int _,.str _=>true|.str _,.int _=>true|.bl _,.str _=>true|.str _,.bl _=>true
 |_,_=>false
def rEq:R2:=λx y H Q=>qsv x y=true/\Q (.bl (decide (x=y))) H
def rNe:R2:=λx y H Q=>qsv x y=true/\Q (.bl (!decide (x=y))) H
theorem qi9 {i j:Int}:decide (V.int i=V.int j)=(i==j):=by
 rw[ybc]
 simp
theorem qnl {i j:Bool}:decide (V.bl i=V.bl j)=(i==j):=by
 rw[ybc]
 simp
theorem qja {i j:Str}:decide (V.str i=V.str j)=(i==j):=by
 rw[ybc]
 simp
theorem qjb {i j:Array UInt8}:decide (V.byt i=V.byt j)=(i.toList==j.toList):=by
 rw[ybc]
 cases i
 cases j
 simp
section
variable{X:Cx}{a b c:Expr}{ta tb tc:TE}{pos:Pos}
theorem zC {pins:List (Addr×Obj)} {σ:St} {H:Hp} {s:yab} {Q:VK} {k k':Bool} (I:Inv X pins σ H s) (q:Q (.bl k) H) (e:k=k'):EP X pins σ Q (.bool k') s:=by
 subst e
 exact⟨.bl k,H,I,rfl,q⟩
theorem qsw:OpR X (yaL .Eq) rEq:=by
 intro pins s σ H x y v u Q I rx ry h
 obtain⟨hs,q⟩:=h
 cases x with
 |non=>
  cases rx
  cases y with
  |non=>cases ry;exact PySem.EqNone.eq_none_none (zC I q (by simp))
  |bl j=>cases ry;exact PySem.EqNone.eq_none_bool (zC I q (by simp))
  |int j=>obtain⟨t',rfl⟩:=ry;exact PySem.EqNone.eq_none_int (zC I q (by simp))
  |str j=>obtain⟨t',rfl⟩:=ry;exact PySem.EqNone.eq_none_str (zC I q (by simp))
  |_=>exact absurd (show false=true from hs) yaq
 |bl i=>
  cases rx
  cases y with
  |non=>cases ry;exact PySem.EqNone.eq_bool_none (zC I q (by simp))
  |bl j=>cases ry;exact eq_bool (zC I q qnl)
  |str j=>obtain⟨t',rfl⟩:=ry;exact PySem.EqMixed.eq_bool_str (zC I q (by simp))
  |_=>exact absurd (show false=true from hs) yaq
 |int i=>
  obtain⟨t,rfl⟩:=rx
  cases y with
  |non=>cases ry;exact PySem.EqNone.eq_int_none (zC I q (by simp))
  |int j=>obtain⟨t',rfl⟩:=ry;exact eq_int (zC I q qi9)
  |str j=>obtain⟨t',rfl⟩:=ry;exact PySem.EqMixed.eq_int_str (zC I q (by simp))
  |_=>exact absurd (show false=true from hs) yaq
 |str i=>
  obtain⟨t,rfl⟩:=rx
  cases y with
  |non=>cases ry;exact PySem.EqNone.eq_str_none (zC I q (by simp))
  |bl j=>cases ry;exact PySem.EqMixed.eq_str_bool (zC I q (by simp))
  |int j=>obtain⟨t',rfl⟩:=ry;exact PySem.EqMixed.eq_str_int (zC I q (by simp))
  |str j=>obtain⟨t',rfl⟩:=ry;exact eq_str (zC I q qja)
  |_=>exact absurd (show false=true from hs) yaq
 |byt i=>
  obtain⟨t,rfl⟩:=rx
  cases y with
  |byt j=>obtain⟨t',rfl⟩:=ry;exact PySem.W.eq_bytes (zC I q qjb)
  |_=>exact absurd (show false=true from hs) yaq
 |_=>cases y<;>exact absurd (show false=true from hs) yaq
theorem qsx:OpR X (yaL .NotEq) rNe:=by
 intro pins s σ H x y v u Q I rx ry h
 obtain⟨hs,q⟩:=h
 cases x with
 |non=>
  cases rx
  cases y with
  |non=>cases ry;exact PySem.EqNone.ne_none_none (zC I q (by simp))
  |bl j=>cases ry;exact PySem.EqNone.ne_none_bool (zC I q (by simp))
  |int j=>obtain⟨t',rfl⟩:=ry;exact PySem.EqNone.ne_none_int (zC I q (by simp))
  |str j=>obtain⟨t',rfl⟩:=ry;exact PySem.EqNone.ne_none_str (zC I q (by simp))
  |_=>exact absurd (show false=true from hs) yaq
 |bl i=>
  cases rx
  cases y with
  |non=>cases ry;exact PySem.EqNone.ne_bool_none (zC I q (by simp))
  |bl j=>cases ry;exact ne_bool (zC I q (congrArg not qnl))
  |str j=>obtain⟨t',rfl⟩:=ry;exact PySem.EqMixed.ne_bool_str (zC I q (by simp))
  |_=>exact absurd (show false=true from hs) yaq
 |int i=>
  obtain⟨t,rfl⟩:=rx
  cases y with
  |non=>cases ry;exact PySem.EqNone.ne_int_none (zC I q (by simp))
  |int j=>obtain⟨t',rfl⟩:=ry;exact ne_int (zC I q (congrArg not qi9))
  |str j=>obtain⟨t',rfl⟩:=ry;exact PySem.EqMixed.ne_int_str (zC I q (by simp))
  |_=>exact absurd (show false=true from hs) yaq
 |str i=>
  obtain⟨t,rfl⟩:=rx
  cases y with
  |non=>cases ry;exact PySem.EqNone.ne_str_none (zC I q (by simp))
  |bl j=>cases ry;exact PySem.EqMixed.ne_str_bool (zC I q (by simp))
  |int j=>obtain⟨t',rfl⟩:=ry;exact PySem.EqMixed.ne_str_int (zC I q (by simp))
  |str j=>obtain⟨t',rfl⟩:=ry;exact ne_str (zC I q (congrArg not qja))
  |_=>exact absurd (show false=true from hs) yaq
 |byt i=>
  obtain⟨t,rfl⟩:=rx
  cases y with
  |byt j=>obtain⟨t',rfl⟩:=ry;exact PySem.W.ne_bytes (zC I q (congrArg not qjb))
  |_=>exact absurd (show false=true from hs) yaq
 |_=>cases y<;>exact absurd (show false=true from hs) yaq
theorem qqu:OpR X (yaL .Lt) (rI0 λi j => .bl (decide (i<j))):=qr6 λ_ _ _ _ _ _ _ q=>lt_int q
theorem qjc:OpR X (yaL .LtE) (rI0 λi j => .bl (decide (i<=j))):=qr6 λ_ _ _ _ _ _ _ q=>le_int q
theorem qci:OpR X (yaL .Gt) (rI0 λi j => .bl (decide (j<i))):=qr6 λ_ _ _ _ _ _ _ q=>gt_int q
theorem qsy:OpR X (yaL .GtE) (rI0 λi j => .bl (decide (j<=i))):=qr6 λ_ _ _ _ _ _ _ q=>ge_int q
theorem qb9:OpR X (yaL .Is) (λx y H Q=>y=.non/\Q (.bl (decide (x=.non))) H):=by
 intro pins s σ H x y v u Q I rx ry h
 obtain⟨rfl,q⟩:=h
 cases ry
 refine is_none_gen (zC I q ?_)
 cases x<;>first
  |(cases rx;rfl)
  |(obtain⟨t,rfl⟩:=rx;rfl)
theorem qgp:OpR X (yaL .IsNot) (λx y H Q=>y=.non/\Q (.bl (!decide (x=.non))) H):=by
 intro pins s σ H x y v u Q I rx ry h
 obtain⟨rfl,q⟩:=h
 cases ry
 refine isnot_none_gen (zC I q ?_)
 cases x<;>first
  |(cases rx;rfl)
  |(obtain⟨t,rfl⟩:=rx;rfl)
theorem OpR.or {f:Value->Value->Sem Value} {r r':R2} (h:OpR X f r) (h':OpR X f r'):OpR X f (λx y H Q=>r x y H Q\/r' x y H Q):=by
 intro pins s σ H x y v u Q I rx ry q
 rcases q with q|q
 ·exact h pins s σ H x y v u Q I rx ry q
 ·exact h' pins s σ H x y v u Q I rx ry q
theorem qE (b:Expr) {op:CmpOp} (h:op ≠ .In:=by decide) (h2:op ≠ .NotIn:=by decide):ycA op b=false:=by
 have e1:(op==CmpOp.In)=false:=by cases op<;>first|rfl|exact absurd rfl h
 have e2:(op==CmpOp.NotIn)=false:=by cases op<;>first|rfl|exact absurd rfl h2
 cases b<;>simp[ycA,e1,e2]
theorem qoi {op:CmpOp} {r:R2} (ho:OpR X (yaL op) r) (ha:PE X a ta) (hb:PE X b tb) (hm:ycA op b=false):PE X (.Compare a [op] [b] pos) (tOp r ta tb):=by
 intro pins s σ H Q I h
 exact wpAny_Compare1 (qss ha hb I h λv u s2 x y H2 I2 rx ry q=>ho pins s2 σ H2 x y v u Q I2 rx ry q) hm
def qqv(t:TE):TT:=λσ H Q=>t σ H λx H'=>∃k,x=.bl k/\Q k H'
theorem qoj {op:CmpOp} {r:R2} (ho:OpR X (yaL op) r) (ha:PE X a ta) (hb:PE X b tb) (hm:ycA op b=false):PT X (.Compare a [op] [b] pos) (qqv (tOp r ta tb)):=by
 intro pins s σ H Q I h
 refine yfv (thn (ha pins s σ H _ I h) λv s1 ⟨x,H1,I1,r1,q1⟩=>thn (hb pins s1 σ H1 _ I1 q1) λu s2 ⟨y,H2,I2,r2,q2⟩=>
  thn (ho pins s2 σ H2 x y v u _ I2 r1 r2 q2) λc s3 ⟨z,H3,I3,r3,k,e,q3⟩=>?_) hm
 subst e
 cases r3
 exact yaU ⟨H3,I3,q3⟩
def qnm (r r':R2) (ta tb tc:TE):TE:=λσ H Q=>ta σ H λx H1=>tb σ H1 λy H2=>r x y H2 λz H3=>∃k,z=.bl k /\
 (if k=true then tc σ H3 λw' H4=>r' y w' H4 Q else Q (.bl false) H3)
theorem qlr {op op':CmpOp} {r r':R2} (ho:OpR X (yaL op) r) (ho':OpR X (yaL op') r') (ha:PE X a ta) (hb:PE X b tb) (hc:PE X c tc)
  (hm:lastMarks [op,op'] [b,c]=false:=by with_unfolding_all rfl):PT X (.Compare a [op,op'] [b,c] pos) (qqv (qnm r r' ta tb tc)):=by
 intro pins s σ H Q I h
 refine isTrue_chain (thn (ha pins s σ H _ I h) λv s1 ⟨x,H1,I1,r1,q1⟩=>test_link (thn (hb pins s1 σ H1 _ I1 q1) λu s2 ⟨y,H2,I2,r2,q2⟩=>
  thn (ho pins s2 σ H2 x y v u _ I2 r1 r2 q2) λd s3 ⟨z,H3,I3,r3,k,e,q3⟩=>?_)) hm
 subst e
 cases r3
 refine yaU ?_
 cases k with
 |false=>
  obtain⟨k',e',q'⟩:=q3
  cases e'
  exact ite_ff ⟨H3,I3,q'⟩
 |true=>
  refine ite_tt (test_last (thn (hc pins s3 σ H3 _ I3 q3) λw' s4 ⟨z',H4,I4,r4,q4⟩=>thn (ho' pins s4 σ H4 y z' u w' _ I4 r2 r4 q4) λd' s5 ⟨z2,H5,I5,r5,k2,e2,q5⟩=>?_))
  subst e2
  cases r5
  exact yaU ⟨H5,I5,q5⟩
theorem qcC:(yav:Nat)<2 ^ 63:=by rw[ybA];decide
theorem qie:OpR X (ybx .Add) (λx y H Q=>∃i j,x=.str i/\y=.str j/\i.length+j.length<=yav/\Q (.str (i++j)) H):=by
 intro pins s σ H x y v u Q I rx ry h
 obtain⟨i,j,rfl,rfl,hz,q⟩:=h
 obtain⟨t,rfl⟩:=rx
 obtain⟨t',rfl⟩:=ry
 exact add_str (λt' tk=>⟨.str (i++j),H,I.tok _,⟨_,rfl⟩,q⟩) hz
theorem qok {x:V} {us:List Value} (r:zT [x] us):∃u,us=[u]/\uk x u:=by
 cases r with
 |cons r1 r2=>cases r2;exact⟨_,rfl,r1⟩
theorem qol {x y:V} {us:List Value} (r:zT [x,y] us):∃u w',us=[u,w']/\uk x u/\uk y w':=by
 cases r with
 |cons r1 r2=>
  cases r2 with
  |cons r3 r4=>cases r4;exact⟨_,_,rfl,r1,r3⟩
theorem qjd (hc:X.calm=true):uS X (.builtin "max") (λxs H Q=>∃i j,xs=[.int i,.int j]/\Q (.int (if j>i then j else i)) H):=by
 intro pins s σ H xs us Q I r h
 obtain⟨i,j,rfl,q⟩:=h
 obtain⟨u,w',rfl,⟨t,rfl⟩,⟨t',rfl⟩⟩:=qol r
 refine max_two_ints (I.ok.hd hc) λh' tk k=>⟨_,H,I.kept k,?_,q⟩
 by_cases hj:j>i
 ·rw[if_pos hj,if_pos hj];exact⟨_,rfl⟩
 ·rw[if_neg hj,if_neg hj];exact⟨_,rfl⟩
theorem qe7 (hc:X.calm=true):uS X (.builtin "min") (λxs H Q=>∃i j,xs=[.int i,.int j]/\Q (.int (if j<i then j else i)) H):=by
 intro pins s σ H xs us Q I r h
 obtain⟨i,j,rfl,q⟩:=h
 obtain⟨u,w',rfl,⟨t,rfl⟩,⟨t',rfl⟩⟩:=qol r
 refine min_two_ints (I.ok.hd hc) λh' tk k=>⟨_,H,I.kept k,?_,q⟩
 by_cases hj:j<i
 ·rw[if_pos hj,if_pos hj];exact⟨_,rfl⟩
 ·rw[if_neg hj,if_neg hj];exact⟨_,rfl⟩
theorem qgq:uS X (.builtin "divmod") (λxs H Q=>∃i j,xs=[.int i,.int j]/\qqo i j/\∀p,H p=none->Q (.ref p) (upd H p (.tup [.int (i/j),.int (i%j)]))):=by
 intro pins s σ H xs us Q I r h
 obtain⟨i,j,rfl,⟨h1,h2⟩,q⟩:=h
 obtain⟨u,w',rfl,⟨t,rfl⟩,⟨t',rfl⟩⟩:=qol r
 refine divmod_int (by omega) ?_ (.inl (qtf h1 h2))
 rw[yep i (by omega),yeq i (by omega)]
 have hn:H s.heap.objs.size=none:=I.hok.fresh (yah _)
 refine⟨.ref s.heap.objs.size,_,?_,rfl,q _ hn⟩
 refine I.laid (λb o e=>Heap.get?_push_of_some _ e) (yah _) ⟨by simp only[lC_,lN_];rw[ybA];decide,[.int (i/j) s.toks,.int (i%j) (s.toks+1)],.cons ⟨_,rfl⟩ (.cons ⟨_,rfl⟩ .nil),?_⟩
 exact⟨_,Heap.get?_push_size s.heap rfl,rfl,0,rfl⟩
end
end L2
namespace L2
open PySem PySem.Spec PyProof.Rows
structure qsz (h:Heap) (x dx C:Addr) (mA:Str->Option Value):Prop where
 obj:h.get? x=some (yfb C dx)
 ns:h.Ns1 dx mA
 ne:dx≠x
theorem qje {h:Heap} {dx:Addr} {mA:Str->Option Value} (n:h.Ns1 dx mA):∃od,h.get? dx=some od/\∀name,yfw name od=some (mA name):=by
 obtain⟨o,es,ep,ho,hd,hk,_,hm⟩:=n
 refine⟨o,ho,λname=>?_⟩
 have e:=hm name
 unfold nsFind findBy at e
 rw[<-Array.find?_toList]at e
 unfold yfw
 rw[hd]
 dsimp only
 split
 ·rename_i y q
  rw[q]at e
  exact congrArg some e
 ·rename_i q
  rw[q]at e
  have a:es.toList.any (·.refKey)=false:=by
   rw[List.any_eq_false]
   intro y hy
   obtain⟨z,t,hkey⟩:=hk y (Array.mem_toList_iff.mp hy)
   simp[DictEntry.refKey,hkey]
  have a':¬es.toList.any (·.refKey)=true:=by rw[a];exact yaq
  rw[if_neg a']
  exact congrArg some e
theorem qsz.look {h:Heap} {x dx C:Addr} {mA:Str->Option Value} (I:qsz h x dx C mA):∃od,PySem.W.InstAt h x (yfb C dx) C (some od)/\∀name,yfw name od=some (mA name) :=
 let ⟨od,ho,hl⟩:=qje I.ns
 ⟨od,⟨I.obj,rfl,rfl,ho⟩,hl⟩
section
variable{P:yar}{w:World}{H H':Hp}{h h':Heap}{a C dx:Addr}{fs fs':List (Str×V)}
theorem ins_get (hok:HOk P w H h) (e:H a=some (.ins C dx fs)):∃mA,qsz h a dx C mA/\(∀f,qsf (fs.lookup f) (mA f))/\PySem.Within mA (fs.map (·.1))/\fs.length<=1000/\H dx=some (.own a):=by
 obtain⟨d,z,ne,ob,mA,n,r,q⟩:=(show u7 P w H h a (.ins C dx fs)from hok a _ e)
 exact⟨mA,⟨ob,n,ne⟩,r,q,z,d⟩
end
structure Cls (K:yas) (C:Addr):Prop where
 pg:PySem.W.plainGet K C Str.empty=true
 hd:PySem.W.hasDictIn K C=true
 po:PySem.W.plainOver K C=true
 sa:ydj K (.ref C) "__setattr__"=some (some (.builtin "object.__setattr__"))
theorem Cls.get{K:yas}{C:Addr}(c:Cls K C)(f:Str):PySem.W.plainGet K C f=true:=c.pg
section
variable{X:Cx}{pins:List (Addr×Obj)}{σ:St}{H:Hp}{s:yab}{A:yau}{E:Value->yab->Prop}{Q:Value->yab->Prop}{c:Value}{b:Bool}
inductive qiZ (K:yas) (H:Hp):V->Value->Prop where
 |non:qiZ K H .non (.type "NoneType")
 |bl (x:Bool):qiZ K H (.bl x) (.type "bool")
 |int (i:Int):qiZ K H (.int i) (.type "int")
 |str (x:Str):qiZ K H (.str x) (.type "str")
 |flt (x:UInt64):qiZ K H (.flt x) (.type "float")
 |lst {a:Addr} {xs:List V} (e:H a=some (.lst xs)):qiZ K H (.ref a) (.type "list")
 |frz {a:Addr} {o:Obj} {xs:List V} (e:H a=some (.frz o (.lst xs))):qiZ K H (.ref a) (.type "list")
 |tup {a:Addr} {xs:List V} (e:H a=some (.tup xs)):qiZ K H (.ref a) (.type "tuple")
 |dK {a:Addr} {kvs:List (Key×V)} (e:H a=some (.dK kvs)):qiZ K H (.ref a) (.type "dict")
 |dT {a:Addr} {kvs:List (List Key×V)} (e:H a=some (.dT kvs)):qiZ K H (.ref a) (.type "dict")
 | ins {a C dx:Addr} {fs:List (Str×V)} (e:H a=some (.ins C dx fs)) (cl:Cls K C) (ha:ydj K (.ref C) "__class__"=some (some (.builtin "object.__class__")))
   (hn:PySem.W.specialIn K (.builtin "object.__class__") "__get__"=some (some (.builtin "getset_descriptor.__get__"))) (htk:PySem.W.takesIn K (.builtin "object.__class__")=some true)
   (hm:PySem.W.mroIn K C (.type "object")=some true):qiZ K H (.ref a) (.ref C)
theorem vY {x:V} {u t:Value} (I:Inv X pins σ H s) (rx:uk x u) (ty:qiZ X.K H x t) (e:yfx X.K t c=some b) (h:∀tk,Q (.bool b) {s with toks:=tk}) :
  wpAny (model X.prog X.w) A (call (.builtin "isinstance") [u,c]) Q E s:=by
 cases ty with
 |non=>cases (show u=yaM from rx);exact ya8 PySem.W.kitx_none I.kIn yeJ e (λz=>nomatch z) h
 |bl y=>cases (show u=ydf y from rx);exact ya8 PySem.W.kitx_bool I.kIn yeJ e (λz=>nomatch z) h
 |int i=>obtain⟨t,q⟩:=(show ∃t,u=yej i t from rx);cases q;exact ya8 PySem.W.kitx_int I.kIn yeJ e (λz=>nomatch z) h
 |str y=>obtain⟨t,q⟩:=(show ∃t,u=Value.str y t from rx);cases q;exact ya8 PySem.W.kitx_str I.kIn yeJ e (λz=>nomatch z) h
 |flt y=>obtain⟨t,q⟩:=(show ∃t,u=Value.float y t from rx);cases q;exact ya8 PySem.W.kitx_float I.kIn yeJ e (λz=>nomatch z) h
 | @lst a xs ea=>
  cases (show u=yat a from rx)
  obtain⟨_,_,n,_,h1⟩:=(show u7 X.prog X.w H s.heap a (.lst xs)from I.hok a _ ea)
  exact ya8 yeD I.kIn ⟨_,h1,rfl⟩ e (λz=>nomatch z) h
 | @frz a ob xs ea=>
  cases (show u=yat a from rx)
  obtain⟨_,_,_,n,_,h1⟩:=(show u7 X.prog X.w H s.heap a (.frz ob (.lst xs))from I.hok a _ ea)
  exact ya8 yeD I.kIn ⟨_,h1,rfl⟩ e (λz=>nomatch z) h
 | @tup a xs ea=>
  cases (show u=yat a from rx)
  obtain⟨_,_,_,p⟩:=(show u7 X.prog X.w H s.heap a (.tup xs)from I.hok a _ ea)
  obtain⟨o,h1,h2,_⟩:=p
  exact ya8 yf5 I.kIn ⟨o,h1,h2⟩ e (λz=>nomatch z) h
 | @dK a kvs ea=>
  cases (show u=yat a from rx)
  obtain⟨_,_,vs,_,p⟩:=(show u7 X.prog X.w H s.heap a (.dK kvs)from I.hok a _ ea)
  obtain⟨o,es,ep,h1,h2,_⟩:=p
  exact ya8 ygt I.kIn ⟨o,h1,h2.1⟩ e (λz=>nomatch z) h
 | @dT a kvs ea=>
  cases (show u=yat a from rx)
  obtain⟨_,_,xs,_,o,es,ep,h1,h2,_⟩:=(show u7 X.prog X.w H s.heap a (.dT kvs)from I.hok a _ ea)
  exact ya8 ygt I.kIn ⟨o,h1,h2.1⟩ e (λz=>nomatch z) h
 | @ins a C dx fs ea cl ha hn htk hm=>
  cases (show u=yat a from rx)
  obtain⟨mA,O,_⟩:=ins_get I.hok ea
  obtain⟨od,J,_⟩:=O.look
  exact ya8 (PySem.W.kitx_own (cl.get _) cl.hd ha hn htk hm) I.kIn J e (λz=>nomatch z) h
end
end L2
namespace L2
open PySem PySem.Spec PyProof.Rows
structure qac (k:Nat) (A:yau):Prop where
 hd:A.handled=none
 dp:A.depth+3*k+5<recursionLimit
 un:A.units+16*k+200<cLine
 gd:A.guards=some []
theorem qac.mono{j k:Nat}{A:yau}(r:qac k A)(h:j<=k):qac j A:=⟨r.hd,by have:=r.dp;omega,by have:=r.un;omega,r.gd⟩
theorem qac.deeper {k:Nat} {A:yau} (r:qac (k+1) A) (env:Env):qac k (A.deeper env) :=
 ⟨r.hd,by have:=r.dp;show A.depth+1+3*k+5<_;omega,by have:=r.un;show A.units+3+16*k+200<_;omega,r.gd⟩
theorem qac.depth{k:Nat}{A:yau}(r:qac k A):A.depth<recursionLimit:=by have:=r.dp;omega
theorem qac.units{k:Nat}{A:yau}(r:qac k A):A.units+64<cLine:=by have:=r.un;omega
def qth:TA:=λ_ H Q=>Q [] H
def qqw(ta:TE)(tr:TA):TA:=λσ H Q=>ta σ H λx H1=>tr σ H1 λxs H2=>Q (x::xs) H2
section
variable{X:Cx}{e:Expr}{es:List Expr}{te:TE}{t:TA}{pos:Pos}
theorem qdH:PA X [] qth:=λ_ _ _ _ H Q I h=>ygu ⟨[],H,I,.nil,h⟩
theorem wy (ha:PE X e te) (hr:PA X es t) (hs:yam (e::es) X.env=(false,eval e X.env)::yam es X.env:=by rfl):PA X (e::es) (qqw te t):=by
 intro pos pins s σ H Q I h
 rw[hs]
 show wpAny _ _ (spliced ((false,eval e X.env)::ybb pos (yam es X.env))) _ _ s
 refine yf6 (thn (ha pins s σ H _ I h) λu s1 ⟨x,H1,I1,r1,q1⟩=>?_)
 exact thn (hr pos pins s1 σ H1 _ I1 q1) λus s2 ⟨xs,H2,I2,r2,q2⟩=>⟨x::xs,H2,I2,.cons r1 r2,q2⟩
def qtN(t:TA):TE:=λσ H Q=>t σ H λxs H1=>xs.length<=yav/\∀p,H1 p=none->Q (.ref p) (upd H1 p (.tup xs))
def qtO(t:TA):TE:=λσ H Q=>t σ H λxs H1=>xs.length<=yav/\∀p,H1 p=none->Q (.ref p) (upd H1 p (.lst xs))
theorem qqx {x1} (h:PA X es t):PE X (.Tuple es x1 pos) (qtN t):=by
 intro pins s σ H Q I hq
 refine wpAny_Tuple_spliced (thn (h pos pins s σ H _ I hq) λus s1 ⟨xs,H1,I1,r,z,q⟩=>⟨by rw[<-r.length];exact z,?_⟩)
 have hf:H1 s1.heap.objs.size=none:=I1.hok.fresh (yah _)
 refine⟨.ref s1.heap.objs.size,upd H1 s1.heap.objs.size (.tup xs),I1.laid (t':=s1.toks) (λb u e=>Heap.get?_push_of_some _ e) (yah _) ?_,rfl,q _ hf⟩
 exact⟨z,us,r,⟨_,Heap.get?_push_size _ rfl,rfl,_,rfl⟩⟩
theorem qjf (h:PA X es t):PE X (.List es pos) (qtO t):=by
 intro pins s σ H Q I hq
 refine wpAny_List_spliced (thn (h pos pins s σ H _ I hq) λus s1 ⟨xs,H1,I1,r,z,q⟩=>⟨by rw[<-r.length];exact z,?_⟩)
 have hf:H1 s1.heap.objs.size=none:=I1.hok.fresh (yah _)
 refine⟨.ref s1.heap.objs.size,upd H1 s1.heap.objs.size (.lst xs),I1.laid (t':=s1.toks) (λb u e=>Heap.get?_push_of_some _ e) (yah _) ?_,rfl,q _ hf⟩
 exact⟨z,us,0,r,Heap.get?_push_size _ rfl⟩
end
abbrev Sp:=List V->Hp->VK->XK->Prop
abbrev CXT:=List Env->Hp->yab->XK->Value->yab->Prop
structure qr7 (P:yar) (w:World) (K:yas) (mg:Str->Option Value) (base:Heap) (A:yau) (outer:List Env) (s:yab) (H:Hp):Prop where
 frames:A.frames=some outer
 mod:Mod K mg base
 bs:∀b o,base.get? b=some o->s.heap.get? b=some o/\H b=none
 bsz:base.objs.size<=s.heap.objs.size
 funs:s.heap.FunFrames base outer
 frf:∀b∈frs outer,H b=none
 hok:HOk P w H s.heap
 bare:ydh s.gens
def CE (outer:List Env) (P:yar) (w:World) (H:Hp) (s:yab) (Q:VK) (u:Value) (s':yab):Prop :=
 ∃v H',s'.os=s.os/\ydh s'.gens/\Un (frs outer) [] H H' s.heap s'.heap/\HOk P w H' s'.heap/\uk v u/\Q v H'
def CR (CX:CXT) (outer:List Env) (P:yar) (w:World) (H:Hp) (s:yab) (Q:VK) (E:XK) (r:ydU) (s':yab):Prop :=
 match r with
 |.ok (.ret u)=>CE outer P w H s Q u s'
 |.ok _=>False
 |.error e=>CX outer H s E e s'
structure qe5 (P:yar) (w:World) (K:yas) (mg:Str->Option Value) (base:Heap) (CX:CXT) (k:Nat) (f:Addr) (fd:ybn) (ps:List Str) (sp:Sp):Prop where
 len:∀vs H Q E,sp vs H Q E->vs.length=ps.length
 run:∀(A:yau)(outer:List Env)(s:yab)(H:Hp)(args:Args)(us:List Value)(vs:List V)(Q:VK)(E:XK),qac k A->qr7 P w K mg base A outer s H->yfy s fd args (ps.zip us)->zT vs us->sp vs H Q E ->
  ybI (model P w) A (.call (.ref f) args) (CR CX outer P w H s Q E) s
section
variable{X:Cx}{pins:List (Addr×Obj)}{σ:St}{H:Hp}{s s':yab}
theorem Inv.env0 (I:Inv X pins σ H s):qr7 X.prog X.w X.K X.mg X.base X.A X.stack s H :=
 ⟨I.ok.frames,I.ok.mod,I.bs,yaP I.ok.bsz I.sz,I.stack,I.stkFree,I.hok,I.bare⟩
theorem Inv.after {Q:VK} {u:Value} (I:Inv X pins σ H s) (h:CE X.stack X.prog X.w H s Q u s'):EP X pins σ Q u s':=by
 obtain⟨v,H',os,bare,un,hok,r,q⟩:=h
 obtain⟨hh,g,d,t,os'⟩:=s'
 obtain rfl:os'=s.os:=os
 exact⟨v,H',I.call (h':=hh) (g':=g) (d':=d) (t':=t) (ch:=[]) un hok bare (λb z=>absurd z (by simp)),r,q⟩
end
def qsA(sp:Sp)(dvs:List V)(E:XK)(t:TA):TE:=λσ H Q=>t σ H λvs H1=>sp (vs++dvs) H1 Q E
def qd7 (K:yas) (fd:ybn) (ps:List Str) (ds:List Value):Prop :=
 ∀(s:yab)(us:List Value),K.In s.heap->(us++ds).length=ps.length->yfy s fd ⟨us,[]⟩ (ps.zip (us++ds))
theorem qd7.all {K:yas} {fd:ybn} {ps:List Str} (h:∀us:List Value,us.length=ps.length->bindArgs fd ⟨us,[]⟩=pure (ps.zip us)):qd7 K fd ps []:=λs us _ hl=>by
 rw[yaR]at hl |-
 exact .of_eq (h us hl)
def qjg(CX:CXT)(X:Cx)(E:XK):Prop:=∀(pins:List (Addr×Obj))(σ:St)(H:Hp)(s:yab)(e:Value)(s':yab),Inv X pins σ H s->CX X.stack H s E e s'->X.xe e s'
section
variable{X:Cx}{CX:CXT}{k:Nat}{f C:Addr}{fd:ybn}{ps:List Str}{sp:Sp}{dvs:List V}{ds:List Value}{E:XK}{x m:Str}{p pos apos:Pos}{e o:Expr}{es:List Expr}{ta:TE}{t:TA}
theorem qqy {pins:List (Addr×Obj)} {σ:St} {H:Hp} {s:yab} {Q:VK} {us:List Value} {vs:List V} (F:qe5 X.prog X.w X.K X.mg X.base CX k f fd ps sp) (hr:qac k X.A) (hb:qd7 X.K fd ps ds) (hd:zT dvs ds) (hx:qjg CX X E)
  (I:Inv X pins σ H s) (r:zT vs us) (h:sp (vs++dvs) H Q E):wpAny (model X.prog X.w) X.A (call (.ref f) us) (EP X pins σ Q) X.xe s:=by
 have r2:zT (vs++dvs) (us++ds):=r.append hd
 have hl:(us++ds).length=ps.length:=by rw[<-r2.length];exact F.len _ _ _ _ h
 refine ygR (ydV (F.run X.A X.stack s H ⟨us,[]⟩ (us++ds) (vs++dvs) Q E hr I.env0 (hb s us I.kIn hl) r2 h) λr s' hq=>?_)
 cases r with
 |error e=>exact hx pins σ H s e s' I hq
 |ok fl=>
  cases fl with
  |ret u=>exact I.after hq
  |next=>exact yb9 hq
  |brk=>exact yb9 hq
  |cont=>exact yb9 hq
theorem qgr (F:qe5 X.prog X.w X.K X.mg X.base CX k f fd ps sp) (hr:qac k X.A) (hg:Gl X x) (hm:X.mg x=some (.ref f)) (hk:yai X.K (.ref f)=true) (hb:qd7 X.K fd ps ds) (hd:zT dvs ds) (hx:qjg CX X E)
  (ha:PA X (e::es) t) (hdb:(x==("__debug__":Str))=false:=by decide) (he:yam (e::es) X.env=(false,eval e X.env)::yam es X.env:=by rfl) (hpl:(ybb pos (yam es X.env)).any (·.1)=false:=by rfl) :
  PE X (.Call (.Name x p) (e::es) [] pos) (qsA sp dvs E t):=by
 intro pins s σ H Q I h
 refine ycD (qi4 I hg hm ?_ hdb)
 refine PySem.W.callWith_K (h₀:=X.base) I.ok.mod.kin hk (thn (ha pos pins s σ H _ I h) λus s1 ⟨vs,H1,I1,r,q⟩=>⟨I1.kIn,?_⟩) he hpl
 exact qqy F hr hb hd hx I1 r q
end
def PK (X:Cx) (kws:List ycq) (t:TA):Prop :=
 ∀(pos:Pos)(pins:List (Addr×Obj))(s:yab)(σ:St)(H:Hp)(Q:List V->Hp->Prop),Inv X pins σ H s->t σ H Q->wpAny (model X.prog X.w) X.A (evalAll ((ycs pos (ybM kws X.env)).map (·.2))) (AP X pins σ Q) X.xe s
section
variable{X:Cx}{CX:CXT}{k:Nat}{f C:Addr}{fd:ybn}{ps ks:List Str}{sp:Sp}{E:XK}{x m:Str}{p pos apos kpos:Pos}{e o:Expr}{es:List Expr}{kws:List ycq}{te ta:TE}{t tk:TA}{nm:Option Str}
theorem qqz:PK X [] qth:=λ_ _ _ _ H Q I h=>wpAny_evalAll_nil ⟨[],H,I,.nil,h⟩
theorem qom (ha:PE X e te) (hr:PK X kws t):PK X (⟨nm,e,kpos⟩::kws) (qqw te t):=by
 intro pos pins s σ H Q I h
 show wpAny _ _ (evalAll ((do let v <-eval e X.env;ygp pos;pure v)::(ycs pos (ybM kws X.env)).map (·.2))) _ _ s
 refine wpAny_evalAll_cons (yaa (thn (ha pins s σ H _ I h) λu s1 ⟨x,H1,I1,r1,q1⟩=>yaa (ydy (yac ?_))))
 exact thn (hr pos pins s1 σ H1 _ I1 q1) λus s2 ⟨xs,H2,I2,r2,q2⟩=>⟨x::xs,H2,I2,.cons r1 r2,q2⟩
variable{g:List Value->List Value->List Value}{gV:List V->List V->List V}
end
structure qm (N P:List Str) (sc:Scope):Prop where
 kind:sc.kind=.function
 co:sc.isCoroutine=false
 gen:sc.isGenerator=false
 nd:N.Nodup
 pre:N.take P.length=P
 par:∀x∈P,sc.names.lookup x=some .local\/sc.names.lookup x=some .cell
 nofree:∀y∈sc.names,y.2 ≠ .free
theorem qe8 {ycN:Str->Option ydE} {x:Str}:∀{binds:List (Str×Value)}{m:Str->Option Value},(∀v,(x,v) ∉ binds)->bindL ycN binds m x=m x
 | [],_,_=>rfl
 | (n,v)::r,m,h=>by
  unfold bindL
  rw[qe8 λw hw=>h w (mM _ hw)]
  split
  ·have:x≠n:=by rintro rfl;exact h v mS_
   simp[this]
  ·rfl
theorem qe9 {ycN:Str->Option ydE} {x:Str}:∀{binds:List (Str×Value)}{m:Str->Option Value},(∀v,(x,v) ∉ binds)->bindC ycN binds m x=m x
 | [],_,_=>rfl
 | (n,v)::r,m,h=>by
  unfold bindC
  rw[qe9 λw hw=>h w (mM _ hw)]
  split
  ·rfl
  ·have:x≠n:=by rintro rfl;exact h v mS_
   simp[this]
theorem qfa {ycN:Str->Option ydE} {x:Str} {v:Value}:∀{P:List Str}{vs:List Value}{i:Nat}{m:Str->Option Value},P.Nodup->P[i]? = some x->vs[i]? = some v->ycN x=some .local ->
  bindL ycN (P.zip vs) m x=some v
 | [],_,_,_,_,h,_,_=>by simp at h
 |_::_,[],_,_,_,_,h,_=>by simp at h
 |p::P,w::vs,0,m,nd,h1,h2,hk=>by
  simp at h1 h2;subst h1;subst h2
  show bindL ycN ((p,w)::P.zip vs) m p=_
  unfold bindL
  rw[qe8 λv hv=>(List.nodup_cons.mp nd).1 (ydW hv).1,if_pos hk]
  simp
 |p::P,w::vs,i+1,m,nd,h1,h2,hk=>by
  show bindL ycN ((p,w)::P.zip vs) m x=_
  unfold bindL
  exact qfa (i:=i) (List.nodup_cons.mp nd).2 (by simpa using h1) (by simpa using h2) hk
theorem qfb {ycN:Str->Option ydE} {x:Str} {v:Value}:∀{P:List Str}{vs:List Value}{i:Nat}{m:Str->Option Value},P.Nodup->P[i]? = some x->vs[i]? = some v->ycN x≠some .local ->
  bindC ycN (P.zip vs) m x=some v
 | [],_,_,_,_,h,_,_=>by simp at h
 |_::_,[],_,_,_,_,h,_=>by simp at h
 |p::P,w::vs,0,m,nd,h1,h2,hk=>by
  simp at h1 h2;subst h1;subst h2
  show bindC ycN ((p,w)::P.zip vs) m p=_
  unfold bindC
  rw[qe9 λv hv=>(List.nodup_cons.mp nd).1 (ydW hv).1,if_neg hk]
  simp
 |p::P,w::vs,i+1,m,nd,h1,h2,hk=>by
  show bindC ycN ((p,w)::P.zip vs) m x=_
  unfold bindC
  exact qfb (i:=i) (List.nodup_cons.mp nd).2 (by simpa using h1) (by simpa using h2) hk
def yU(N:List Str)(vs:List V):St:=vs.map some++yap (N.length-vs.length) none
def qnn (CX:CXT) (P:yar) (w:World) (K:yas) (mg:Str->Option Value) (base:Heap) (N:List Str) (qual:Str) (scope:Scope) (f:Addr) (cd:Value) (A:yau) (outer:List Env) (s:yab) (H:Hp) (E:XK):Cx where
 prog:=P
 w:=w
 K:=K
 mg:=mg
 base:=base
 A:=A.deeper (ydt qual scope s.heap.objs.size f cd)
 N:=N
 s₀:=s
 H₀:=H
 env:=ydt qual scope s.heap.objs.size f cd
 outer:=outer
 stack:=ydt qual scope s.heap.objs.size f cd::outer
 ex:=[]
 calm:=true
 fn:=λ_=>true
 pn:=[]
 xe:=λe s'=>wpAny (model P w) (A.deeper (ydt qual scope s.heap.objs.size f cd)) (leaving (ydt qual scope s.heap.objs.size f cd) e) (λ_ s''=>CX outer H s E e s'') (λe' s''=>CX outer H s E e' s'') s'
theorem qhg {sc:Scope} {n:Nat} {x:Str} (h:sc.names.lookup x=some .cell):∃c,(cellsFrom n sc.names []).lookup x=some c:=by
 have q:=yfl sc.names n [] (.inl h)
 exact Option.isSome_iff_exists.mp q
theorem qjh {CX:CXT} {P:yar} {w:World} {K:yas} {mg:Str->Option Value} {base:Heap} {N ps:List Str} {qual:Str} {scope:Scope} {f:Addr} {cd:Value} {A:yau} {outer:List Env} {s s1:yab} {H:Hp} {E:XK} {us:List Value} {vs:List V}
  (S:qm N ps scope) (hd:A.handled=none) (e0:qr7 P w K mg base A outer s H) (hl:vs.length=ps.length) (r:zT vs us)
  (x:InCallC s s.heap.objs.size (bindL (ydt qual scope s.heap.objs.size f cd).kindOf (ps.zip us) λ_=>none) (cellsFrom (s.heap.objs.size+1) scope.names []) (bindC (ydt qual scope s.heap.objs.size f cd).kindOf (ps.zip us) λ_=>none) s1) :
  Inv (qnn CX P w K mg base N qual scope f cd A outer s H E) [] (yU N vs) H s1:=by
 have hpl:ps.length<=N.length:=by have:=congrArg List.length S.pre;rw[ycU]at this;omega
 obtain⟨h1,tk,rfl,hk⟩:=x.done
 have noA:∀b:Addr,b ∉ (qnn CX P w K mg base N qual scope f cd A outer s H E).ex:=λb z=>absurd (show b∈([]:List Addr)from z) (by simp)
 refine ⟨⟨e0.mod,S.kind,rfl,rfl,yah _,λy z c h1 h2=>?_,λy hy=>?_,λy c _ h=>?_,λ_=>hd,Around.frames_deeper e0.frames,.inr ⟨rfl,rfl⟩,λb z=>absurd z (noA b),e0.bs,e0.bsz,λb _ _=>noA b,λb z=>absurd z (noA b),e0.funs,e0.frf⟩,
  rfl,e0.bare,Un.kept hk,⟨_,x.toInCall.ns,λi y v h1 h2 h3=>?_⟩,λy c h=>⟨_,x.cell y c h⟩,e0.hok.fresh (yah _),λy c h=>?_,λp hp=>absurd (show p∈([]:List (Addr×Obj))from hp) (by simp),e0.hok.kept hk,?_⟩
 ·exact name_of_addr x.apart (yb6 h1) (yb6 h2)
 ·have hy:scope.names.lookup y=some .cell\/scope.names.lookup y=some .free:=hy
  rcases hy with hy|hy
  ·exact qhg hy
  ·exact absurd rfl (S.nofree _ (yb6 hy))
 ·exact ycM (x.above y c (yb6 h))
 ·have hi:i<vs.length:=by
   unfold yU at h2
   by_cases hi:i<vs.length
   ·exact hi
   ·rw[List.getElem?_append_right (by simpa using hi)]at h2
    rw[List.getElem?_replicate]at h2
    split at h2<;>cases h2
  have ha:vs[i]? = some v:=by
   unfold yU at h2
   rw[List.getElem?_append_left (by simpa using hi),gM_]at h2
   cases e:vs[i]? with
   |none=>rw[e]at h2;cases h2
   |some a=>rw[e]at h2;cases h2;rfl
  obtain⟨u,hu,rv⟩:=r.get ha
  have hp:ps[i]? = some y:=by
   rw[<-S.pre,List.getElem?_take_of_lt (by omega)];exact h1
  have ndP:ps.Nodup:=by rw[<-S.pre];exact S.nd.sublist (List.take_sublist _ _)
  refine⟨u,rv,?_⟩
  rcases S.par y (ybt hp)with k|k
  ·exact .inl ⟨k,qfa ndP hp hu k⟩
  ·obtain⟨c,e⟩:=qhg (n:=s.heap.objs.size+1) k
   refine .inr ⟨.inl k,c,e,?_⟩
   have q:=x.cell y c e
   rw[qfb ndP hp hu (by show scope.names.lookup y≠_;rw[k];decide)]at q
   exact q
 ·exact e0.hok.fresh (ycM (x.above y c (yb6 h)))
 ·unfold yU
  show _=N.length
  rw[lA_,lM_,ybR]
  omega
theorem qsB {CX:CXT} {P:yar} {w:World} {K:yas} {mg:Str->Option Value} {base:Heap} {k:Nat} {f:Addr} {name qual:Str} {params:yf7} {body:List Stmt} {scope:Scope} {dV kV doc pm cdv ct oc:Value} {an od:Option Addr}
  {osl:Array (Option Value)} {N ps:List Str} {sp:Sp} (lk:K.lookup f=some ⟨oc,od,.func (yal name qual params body scope dV kV doc pm an cdv ct),osl⟩) (hcd:yaj K cdv qual=true) (S:qm N ps scope)
  (len:∀vs H Q E,sp vs H Q E->vs.length=ps.length)
  (hbody:∀(A:yau)(outer:List Env)(s:yab)(H:Hp)(vs:List V)(Q:VK)(E:XK),qac k (A.deeper (ydt qual scope s.heap.objs.size f cdv))->sp vs H Q E ->
   ∃t,PSs (qnn CX P w K mg base N qual scope f cdv A outer s H E) body t/\t {nx:=λ_ H'=>Q .non H',rt:=Q} (yU N vs) H) :
  qe5 P w K mg base CX (k+1) f (yal name qual params body scope dV kV doc pm an cdv ct) ps sp:=by
 refine⟨len,λA outer s H args us vs Q E hr e0 hb r hsp=>?_⟩
 have hl:=len _ _ _ _ hsp
 have KX:K.In s.heap:=e0.mod.kin.keeps λb o e=>(e0.bs b o e).1
 have lim:s.heap.NoLimit:=e0.mod.nolimit.keeps λb o e=>(e0.bs b o e).1
 have hkind:∀y∈ps.zip us,scope.names.lookup y.1=some .local\/(scope.names.lookup y.1=some .cell/\((cellsFrom (s.heap.objs.size+1) scope.names []).lookup y.1).isSome=true):=λ⟨n,v⟩ hy=>by
  rcases S.par n (ydW hy).1 with q|q
  ·exact .inl q
  ·exact .inr ⟨q,yfl _ _ _ (.inl q)⟩
 refine codeAny_call_function hr.depth (KX _ _ lk) rfl S.co S.gen rfl (PySem.W.codeRec_of KX hcd) (hb _ _ _ _ ?_)
 refine wpAny_newFunctionEnv_cells S.kind hkind λenv he s1 x=>?_
 subst he
 refine⟨lim.keeps x.toInCall.keep,codeAny_func ?_⟩
 obtain⟨t,ht,hq⟩:=hbody A outer s H vs Q E (hr.deeper _) hsp
 have I:Inv (qnn CX P w K mg base N qual scope f cdv A outer s H E) [] (yU N vs) H s1:=qjh S hr.hd e0 hl r x
 refine ycC (ht [] s1 (yU N vs) H _ I hq) (λfl s' hs=>?_) λe s' hs=>hs
 have fin:∀{σ':St}{H':Hp}{v:V}{u:Value},Inv (qnn CX P w K mg base N qual scope f cdv A outer s H E) [] σ' H' s'->uk v u->Q v H'->CE outer P w H s Q u s' :=
  λ{σ' H' v u} J rv q=>⟨v,H',J.os,J.bare,J.base,J.hok,rv,q⟩
 cases fl with
 |ret u=>
  obtain⟨v,σ',H',J,rv,q⟩:=hs
  exact fin J rv q
 |next=>
  obtain⟨σ',H',J,q⟩:=hs
  exact fin (v:=V.non) (u:=yaM) J rfl q
 |brk=>
  obtain⟨_,_,_,q⟩:=hs
  exact yb9 q
 |cont=>
  obtain⟨_,_,_,q⟩:=hs
  exact yb9 q
end L2
namespace L2
open PySem PySem.Spec PyProof.Rows
section
variable{X:Cx}{x:Str}{p pos:Pos}{e:Expr}{es:List Expr}{t:TA}{id T:String}{r:List V->Hp->VK->Prop}
def tCB(r:List V->Hp->VK->Prop)(t:TA):TE:=λσ H Q=>t σ H λvs H1=>r vs H1 Q
theorem qhh (hc:uS X (.builtin id) r) (hg:Gl X x) (hm:X.mg x=none) (hv:yaF x=some (.builtin id)) (ha:PA X (e::es) t) (hn:x≠"__name__":=by decide) (hdb:(x==("__debug__":Str))=false:=by decide)
  (he:yam (e::es) X.env=(false,eval e X.env)::yam es X.env:=by rfl) (hpl:(ybb pos (yam es X.env)).any (·.1)=false:=by rfl):PE X (.Call (.Name x p) (e::es) [] pos) (tCB r t):=by
 intro pins s σ H Q I h
 refine ycD (wT I hg hm hv ?_ hn hdb)
 exact ydX (thn (ha pos pins s σ H _ I h) λus s1 ⟨vs,H1,I1,r1,q1⟩=>hc pins s1 σ H1 vs us Q I1 r1 q1) he hpl
theorem qfc (hc:uS X (.type T) r) (hg:Gl X x) (hm:X.mg x=none) (hv:yaF x=some (.type T)) (ha:PA X (e::es) t) (hn:x≠"__name__":=by decide) (hdb:(x==("__debug__":Str))=false:=by decide)
  (he:yam (e::es) X.env=(false,eval e X.env)::yam es X.env:=by rfl) (hpl:(ybb pos (yam es X.env)).any (·.1)=false:=by rfl):PE X (.Call (.Name x p) (e::es) [] pos) (tCB r t):=by
 intro pins s σ H Q I h
 refine ycD (wT I hg hm hv ?_ hn hdb)
 exact yaW (thn (ha pos pins s σ H _ I h) λus s1 ⟨vs,H1,I1,r1,q1⟩=>hc pins s1 σ H1 vs us Q I1 r1 q1) he hpl
end
end L2
namespace HT
open PySem PyProof.Rows
def lexLt:List Int->List Int->Bool
 | [],[]=>false
 | [],_::_=>true
 |_::_,[]=>false
 |x::xs,y::ys=>if x=y then lexLt xs ys else decide (x<y)
theorem qif(x y:Int)(xs ys:List Int):lexLt (x::xs) (y::ys)=if x=y then lexLt xs ys else decide (x<y):=rfl
theorem qd8:lexLt [] []=false:=rfl
theorem qdw(y:Int)(ys:List Int):lexLt [] (y::ys)=true:=rfl
theorem qdx(x:Int)(xs:List Int):lexLt (x::xs) []=false:=rfl
theorem qls (A:yau) (s:yab) (a:Int) (t:Tok) (c:Int) (u:Tok):∃e,yfJ A s (.int a t) (.int c u) e/\(e=true ↔ a=c) :=
 ⟨(a==c),yf8 a t c u,by simp⟩
theorem qlt (A:yau) (s:yab) (a:Int) (t:Tok) (c:Int) (u:Tok) (prog:yar) (w:World) (E:Value->yab->Prop) (Q:Value->yab->Prop) (h:Q (.bool (decide (a<c))) s) :
  wpAny (model prog w) A (yc1 .Lt (.int a t) (.int c u)) Q E s :=
 (PyProof.Rows.lt_int h:wpAny (model prog w) A (yaL .Lt (.int a t) (.int c u)) Q E s)
section
open PySem.SeqAt
open PySem.AutoSeq1 (wpAny_loadPart')
open PySem.MeetsSeq PySem.MeetsSeq2 PySem.MeetsSeq3
theorem qd9 (l b:Addr) (items items2:Array Value) (n n2:Nat) (dd dd2:Option Addr) (sl sl2:Array (Option Value)) (ns ms:List Int) (hi:ybJ items.toList ns) (hj:ybJ items2.toList ms) :
  Meets (yaX.«tuple.__lt__» ⟨[.ref l,.ref b],[]⟩)
   (λ_ R s=>s.heap.get? l=some {cls:=.type "tuple",dict:=dd,data:=.seq items n,slots:=sl}/\s.heap.get? b=some {cls:=.type "tuple",dict:=dd2,data:=.seq items2 n2,slots:=sl2} /\
    R (.ok (.ret (.bool (lexLt ns ms)))) s) :=
 .of_wp λprog w A R s h=>by
  obtain⟨hp,g,d,tk,os⟩:=s;obtain⟨hl,hb,h⟩:=h
  have f2:=yeR
  have z1:items.size=ns.length:=by rw[<-hi.length];simp
  have z2:items2.size=ms.length:=by rw[<-hj.length];simp
  wp_walk using ycE hl,ycE hb,wpAny_forIn_list _ (λrest b s'=>b.1=none/\s'=⟨hp,g,d,tk,os⟩/\∃(vs ws:List Value)(ns' ms':List Int),rest=vs.zip ws /\
   ybJ vs ns'/\ybJ ws ms'/\ns'.length+items2.size=ms'.length+items.size/\R (.ok (.ret (.bool (lexLt ns' ms')))) ⟨hp,g,d,tk,os⟩) _
  case turn=>
   rintro⟨y,x⟩ rest b s' ⟨hb',rfl,vs,ws,ns',ms',hz,hvi,hwi,hlen,hR⟩
   cases hvi with
   |nil=>rw[List.zip_nil_left]at hz;cases hz
   | cons a t hvi'=>
    cases hwi with
    |nil=>rw[List.zip_nil_right]at hz;cases hz
    | cons c u hwi'=>
     rw[yf9]at hz
     injection hz with hyx hrest
     injection hyx with hy hx
     subst hy hx
     rw[qif]at hR
     simp only[lC_]at hlen
     obtain⟨e,he,hiff⟩:=qls A.in1 ⟨hp,g,d,tk,os⟩ a t c u
     refine yaa (he prog w _ _ ?_)
     cases e with
     |true=>
      rw[if_pos (hiff.mp rfl)]at hR
      wp_walk
      exact⟨rfl,rfl,_,_,_,_,hrest,hvi',hwi',by omega,hR⟩
     |false=>
      rw[if_neg (λq=>absurd (hiff.mpr q) yaq)]at hR
      have hri:=qlt A.in1 ⟨hp,g,d,tk,os⟩ a t c u prog w
      wp_walk using hri
      exact⟨_,rfl,by simpa using hR⟩
  case fin=>
   rintro⟨b1,b2⟩ s' ⟨hb',rfl,vs,ws,ns',ms',hz,hvi,hwi,hlen,hR⟩
   simp only at hb'
   subst hb'
   have hv:lexLt ns' ms'=decide (items.size<items2.size):=by
    cases hvi with
    | nil=>
     cases hwi with
     |nil=>
      simp only[lN_]at hlen
      rw[qd8]
      exact(decide_eq_false (by omega)).symm
     |cons c u hw=>
      simp only[lN_,lC_]at hlen
      rw[qdw]
      exact(decide_eq_true (by omega)).symm
    | cons a t hv=>
     cases hwi with
     |nil=>
      simp only[lN_,lC_]at hlen
      rw[qdx]
      exact(decide_eq_false (by omega)).symm
     |cons c u hw=>
      rw[yf9]at hz
      cases hz
   rw[hv]at hR
   wp_walk
   exact⟨_,rfl,by simpa [Builtin.Tuple.tupleCompareSizes] using hR⟩
  case h=>
   exact⟨rfl,rfl,items.toList,items2.toList,ns,ms,rfl,hi,hj,by omega,h⟩
end
section
variable{prog:yar}{w:World}{A:yau}{E:Value->yab->Prop}{s:yab}
theorem lt_tupInts {l b:Addr} {items items2:Array Value} {ns ms:List Int} {Q:Value->yab->Prop} (hl:IsTup s.heap l items) (hb:IsTup s.heap b items2) (hi:ybJ items.toList ns) (hj:ybJ items2.toList ms)
  (hu:A.units<cLine) (h:Q (.bool (lexLt ns ms)) s):wpAny (model prog w) A (yaL .Lt (.ref l) (.ref b)) Q E s:=by
 obtain⟨⟨cls,dd,data,sl⟩,ho,hc,n,hd⟩:=id hl
 obtain⟨⟨cls2,dd2,data2,sl2⟩,ho2,hc2,n2,hd2⟩:=id hb
 simp only at hc hd hc2 hd2
 subst hc hd hc2 hd2
 exact richCompare_meets_room (op := .Lt) ⟨_,ho,rfl⟩ ⟨_,ho2,rfl⟩ PySem.F.slot_tuple_lt PySem.F.entry_tuple_lt (PySem.F.args_tuple_lt_2 _ _) (qd9 l b items items2 n n2 dd dd2 sl sl2 ns ms hi hj)
  ⟨ho,ho2,show ydf (lexLt ns ms)≠Value.notImplemented/\Q (.bool (lexLt ns ms)) s from⟨(λx=>nomatch x),h⟩⟩ hu
theorem cat_tup {t b:Addr} {vs ws:List Value} {Q:Value->yab->Prop} (ht:IsTup s.heap t vs.toArray) (hb:IsTup s.heap b ws.toArray) (hv:vs≠[])
  (h1:ws=[]->Q (.ref t) s) (h2:ws≠[]->Q (.ref s.heap.objs.size) {s with heap:=s.heap.push {cls:=.type "tuple",data:=.seq (vs++ws).toArray} })
  (hsz:vs.length+ws.length<=yav):wpAny (model prog w) A (ybx .Add (.ref t) (.ref b)) Q E s:=by
 obtain⟨⟨cls,dd,data,sl⟩,ho,hc,n,hd⟩:=id ht
 obtain⟨⟨cls2,dd2,data2,sl2⟩,ho2,hc2,n2,hd2⟩:=id hb
 simp only at hc hd hc2 hd2
 subst hc hd hc2 hd2
 have e:vs.toArray++ws.toArray=(vs++ws).toArray:=by simp
 by_cases hw:ws=[]
 ·exact yga ⟨_,ho,rfl⟩ ⟨_,ho2,rfl⟩ yeS yfT ydu ydm (yc8 _ _)
   (tuple_addW1 t b vs.toArray ws.toArray n n2 dd dd2 sl sl2 (by simpa using hv) (by simp[hw])) ⟨ho,ho2,h1 hw⟩
 ·refine yga ⟨_,ho,rfl⟩ ⟨_,ho2,rfl⟩ yeS yfT ydu ydm (yc8 _ _)
   (tuple_addW2 t b vs.toArray ws.toArray n n2 dd dd2 sl sl2 (by simpa using hv) (by simpa using hw) (by rw[sT_,sT_];exact hsz)) ⟨ho,ho2,?_⟩
  rw[e]
  exact h2 hw
def sIx (n d:Nat):Option Int->Nat
 |none=>d
 |some v=>if v<0 then(v+(n:Int)).toNat else min v.toNat n
theorem sIx_none(n d:Nat):sIx n d none=d:=rfl
theorem sIx_nat (n d k:Nat):sIx n d (some (k:Int))=min k n:=by
 show(if(k:Int)<0 then((k:Int)+(n:Int)).toNat else min (k:Int).toNat n)=min k n
 rw[if_neg (by omega),ybj]
theorem qqA (n d:Nat) (hd:d<=n) (o:Option Int):sIx n d o<=n:=by
 cases o with
 |none=>exact hd
 |some v=>
  show(if v<0 then(v+(n:Int)).toNat else min v.toNat n)<=n
  by_cases hv:v<0
  ·rw[if_pos hv];omega
  ·rw[if_neg hv];exact Nat.min_le_right _ _
theorem qji (v:Int) (n d:Nat):(if v<0 then max (v+(n:Int)) 0 else min v (n:Int))=((sIx n d (some v):Nat):Int):=by
 show(if v<0 then max (v+(n:Int)) 0 else min v (n:Int))=(((if v<0 then(v+(n:Int)).toNat else min v.toNat n):Nat):Int)
 by_cases hv:v<0
 ·simp only[if_pos hv];omega
 ·simp only[if_neg hv];omega
theorem qig (lo hi:Option Int) (n:Nat):yc4 lo hi 1 (n:Int)=(((sIx n 0 lo:Nat):Int),((sIx n n hi:Nat):Int)):=by
 have h1:¬((1:Int)<0):=by omega
 unfold yc4
 simp only[h1,if_false]
 refine Prod.ext ?_ ?_
 ·cases lo with
  |none=>rfl
  |some v=>exact qji v n 0
 ·cases hi with
  |none=>rfl
  |some v=>exact qji v n n
theorem qih (i j:Nat):ycn (i:Int) (j:Int) 1=j-i:=by
 unfold ycn
 have h1:(1:Int)>0:=by omega
 simp only[h1,if_true,Int.ediv_one]
 split<;>omega
theorem qdI {v:Value} {o:Option Int} {Q:Option Int->yab->Prop} (p:ydY v o) (h:Q o s):wpAny (model prog w) A (Builtin.Slice.slicePartIndex v) Q E s:=by
 cases p with
 |none=>exact slicePart_none h
 |int i t=>exact slicePart_int h
theorem sliceApplied_gen {sl:Addr} {vl vu:Value} {lo hi:Option Int} {n:Nat} {Q:Int×Int×Nat->yab->Prop} (hs:s.heap.IsSliceOf sl vl vu .none) (pl:ydY vl lo) (pu:ydY vu hi)
  (h:Q (((sIx n 0 lo:Nat):Int),1,sIx n n hi-sIx n 0 lo) s):wpAny (model prog w) A (yer (.ref sl) (pure (n:Int))) Q E s:=by
 obtain⟨os,hos,hcs,hds⟩:=id hs
 unfold yer Builtin.Slice.sliceFields
 refine yaa (yaa (yaV hos hds (x:=vl) rfl (yaa (yaV hos hds (x:=vu) rfl (yaa (yaV hos hds (x:=.none) rfl (yac ?_)))))))
 refine yaa (slicePart_none ?_)
 show wpAny _ _ (if((1:Int)==0)=true then _ else _) _ _ s
 rw[if_neg (by decide)]
 refine yaa (qdI pl (yaa (qdI pu (yaa (yac ?_)))))
 show wpAny _ _ (match yc4 lo hi 1 (n:Int) with|(lo,hi)=>pure (lo,(1:Int),ycn lo hi 1)) _ _ s
 rw[qig lo hi n]
 show wpAny _ _ (pure (((sIx n 0 lo:Nat):Int),(1:Int),ycn ((sIx n 0 lo:Nat):Int) ((sIx n n hi:Nat):Int) 1)) _ _ s
 rw[qih]
 exact yac h
theorem qlu (xs:Array Value) (i k:Nat):((yag k).filterMap λ(m:Nat)=>xs[((i:Int)+(m:Int)*1).toNat]?).toArray=((xs.toList.drop i).take k).toArray:=by
 have e:(λ(m:Nat)=>xs[((i:Int)+(m:Int)*1).toNat]?)=λm=>xs[i+m]? := by
  funext m
  have:((i:Int)+(m:Int)*1).toNat=i+m:=by omega
  rw[this]
 rw[e]
 have:=pick_run xs i k
 rw[List.filterMap_map]at this
 have e2:((λx=>xs[x]?)∘λx=>i+x)=λm=>xs[i+m]? := rfl
 rw[e2]at this
 rw[this]
theorem getItem_tuple_cut {t sl:Addr} {items:Array Value} {vl vu:Value} {lo hi:Option Int} {Q:Value->yab->Prop} (ht:IsTup s.heap t items) (hs:s.heap.IsSliceOf sl vl vu .none) (pl:ydY vl lo) (pu:ydY vu hi)
  (hw:¬(sIx items.size 0 lo=0/\sIx items.size items.size hi=items.size))
  (h:Q (.ref s.heap.objs.size) {s with heap:=s.heap.push {cls:=.type "tuple",data:=.seq ((items.toList.drop (sIx items.size 0 lo)).take (sIx items.size items.size hi-sIx items.size 0 lo)).toArray} })
  (hsz:items.size<=yav):wpAny (model prog w) A (yeP (.ref t) (.ref sl)) Q E s:=by
 have htake:sizeOk (.seq ((items.toList.drop (sIx items.size 0 lo)).take (sIx items.size items.size hi-sIx items.size 0 lo)).toArray):=by
  show((items.toList.drop (sIx items.size 0 lo)).take (sIx items.size items.size hi-sIx items.size 0 lo)).toArray.size<=yav
  rw[sT_,ycU,ydF,ya1]
  omega
 have hj:sIx items.size items.size hi<=items.size:=qqA _ _ (yah _) hi
 obtain⟨os,hos,hcs,hds⟩:=id hs
 have hTs:s.TypeIs (.ref sl) "slice":=⟨os,hos,hcs⟩
 unfold yeP
 try with_reducible refine ya2 ?_
 first|refine yaa (yac ?_)|skip
 refine yaa (ygv ht.typeIs (by decide) ?_)
 refine yaa (wpAny_callSpecial?_slot (name:=ybd "__getitem__") ht.typeIs ybT
  (yaH ybT ht.typeIs yfX ?_ (ygb _ _)))
 show wpAny _ _ (yes (.ref t) >>= _) _ _ s
 refine yaa (tupleItemsOf_ ht ?_)
 refine yaa (ydZ hTs ?_)
 rw[if_pos (by decide)]
 refine yaa (sliceApplied_gen hs pl pu ?_)
 have hno:¬((((sIx items.size 0 lo:Nat):Int)==0&&(1:Int)==1&&(sIx items.size items.size hi-sIx items.size 0 lo)==items.size)=true):=by
  intro q
  rw[yan,yan]at q
  have q1:((sIx items.size 0 lo:Nat):Int)=0:=ydM q.1.1
  have q2:sIx items.size items.size hi-sIx items.size 0 lo=items.size:=ydM q.2
  exact hw ⟨by omega,by omega⟩
 show wpAny _ _ (if(((sIx items.size 0 lo:Nat):Int)==0&&(1:Int)==1&&(sIx items.size items.size hi-sIx items.size 0 lo)==items.size)=true then _ else _) _ _ s
 rw[if_neg hno,qlu]
 first
  |exact yaa (m:=yct _) (yay (yac ⟨_,rfl,yac h⟩) htake)
  |exact yaa (m:=yct _) (yay (yaa (yac (yac ⟨_,rfl,yac h⟩))) htake)
  |exact yaa (yaa (m:=yct _) (yay (yac (yac ⟨_,rfl,yac h⟩)) htake))
  |exact yaa (yaa (m:=yct _) (yay (yac ⟨_,rfl,yac h⟩) htake))
end
end HT
namespace L2
open PySem PySem.Spec PyProof.Rows
abbrev TO:=St->Hp->(Option Int->Hp->Prop)->Prop
def PO (X:Cx) (e:Option Expr) (t:TO):Prop :=
 ∀ (pins:List (Addr×Obj)) (s:yab) (σ:St) (H:Hp) (Q:Option Int->Hp->Prop),Inv X pins σ H s->t σ H Q ->
  wpAny (model X.prog X.w) X.A (evalPart e X.env) (λu s'=>∃o H',Inv X pins σ H' s'/\ydY u o/\Q o H') X.xe s
def qon:TO:=λ_ H Q=>Q none H
def qsC(t:TE):TO:=λσ H Q=>t σ H λx H1=>∃i,x=.int i/\Q (some i) H1
theorem yV {ns:List Int}:∀{us:List Value},zT (ns.map V.int) us->ybJ us ns:=by
 induction ns with
 |nil=>intro us r;rw[ycO]at r;cases r;exact .nil
 | cons n ns ih=>
  intro us r
  rw[mC_]at r
  cases r with
  |cons r1 r2=>
   obtain⟨t,e⟩:=r1
   subst e
   exact .cons n t (ih r2)
section
variable{X:Cx}{e:Expr}{te:TE}{lo hi:Option Expr}{tl th:TO}{pos p2:Pos}
theorem qoo:PO X none qon:=by
 intro pins s σ H Q I h
 rw[evalPart_none]
 exact yac ⟨none,H,I,.none,h⟩
theorem qop (h:PE X e te):PO X (some e) (qsC te):=by
 intro pins s σ H Q I hw
 rw[evalPart_some]
 refine thn (h pins s σ H _ I hw) λu s1 ⟨x,H1,I1,r1,q1⟩=>?_
 obtain⟨i,rfl,q⟩:=q1
 obtain⟨t,rfl⟩:=r1
 exact⟨some i,H1,I1,.int i t,q⟩
def SlR (X:Cx) (r:V->Option Int->Option Int->Hp->VK->Prop):Prop :=
 ∀ (pins:List (Addr×Obj)) (s:yab) (σ:St) (H:Hp) (x:V) (v vl vu:Value) (lo hi:Option Int) (sl:Addr) (Q:VK),Inv X pins σ H s->uk x v->s.heap.IsSliceOf sl vl vu .none->ydY vl lo->ydY vu hi->r x lo hi H Q ->
  ∃T id,ygS (.type T) "__getitem__"=pure (some (.builtin id))/\s.TypeIs v T/\wpAny (model X.prog X.w) X.A (yeP v (.ref sl)) (EP X pins σ Q) X.xe s
theorem SlR.or {r r':V->Option Int->Option Int->Hp->VK->Prop} (h:SlR X r) (h':SlR X r'):SlR X (λx lo hi H Q=>r x lo hi H Q\/r' x lo hi H Q):=by
 intro pins s σ H x v vl vu lo hi sl Q I rx hs pl pu q
 rcases q with q|q
 ·exact h pins s σ H x v vl vu lo hi sl Q I rx hs pl pu q
 ·exact h' pins s σ H x v vl vu lo hi sl Q I rx hs pl pu q
def tSl(r:V->Option Int->Option Int->Hp->VK->Prop)(te:TE)(tl th:TO):TE:=λσ H Q=>te σ H λx H1=>tl σ H1 λl H2=>th σ H2 λu H3=>r x l u H3 Q
theorem qlv {r:V->Option Int->Option Int->Hp->VK->Prop} (hr:SlR X r) (he:PE X e te) (hl:PO X lo tl) (hu:PO X hi th):PE X (.Subscript e (.Slice lo hi none p2) pos) (tSl r te tl th):=by
 intro pins s σ H Q I h
 refine Subscript_ (thn (he pins s σ H _ I h) λv s1 ⟨x,H1,I1,r1,q1⟩=>?_)
 refine wpAny_Slice (thn (hl pins s1 σ H1 _ I1 q1) λvl s2 ⟨l,H2,I2,pl,q2⟩=>thn (hu pins s2 σ H2 _ I2 q2) λvu s3 ⟨u,H3,I3,pu,q3⟩=>?_)
 rw[evalPart_none]
 refine yac ?_
 have I4:Inv X pins σ H3 {s3 with heap:=s3.heap.push {cls:=.type "slice",data:=.fields #[vl,vu,.none]} }:=I3.kept (t':=s3.toks) λb ob q=>Heap.get?_push_of_some _ q
 obtain⟨T,id,hT,ht,hg⟩:=hr pins {s3 with heap:=s3.heap.push {cls:=.type "slice",data:=.fields #[vl,vu,.none]} } σ H3 x v vl vu l u s3.heap.objs.size Q I4 r1 (Heap.IsSliceOf.new ..) pl pu q3
 show wpAny (model X.prog X.w) X.A (subscriptTail e (.Slice lo hi none p2) v (.ref s3.heap.objs.size)) (EP X pins σ Q) X.xe {s3 with heap:=s3.heap.push {cls:=.type "slice",data:=.fields #[vl,vu,.none]} }
 exact tail_any (ops:=[.ref s3.heap.objs.size,v]) ht hT hg (by with_unfolding_all rfl)
def qld(xs:List V)(lo hi:Option Int):List V:=(xs.drop (HT.sIx xs.length 0 lo)).take (HT.sIx xs.length xs.length hi-HT.sIx xs.length 0 lo)
theorem qcD (xs:List V) (lo hi:Option Int):(qld xs lo hi).length<=xs.length:=by
 unfold qld
 rw[ycU,ydF]
 omega
def qti (K:yas):V->Option Int->Option Int->Hp->VK->Prop:=λx lo hi H Q=>∃a xs,x=.ref a/\SqT K H a xs /\
 ¬(HT.sIx xs.length 0 lo=0/\HT.sIx xs.length xs.length hi=xs.length)/\∀p,H p=none->Q (.ref p) (upd H p (.tup (qld xs lo hi)))
theorem qqB:SlR X (qti X.K):=by
 intro pins s σ H x v vl vu lo hi sl Q I rx hs pl pu h
 obtain⟨a,xs,rfl,hx,hw,q⟩:=h
 cases rx
 obtain⟨its,r,ht,hz⟩:=I.tuple hx
 have hlen:its.toArray.size=xs.length:=by rw[sT_];exact r.length.symm
 refine⟨"tuple",_,PyProof.Rows.slot_tuple_getitem.lookup,ht.typeIs,?_⟩
 refine HT.getItem_tuple_cut ht hs pl pu (by rw[hlen];exact hw) ?_ (by rw[hlen];exact hz)
 rw[hlen]
 refine⟨.ref s.heap.objs.size,_,I.laid (t':=s.toks) (o:=.tup (qld xs lo hi)) (λb ob q=>Heap.get?_push_of_some _ q) (yah _) ?_,rfl,q _ (I.hok.fresh (yah _))⟩
 exact⟨yaP (qcD xs lo hi) hz,_,(r.drop (HT.sIx xs.length 0 lo)).take (HT.sIx xs.length xs.length hi-HT.sIx xs.length 0 lo),yfc _ _⟩
def qqC (K:yas):R2:=λx y H Q=>∃a b xs ys,x=.ref a/\y=.ref b/\SqT K H a xs/\SqT K H b ys/\xs≠[]/\xs.length+ys.length<=yav /\
 (ys=[]->Q (.ref a) H)/\(ys≠[]->∀p,H p=none->Q (.ref p) (upd H p (.tup (xs++ys))))
theorem zT.nil_iff {xs:List V} {us:List Value} (r:zT xs us):us=[] ↔ xs=[]:=by
 cases r with
 |nil=>simp
 |cons _ _=>simp
theorem qoq:OpR X (ybx .Add) (qqC X.K):=by
 intro pins s σ H x y v u Q I rx ry h
 obtain⟨a,b,xs,ys,rfl,rfl,ha,hb,hx,hz,q1,q2⟩:=h
 cases rx
 cases ry
 obtain⟨its,r1,p1,_⟩:=I.tuple ha
 obtain⟨its2,r2,p2,_⟩:=I.tuple hb
 refine HT.cat_tup p1 p2 (λz=>hx (r1.nil_iff.mp z)) (λz=>⟨.ref a,H,I,rfl,q1 (r2.nil_iff.mp z)⟩) (λz=>?_) (by rw[<-r1.length,<-r2.length];exact hz)
 refine⟨.ref s.heap.objs.size,_,I.laid (t':=s.toks) (o:=.tup (xs++ys)) (λb ob q=>Heap.get?_push_of_some _ q) (yah _) ?_,rfl,q2 (λw=>z (r2.nil_iff.mpr w)) _ (I.hok.fresh (yah _))⟩
 exact⟨by rw[lA_];exact hz,_,r1.append r2,yfc _ _⟩
end
end L2
namespace L2
open PySem PySem.Spec PyProof.Rows
def ixN(n:Nat)(i:Int):Option Nat:=if 0<=i then(if i<n then some i.toNat else none)else if -(n:Int)<=i then some (i+n).toNat else none
def atI{α:Type}(xs:List α)(i:Int):Option α:=(ixN xs.length i).bind λj=>xs[j]?
theorem qjj {n:Nat} {i:Int} {j:Nat} (h:ixN n i=some j):ygc i n=some j/\j<n /\ -(n:Int)<=i/\i<n:=by
 unfold ixN at h
 by_cases h0:0<=i
 ·rw [if_pos h0]at h
  by_cases h1:i<n
  ·rw[if_pos h1]at h
   have e:i.toNat=j:=yaw h
   exact⟨by rw[ygK h0 h1,e],by omega,by omega,h1⟩
  ·rw[if_neg h1]at h;cases h
 ·rw [if_neg h0]at h
  by_cases h1 : -(n:Int)<=i
  ·rw[if_pos h1]at h
   have e:(i+n).toNat=j:=yaw h
   exact⟨by rw[ygd (by omega) h1,e],by omega,h1,by omega⟩
  ·rw[if_neg h1]at h;cases h
theorem qjk {α:Type} {xs:List α} {i:Int} {v:α} (h:atI xs i=some v):∃j,ygc i xs.length=some j/\xs[j]? = some v/\j<xs.length /\ -(xs.length:Int)<=i/\i<xs.length:=by
 unfold atI at h
 cases e:ixN xs.length i with
 |none=>rw[e]at h;cases h
 |some j=>
  rw[e]at h
  obtain⟨h1,h2,h3,h4⟩:=qjj e
  exact⟨j,h1,h,h2,h3,h4⟩
def qgs(b:Expr):Prop:=∀o i,subscripted b false o i=operate [o,i] (yeP o i)
def IxR (X:Cx) (r:R2):Prop :=
 ∀ (value slice:Expr) (pins:List (Addr×Obj)) (s:yab) (σ:St) (H:Hp) (x y:V) (v u:Value) (Q:VK),Inv X pins σ H s->uk x v->uk y u->r x y H Q ->
  subscripted slice false v u=operate [v,u] (yeP v u)->wpAny (model X.prog X.w) X.A (subscriptTail value slice v u) (EP X pins σ Q) X.xe s
def MtR (X:Cx) (id:String) (r:V->List V->Hp->VK->Prop):Prop :=
 ∀ (pins:List (Addr×Obj)) (s:yab) (σ:St) (H:Hp) (x:V) (xs:List V) (v:Value) (us:List Value) (Q:VK),Inv X pins σ H s->uk x v->zT xs us->r x xs H Q ->
  wpAny (model X.prog X.w) X.A (call (.builtin id) (v::us)) (EP X pins σ Q) X.xe s
section
variable{X:Cx}{a b:Expr}{ta tb:TE}{pos:Pos}
theorem IxR.or {r r':R2} (h:IxR X r) (h':IxR X r'):IxR X (λx y H Q=>r x y H Q\/r' x y H Q):=by
 intro value slice pins s σ H x y v u Q I rx ry q hs
 rcases q with q|q
 ·exact h value slice pins s σ H x y v u Q I rx ry q hs
 ·exact h' value slice pins s σ H x y v u Q I rx ry q hs
theorem qqD {r:R2} (hr:IxR X r) (ha:PE X a ta) (hb:PE X b tb) (hs:qgs b):PE X (.Subscript a b pos) (tOp r ta tb):=by
 intro pins s σ H Q I h
 exact Subscript_ (qss ha hb I h λv u s2 x y H2 I2 rx ry q=>hr a b pins s2 σ H2 x y v u Q I2 rx ry q (hs _ _))
def qsD(K:yas):R2:=λx y H Q=>∃p xs i v,x=.ref p/\y=.int i/\SqL K H p xs/\atI xs i=some v/\Q v H
def qsE(K:yas):R2:=λx y H Q=>∃p xs i v,x=.ref p/\y=.int i/\SqT K H p xs/\atI xs i=some v/\Q v H
theorem qjl:IxR X (qsD X.K):=by
 intro value slice pins s σ H x y v u Q I rx ry h hs
 obtain⟨p,xs,i,z,rfl,rfl,hq,he,q⟩:=h
 cases rx
 obtain⟨t,rfl⟩:=ry
 obtain⟨its,r,pl,hz⟩:=I.list hq
 obtain⟨j,h1,h2,h3,h4,h5⟩:=qjk he
 obtain⟨w,ew,rw'⟩:=r.get h2
 have hl:=r.length
 have hn:=qcC
 have fin:EP X pins σ Q w s:=⟨z,H,I,rw',q⟩
 by_cases h0:0<=i
 ·have hj:i.toNat=j:=by
   rw[ygK h0 h5]at h1
   exact yaw h1
  exact item_listR pl.isList h0 (by omega) (by rw[hj];simpa using ew) fin hs
 ·have hj:(i+(its.toArray.size:Int)).toNat=j:=by
   rw[ygd (by omega) h4]at h1
   rw[sT_,<-hl]
   exact yaw h1
  exact yfm (x:=w) pl.isList.typeIs slot_list_getitem.lookup
   (wpAny_getItem_list_neg (Q:=λr s'=>r=w/\EP X pins σ Q r s') pl.isList (by omega) (by rw[sT_]<;>omega) (by omega) (by rw[hj];simpa using ew) ⟨rfl,fin⟩) hs
theorem qqE:IxR X (qsE X.K):=by
 intro value slice pins s σ H x y v u Q I rx ry h hs
 obtain⟨p,xs,i,z,rfl,rfl,hq,he,q⟩:=h
 cases rx
 obtain⟨t,rfl⟩:=ry
 obtain⟨its,r,pl,hz⟩:=I.tuple hq
 obtain⟨j,h1,h2,h3,h4,h5⟩:=qjk he
 obtain⟨w,ew,rw'⟩:=r.get h2
 have hl:=r.length
 have hn:=qcC
 have fin:EP X pins σ Q w s:=⟨z,H,I,rw',q⟩
 exact yfm (x:=w) pl.typeIs slot_tuple_getitem.lookup
  (getItem_tuple (j:=j) (Q:=λr s'=>r=w/\EP X pins σ Q r s') pl (by omega) (by omega) (by rw[sT_,<-hl];exact h1) (by simpa using ew) ⟨rfl,fin⟩) hs
theorem qii (its:List Value) (n j:Nat) (u:Value):yco (·.setIfInBounds j u) {cls:=.type "list",data:=.seq its.toArray n}={cls:=.type "list",data:=.seq (its.set j u).toArray n}:=by
 simp[yco]
theorem Inv.lst {pins:List (Addr×Obj)} {σ:St} {H:Hp} {s:yab} {p:Addr} {xs:List V} (I:Inv X pins σ H s) (h:H p=some (.lst xs)) :
  ∃(its:List Value)(n:Nat),zT xs its/\s.heap.get? p=some {cls:=.type "list",data:=.seq its.toArray n}/\xs.length<=yav:=by
 obtain⟨z,its,n,r,e⟩:=I.hok p _ h
 exact⟨its,n,r,e,z⟩
theorem Inv.lstUpd {pins:List (Addr×Obj)} {σ:St} {H:Hp} {s:yab} {p:Addr} {xs ys:List V} {its its':List Value} {n n':Nat} {f:Obj->Obj} (I:Inv X pins σ H s) (h:H p=some (.lst xs))
  (ho:s.heap.get? p=some {cls:=.type "list",data:=.seq its.toArray n}) (hf:f {cls:=.type "list",data:=.seq its.toArray n}={cls:=.type "list",data:=.seq its'.toArray n' }) (r:zT ys its') (hz:ys.length<=yav) (t:Nat) :
  Inv X pins σ (upd H p (.lst ys)) {s with heap:=s.heap.update p f,toks:=t}:=by
 have e:(s.heap.update p f).get? p=some {cls:=.type "list",data:=.seq its'.toArray n' }:=by
  rw[Heap.get?_update_self f ho (by rw[hf]<;>rfl),hf]
 refine I.write (x:=p) (e:=p) (by rw[h];trivial) (.inl rfl) (λb u hb q=>(Heap.get?_update_other _ _ (ybs hb)).trans q) ⟨_,e⟩ ?_
 exact⟨hz,its',n',r,e⟩
def qsF:V->V->V->Hp->(Hp->Prop)->Prop:=λo i v H Q=>∃p xs k j,o=.ref p/\i=.int k/\H p=some (.lst xs)/\ixN xs.length k=some j/\Q (upd H p (.lst (xs.set j v)))
theorem qlw:qtc X qsF:=by
 intro pins s σ H o i v ov iv u Q I ro ri rv h
 obtain⟨p,xs,k,j,rfl,rfl,hp,hj,q⟩:=h
 cases ro
 obtain⟨t,rfl⟩:=ri
 obtain⟨its,n,r,ho,hz⟩:=I.lst hp
 obtain⟨h1,h2,h3,h4⟩:=qjj hj
 have hl:=r.length
 have hn:=qcC
 have I':Inv X pins σ (upd H p (.lst (xs.set j v))) {s with heap:=s.heap.update p (yco (·.setIfInBounds j u))} :=
  I.lstUpd hp ho (qii its n j u) (r.set rv j) (by rw[lS_];exact hz) s.toks
 by_cases h0:0<=k
 ·have hk:k.toNat=j:=by
   rw[ygK h0 h4]at h1
   exact yaw h1
  exact PySem.W.ki_setAt ho h0 (by omega) (by rw[sT_,<-hl];exact h4) (by rw[hk];exact⟨_,I',q⟩)
 ·have hk:(k+(its.toArray.size:Int)).toNat=j:=by
   rw[ygd (by omega) h3]at h1
   rw[sT_,<-hl]
   exact yaw h1
  exact PySem.W.ki_setBack ho (by omega) (by rw[sT_,<-hl];exact h3) (by omega) (by rw[hk];exact⟨_,I',q⟩)
theorem qfd (lo hi:Option Int) (n:Nat):(yc2 lo hi none n).1=((HT.sIx n 0 lo:Nat):Int)/\(yc2 lo hi none n).2.1=((HT.sIx n n hi:Nat):Int)/\(yc2 lo hi none n).2.2=1:=by
 refine⟨?_,?_,rfl⟩
 ·cases lo with
  |none=>simp[yc2,HT.sIx]
  |some i=>
   simp only[yc2,HT.sIx,Option.getD_none,show(1:Int)>0 by decide,if_true]
   by_cases h:i<0
   ·simp only[h,if_true]<;>omega
   ·simp only[h,if_false]<;>omega
 ·cases hi with
  |none=>simp[yc2,HT.sIx]
  |some i=>
   simp only[yc2,HT.sIx,Option.getD_none,show(1:Int)>0 by decide,if_true]
   by_cases h:i<0
   ·simp only[h,if_true]<;>omega
   ·simp only[h,if_false]<;>omega
theorem qea (its:List Value) (lo hi:Option Int):slicePick its.toArray lo hi none=((its.drop (HT.sIx its.length 0 lo)).take (HT.sIx its.length its.length hi-HT.sIx its.length 0 lo)).toArray:=by
 obtain⟨h1,h2,h3⟩:=qfd lo hi its.toArray.size
 unfold slicePick
 rw[h1,h2,h3]
 simp only[sliceRange_one,pick_run,sT_]<;>rfl
def qtP(K:yas):V->Option Int->Option Int->Hp->VK->Prop:=λx lo hi H Q=>∃a xs,x=.ref a/\SqL K H a xs/\∀p,H p=none->Q (.ref p) (upd H p (.lst (qld xs lo hi)))
theorem qor:SlR X (qtP X.K):=by
 intro pins s σ H x v vl vu lo hi sl Q I rx hs pl pu h
 obtain⟨a,xs,rfl,hx,q⟩:=h
 cases rx
 obtain⟨its,r,ht,hz⟩:=I.list hx
 have hlen:=r.length
 refine⟨"list",_,slot_list_getitem.lookup,ht.isList.typeIs,?_⟩
 refine wpAny_getItem_list_slice ht.isList hs pl pu .none (by simp) ?_ (by rw[sT_]<;>omega)
 rw[qea,<-hlen]
 refine⟨.ref s.heap.objs.size,_,I.laid (t':=s.toks) (o:=.lst (qld xs lo hi)) (λb ob q=>Heap.get?_push_of_some _ q) (yah _) ?_,rfl,q _ (I.hok.fresh (yah _))⟩
 exact⟨yaP (qcD xs lo hi) hz,_,0,(r.drop (HT.sIx xs.length 0 lo)).take (HT.sIx xs.length xs.length hi-HT.sIx xs.length 0 lo),Heap.get?_push_size _ rfl⟩
def qcj:V->Bool
 |.non=>true
 |.bl _=>true
 |.int _=>true
 |.str _=>true
 |_=>false
def eqV:V->V->Bool
 |.non,.non=>true
 |.bl a,.bl b=>a==b
 |.bl a,.int b=>(if a then 1 else 0)==b
 |.int a,.bl b=>a==(if b then 1 else 0)
 |.int a,.int b=>a==b
 |.str a,.str b=>a==b
 |_,_=>false
theorem qqF {A:yau} {s:yab} {y x:V} {u v:Value} (ry:uk y u) (rx:uk x v) (fy:qcj y=true) (fx:qcj x=true):yfJ A s u v (eqV y x):=by
 cases y with
 |non=>
  cases ry
  cases x with
  |non=>cases rx;exact SeqAt.EqAt.same _
  |bl b=>cases rx;exact SeqAt.EqAt.none_bool b
  |int b=>obtain⟨t,rfl⟩:=rx;exact SeqAt.EqAt.none_int b t
  |str b=>obtain⟨t,rfl⟩:=rx;exact SeqAt.EqAt.none_str b t
  |_=>exact absurd (show false=true from fx) yaq
 |bl a=>
  cases ry
  cases x with
  |non=>cases rx;exact SeqAt.EqAt.bool_none a
  |bl b=>cases rx;exact SeqAt.EqAt.bool_bool a b
  |int b=>obtain⟨t,rfl⟩:=rx;exact SeqAt.EqAt.bool_int a b t
  |str b=>obtain⟨t,rfl⟩:=rx;exact SeqAt.EqAt.bool_str a b t
  |_=>exact absurd (show false=true from fx) yaq
 |int a=>
  obtain⟨t',rfl⟩:=ry
  cases x with
  |non=>cases rx;exact SeqAt.EqAt.int_none a t'
  |bl b=>cases rx;exact SeqAt.EqAt.int_bool a t' b
  |int b=>obtain⟨t,rfl⟩:=rx;exact yf8 a t' b t
  |str b=>obtain⟨t,rfl⟩:=rx;exact yf1 a t' b t
  |_=>exact absurd (show false=true from fx) yaq
 |str a=>
  obtain⟨t',rfl⟩:=ry
  cases x with
  |non=>cases rx;exact SeqAt.EqAt.str_none a t'
  |bl b=>cases rx;exact SeqAt.EqAt.str_bool a t' b
  |int b=>obtain⟨t,rfl⟩:=rx;exact yf2 a t' b t
  |str b=>obtain⟨t,rfl⟩:=rx;exact SeqAt.EqAt.str_str a t' b t
  |_=>exact absurd (show false=true from fx) yaq
 |_=>exact absurd (show false=true from fy) yaq
def eqU (x:V) (u:Value):Bool:=match u with
 |.none=>eqV .non x
 |.bool b=>eqV (.bl b) x
 |.int i _=>eqV (.int i) x
 |.str z _=>eqV (.str z) x
 |_=>false
theorem qno {x y:V} {u:Value} (r:uk y u) (f:qcj y=true):eqU x u=eqV y x:=by
 cases y with
 |non=>cases r;rfl
 |bl b=>cases r;rfl
 |int i=>obtain⟨t,rfl⟩:=r;rfl
 |str z=>obtain⟨t,rfl⟩:=r;rfl
 |_=>exact absurd (show false=true from f) yaq
theorem qgt {x:V}:∀{xs:List V}{us:List Value},zT xs us->xs.all qcj=true->us.any (eqU x)=xs.any λy=>eqV y x
 |_,_,.nil,_=>rfl
 |y::xs,u::us,.cons r t,f=>by
  rw[ych,yan]at f
  rw[List.any_cons,List.any_cons,qno r f.1,qgt t f.2]
theorem qeb {A:yau} {s:yab} {x:V} {v:Value} (rx:uk x v) (fx:qcj x=true):∀{xs:List V}{us:List Value},zT xs us->xs.all qcj=true->∀u∈us,yfJ A s u v (eqU x u)
 |_,_,.nil,_=>λu hu=>by cases hu
 |y::xs,u::us,.cons r t,f=>λu' hu=>by
  rw[ych,yan]at f
  rcases List.mem_cons.mp hu with rfl|hu
  ·rw[qno r f.1];exact qqF r rx f.1 fx
  ·exact qeb rx fx t f.2 u' hu
def inV(x:V)(xs:List V):Bool:=xs.any λy=>eqV y x
def rIn(K:yas)(neg:Bool):R2:=λx y H Q=>∃p xs,y=.ref p/\(SqL K H p xs\/SqT K H p xs)/\qcj x=true/\xs.all qcj=true/\Q (.bl (if neg then !inV x xs else inV x xs)) H
theorem qfe:OpR X (yaL .NotIn) (rIn X.K true):=by
 intro pins s σ H x y v u Q I rx ry h
 obtain⟨p,xs,rfl,hq,fx,fs,q⟩:=h
 cases ry
 rcases hq with hq|hq
 ·obtain⟨its,r,pl,hz⟩:=I.list hq
  refine SeqAt.notIn_listAt (eqU x) pl.isList (λw hw=>qeb rx fx r fs w (by simpa using hw)) ⟨.bl _,H,I,rfl,?_⟩
  rw[show its.toArray.any (eqU x)=its.any (eqU x) by simp,qgt r fs]
  exact q
 ·obtain⟨its,r,pl,hz⟩:=I.tuple hq
  refine SeqAt.notIn_tupleAt (eqU x) pl (λw hw=>qeb rx fx r fs w (by simpa using hw)) ⟨.bl _,H,I,rfl,?_⟩
  rw[show its.toArray.any (eqU x)=its.any (eqU x) by simp,qgt r fs]
  exact q
theorem qff:uS X (.builtin "len") (λxs H Q=>∃p ys,xs=[.ref p]/\(SqL X.K H p ys\/SqT X.K H p ys)/\Q (.int ys.length) H):=by
 intro pins s σ H xs us Q I r h
 obtain⟨p,ys,rfl,hq,q⟩:=h
 obtain⟨u,rfl,rx⟩:=qok r
 cases rx
 have hn:=qcC
 rcases hq with hq|hq
 ·obtain⟨its,r',pl,hz⟩:=I.list hq
  have hlen:=r'.length
  exact Calls.call_len_list pl.isList (by simp only[sT_]<;>omega) ⟨.int ys.length,H,I.tok _,⟨s.toks+1,by rw[sT_,hlen]⟩,q⟩
 ·obtain⟨its,r',pl,hz⟩:=I.tuple hq
  have hlen:=r'.length
  exact len_tuple pl (by simp only[sT_]<;>omega) ⟨.int ys.length,H,I.tok _,⟨s.toks+1,by rw[sT_,hlen]⟩,q⟩
theorem qfg:uS X (.builtin "len") (λxs H Q=>∃z,xs=[.str z]/\z.length<=yav/\Q (.int z.length) H):=by
 intro pins s σ H xs us Q I r h
 obtain⟨z,rfl,hz,q⟩:=h
 obtain⟨u,rfl,t,rfl⟩:=qok r
 have hn:=qcC
 exact len_str (by omega) ⟨.int z.length,H,I.tok _,⟨_,rfl⟩,q⟩
theorem uS.or {f:Value} {r r':List V->Hp->VK->Prop} (h:uS X f r) (h':uS X f r'):uS X f (λxs H Q=>r xs H Q\/r' xs H Q):=by
 intro pins s σ H xs us Q I rs q
 rcases q with q|q
 ·exact h pins s σ H xs us Q I rs q
 ·exact h' pins s σ H xs us Q I rs q
theorem qbk:uS X (.type "tuple") (λxs H Q=>∃p ys,xs=[.ref p]/\((SqL X.K H p ys/\∀l,H l=none->Q (.ref l) (upd H l (.tup ys)))\/(SqT X.K H p ys/\Q (.ref p) H))):=by
 intro pins s σ H xs us Q I r h
 obtain⟨p,ys,rfl,h⟩:=h
 obtain⟨u,rfl,rx⟩:=qok r
 cases rx
 rcases h with⟨hq,q⟩|⟨hq,q⟩
 ·obtain ⟨its,r',pl,hz⟩:=I.list hq
  have hlen:=r'.length
  refine call_tuple_list pl.isList (λh' kp=>?_) (by simp only[sT_]<;>omega)
  have I1:Inv X pins σ H {s with heap:=h' }:=I.kept (t':=s.toks) kp
  have I2:Inv X pins σ (upd H h'.objs.size (.tup ys)) {s with heap:=h'.push {cls:=.type "tuple",data:=.seq its.toArray} } :=
   I1.laid (t':=s.toks) (λb o e=>Heap.get?_push_of_some _ e) (yah _) (show u7 X.prog X.w _ _ _ (.tup ys) from⟨hz,its,r',yfc _ _⟩)
  exact⟨.ref h'.objs.size,_,I2,rfl,q _ (I1.hok.fresh (yah _))⟩
 ·obtain⟨its,r',pl,hz⟩:=I.tuple hq
  exact call_tuple_same pl ⟨.ref p,H,I,rfl,q⟩
def tyV (K:yas) (T:String) (x:V) (H:Hp):Prop:=match x with
 |.str _=>T="str"
 |.int _=>T="int"
 | .ref p=>(T="list"/\∃xs,SqL K H p xs)\/(T="tuple"/\∃o,K.lookup p=some o/\o.cls=.type "tuple"/\o.dict=none) \/
   (T="dict"/\((∃kvs,H p=some (.dK kvs))\/∃kvs,H p=some (.dT kvs)))\/(T="set"/\∃S n,H p=some (.set S n))
 |_=>False
theorem qqG {pins:List (Addr×Obj)} {σ:St} {H:Hp} {s:yab} {T:String} {x:V} {v:Value} (I:Inv X pins σ H s) (r:uk x v) (ty:tyV X.K T x H) :
  s.TypeIs v T/\∀a,v=.ref a->∃ob,s.heap.get? a=some ob/\ob.dict=none:=by
 cases x with
 |str z=>
  obtain⟨t,rfl⟩:=r
  cases (show T="str" from ty)
  exact⟨typeIs_str s z t,λ_ e=>nomatch e⟩
 |int i=>
  obtain⟨t,rfl⟩:=r
  cases (show T="int" from ty)
  exact⟨yeK s i t,λ_ e=>nomatch e⟩
 | ref p=>
  cases r
  rcases ty with⟨rfl,xs,hq⟩|⟨rfl,o,hk,hc,hd⟩|⟨rfl,hk⟩|⟨rfl,S,n,hk⟩
  ·obtain⟨its,_,pl,_⟩:=I.list hq
   refine⟨pl.isList.typeIs,λa e=>?_⟩
   cases e
   obtain⟨o,n,e,c,hd,_⟩:=pl
   exact⟨o,e,hd⟩
  ·refine⟨⟨o,I.kIn p o hk,hc⟩,λa e=>?_⟩
   cases e
   exact⟨o,I.kIn _ o hk,hd⟩
  ·have z:∃o,s.heap.get? p=some o/\o.ExactDict:=by
    rcases hk with⟨kvs,hk⟩|⟨kvs,hk⟩
    ·obtain⟨_,_,_,_,o,_,_,e,ex,_⟩:=I.hok p _ hk
     exact⟨o,e,ex⟩
    ·obtain⟨_,_,_,_,o,_,_,e,ex,_⟩:=I.hok p _ hk
     exact⟨o,e,ex⟩
   obtain⟨o,e,ex⟩:=z
   refine⟨⟨o,e,ex.1⟩,λa e2=>?_⟩
   cases e2
   exact⟨o,e,ex.2.1⟩
  ·obtain⟨o,_,_,_,e,ex,_⟩:=I.hok p _ hk
   refine⟨⟨o,e,ex.1⟩,λa e2=>?_⟩
   cases e2
   exact⟨o,e,ex.2.1⟩
 |_=>exact yb9 ty
def tBM(K:yas)(T:String)(r:V->List V->Hp->VK->Prop)(to:TE)(t:TA):TE:=λσ H Q=>to σ H λx H1=>tyV K T x H1/\t σ H1 λxs H2=>r x xs H2 Q
variable{o e:Expr}{es:List Expr}{to:TE}{t:TA}{name:Str}{apos cpos:Pos}{T id:String}{r:V->List V->Hp->VK->Prop}
theorem qos (pa:PlainAttrs T) (slot:Slot T name id) (hty:typeOf (.builtin id)=pure (.type "method_descriptor")) (hm:MtR X id r) (ho:PE X o to) (ha:PA X (e::es) t)
  (hbase:yet o name X.env (eval o X.env)=eval o X.env:=by rfl)
  (hfew:((ybb cpos (yam (e::es) X.env)).all (λx => !x.1)&&(ycs cpos (ybM [] X.env)).all (λx=>x.1.isSome)
   && decide ((e::es).length+([]:List ycq).length+(if([]:List ycq).isEmpty then 0 else 1)<30))=true:=by rfl)
  (hline:(apos.endLine==cpos.line)=true:=by rfl) (hs:yam (e::es) X.env=(false,eval e X.env)::yam es X.env:=by rfl) (hplain:(ybb cpos (yam es X.env)).any (·.1)=false:=by rfl) :
  PE X (.Call (.Attribute o name apos) (e::es) [] cpos) (tBM X.K T r to t):=by
 intro pins s σ H Q I h
 refine wpAny_Call_method_late hbase hfew hline rfl (thn (ho pins s σ H _ I h) λv s1 ⟨x,H1,I1,r1,ty,q1⟩=>?_)
 obtain⟨h1,h2⟩:=qqG I1 r1 ty
 refine⟨T,id,pa,slot,hty,h1,h2,?_⟩
 have hA:=ha cpos pins s1 σ H1 _ I1 q1
 rw[hs]at hA |-
 refine Calls.callWith_builtin (by show(false||(ybb cpos (yam es X.env)).any (·.1))=false;rw[hplain]<;>rfl) (Calls.evalArgs_plain ?_)
 exact thn hA λus s2 ⟨vs,H2,I2,r2,q2⟩=>hm pins s2 σ H2 x vs v us Q I2 r1 r2 q2
/- xs.append(e),list.index on a module's tuple .. are MtR facts of 06m -/
end
end L2
namespace L2
open PySem PySem.Spec PyProof.Rows
def MtM (X:Cx) (id:String) (r:V->List V->Hp->VK->Prop):Prop :=
 ∀ (pins:List (Addr×Obj)) (s:yab) (σ:St) (H:Hp) (x:V) (xs:List V) (v:Value) (us:List Value) (Q:VK),Inv X pins σ H s->uk x v->zT xs us->r x xs H Q ->
  wpAny (model X.prog X.w) X.A (call (.builtin id) (v::us)) (EP X pins σ Q) X.xe s
theorem zT.one:∀{x:V}{us:List Value},zT [x] us->∃u,us=[u]/\uk x u
 |_,_,.cons r .nil=>⟨_,rfl,r⟩
theorem zT.two:∀{x y:V}{us:List Value},zT [x,y] us->∃u v,us=[u,v]/\uk x u/\uk y v
 |_,_,_,.cons r (.cons q .nil)=>⟨_,_,rfl,r,q⟩
theorem zT.rep {xs:List V} {us:List Value} (h:zT xs us):∀k:Nat,zT (yap k xs).flatten (yap k us).flatten
 |0 => .nil
 |k+1=>by
  rw[rS_,rS_,ybE,ybE]
  exact zT.append h (zT.rep h k)
theorem qcE (its:List Value):∀(k:Nat)(acc:List Value),
  yfK (λx1 x2=>x1++x2) acc.toArray (yap k its.toArray)=(acc++(yap k its).flatten).toArray
 |0,acc=>by simp
 | k+1,acc=>by
  have e:acc.toArray++its.toArray=(acc++its).toArray:=by simp
  have e2:(acc++its)++(yap k its).flatten=acc++(yap (k+1) its).flatten:=by
   rw[rS_,ybE,aA_]
  rw[<-e2,<-qcE its k (acc++its),<-e,rS_,fo_]
section
variable{X:Cx}{pins:List (Addr×Obj)}{σ:St}{H:Hp}{s:yab}{l b:Addr}{xs ys zs:List V}
theorem Inv.lset {its its':List Value} {n:Nat} {f:Array Value->Array Value} {t':Nat} (I:Inv X pins σ H s) (hH:H l=some (.lst xs))
  (e:s.heap.get? l=some {cls:=.type "list",data:=.seq its.toArray n}) (hf:f its.toArray=its'.toArray) (hv:zT ys its') (hz:ys.length<=yav) :
  Inv X pins σ (upd H l (.lst ys)) {s with heap:=s.heap.update l (yco f),toks:=t' }:=by
 have q:=PySem.IsL.update e f
 rw[hf]at q
 refine I.write (x:=l) (e:=l) (by rw[hH];exact trivial) (.inl rfl) (λb' u hb hu=>(Heap.get?_update_other s.heap (yco f) (ybs hb)).trans hu) ⟨_,q⟩ ?_
 exact⟨hz,its',_,hv,q⟩
theorem Inv.lnew {its:List Value} {t':Nat} (I:Inv X pins σ H s) (hv:zT ys its) (hz:ys.length<=yav) :
  Inv X pins σ (upd H s.heap.objs.size (.lst ys)) {s with heap:=s.heap.push {cls:=.type "list",data:=.seq its.toArray},toks:=t' } :=
 I.laid (λ_ _ q=>Heap.get?_push_of_some _ q) (yah _) ⟨hz,its,0,hv,Heap.get?_push_size _ rfl⟩
theorem Inv.fresh(I:Inv X pins σ H s):H s.heap.objs.size=none:=I.hok.fresh (yah _)
theorem Inv.lstM (I:Inv X pins σ H s) (hH:H l=some (.lst xs)):xs.length<=yav/\∃(its:List Value)(n:Nat),zT xs its/\xs.length=its.length/\s.heap.get? l=some {cls:=.type "list",data:=.seq its.toArray n}:=by
 obtain⟨z,its,n,r,e⟩:=I.hok l _ hH
 exact⟨z,its,n,r,r.length,e⟩
theorem qhi {n:Nat} (h:n<=yav):ycu n=false:=by
 unfold ycu
 exact decide_eq_false (by omega)
end
section
variable{X:Cx}
def qot:V->List V->Hp->VK->Prop:=λx vs H Q=>∃l xs y,x=.ref l/\vs=[y]/\H l=some (.lst xs)/\xs.length<yav/\Q .non (upd H l (.lst (xs++[y])))
theorem qcF:MtM X "list.append" qot:=by
 intro pins s σ H x vs v us Q I rx rv h
 obtain⟨l,xs,y,rfl,rfl,hH,hz,q⟩:=h
 cases rx
 obtain⟨u,rfl,ru⟩:=rv.one
 obtain⟨z,its,n,r,hl,e⟩:=I.lstM hH
 refine ycV F.slot_list_append ⟨_,e,rfl⟩ F.entry_list_append (F.args_list_append_2 _ _) (PySem.list_append l its.toArray n u (by rw[sT_];omega)) ⟨e,?_⟩
 refine⟨.non,_,I.lset (its':=its++[u]) hH e (by simp) (r.append (.cons ru .nil)) ?_,rfl,q⟩
 rw[lA_,yaY]
 omega
def qou:V->List V->Hp->VK->Prop:=λx vs H Q=>∃l b xs zs,x=.ref l/\vs=[.ref b]/\H l=some (.lst xs)/\H b=some (.lst zs)/\xs.length+zs.length<=yav/\Q .non (upd H l (.lst (xs++zs)))
theorem qqH:MtM X "list.extend" qou:=by
 intro pins s σ H x vs v us Q I rx rv h
 obtain⟨l,b,xs,zs,rfl,rfl,hH,hB,hz,q⟩:=h
 cases rx
 obtain⟨u,rfl,ru⟩:=rv.one
 cases ru
 obtain⟨z,its,n,r,hl,e⟩:=I.lstM hH
 obtain⟨z2,its2,n2,r2,hl2,e2⟩:=I.lstM hB
 have hsz:its.toArray.size+its2.toArray.size<=yav:=by rw[sT_,sT_];omega
 have hlong:¬(!its.toArray.isEmpty&&ycu (its.toArray.size+its2.toArray.size))=true:=by
  rw[qhi hsz,Bool.and_false]
  exact yaq
 refine ycV F.slot_list_extend ⟨_,e,rfl⟩ F.entry_list_extend (F.args_list_extend_2 _ _)
  (AutoSeq1.list_extend_list_list_0 l its.toArray n b its2.toArray n2 hlong (by rw[sT_];omega) (by omega)) ⟨e,e2,?_⟩
 refine⟨.non,_,I.lset (its':=its++its2) hH e (by simp) (r.append r2) ?_,rfl,q⟩
 rw[lA_]
 omega
def qtj:R2:=λx y H Q=>∃l b xs zs,x=.ref l/\y=.ref b/\H l=some (.lst xs)/\H b=some (.lst zs)/\xs.length+zs.length<=yav/\∀p,H p=none->Q (.ref p) (upd H p (.lst (xs++zs)))
theorem qqI:OpR X (ybx .Add) qtj:=by
 intro pins s σ H x y v u Q I rx ry h
 obtain⟨l,b,xs,zs,rfl,rfl,hH,hB,hz,q⟩:=h
 cases rx
 cases ry
 obtain⟨z,its,n,r,hl,e⟩:=I.lstM hH
 obtain⟨z2,its2,n2,r2,hl2,e2⟩:=I.lstM hB
 refine PySem.P.add_list e e2 ?_ (by rw[sT_,sT_];omega)
 have ea:its.toArray++its2.toArray=(its++its2).toArray:=by simp
 rw[ea]
 exact⟨.ref _,_,I.lnew (t':=s.toks) (r.append r2) (by rw[lA_];omega),rfl,q _ I.fresh⟩
def qtk:R2:=λx y H Q=>∃l k xs,x=.ref l/\y=.int k/\H l=some (.lst xs) /\ -(2 ^ 63)<=k/\k<2 ^ 63/\xs.length*k.toNat<=yav /\
 ∀p,H p=none->Q (.ref p) (upd H p (.lst (yap k.toNat xs).flatten))
theorem qgu {α:Type} (xs:List α) (k:Nat):(yap k xs).flatten.length=k*xs.length:=by
 induction k with
 |zero=>simp
 |succ k ih=>rw[rS_,ybE,lA_,ih,ybN,Nat.add_comm]
theorem qqJ:OpR X (ybx .Mult) qtk:=by
 intro pins s σ H x y v u Q I rx ry h
 obtain⟨l,k,xs,rfl,rfl,hH,h1,h2,hz,q⟩:=h
 cases rx
 obtain⟨t,rfl⟩:=ry
 obtain⟨z,its,n,r,hl,e⟩:=I.lstM hH
 have hlen:its.toArray.size*k.toNat<=yav:=by rw[sT_,<-hl];exact hz
 have hcap:¬its.toArray.size*k.toNat>(2 ^ 63-1)/8:=by
  have:(yav:Nat)<=(2 ^ 63-1)/8:=by decide
  omega
 have hfit:¬(!Builtin.List.listFitsIndex k)=true:=by
  rw[fitsIndex_both h1 h2]
  exact yaq
 have hlong:¬ycu (its.toArray.size*k.toNat)=true:=by
  rw[qhi hlen]
  exact yaq
 have hnew:yfK (λx1 x2=>x1++x2) #[] (yap (if its.toArray.isEmpty=true then 0 else k.toNat) its.toArray)=(yap k.toNat its).flatten.toArray:=by
  have f0:∀m:Nat,yfK (λx1 x2=>x1++x2) #[] (yap m its.toArray)=(yap m its).flatten.toArray:=λm=>by
   have:=qcE its m []
   rw[yaJ]at this
   exact this
  rw[f0]
  cases its with
  |nil=>simp
  |cons a r'=>rw[if_neg (by simp)]
 refine yeL (T:="list") (U:="int") (by decide) ⟨_,e,rfl⟩ (λs'=>yeK s' k t) noFill_list_mul F.fills_int_mul yd0 repeat_list F.slot_int_index.lookup
  (ycV yd0 (yeK s k t) F.entry_int_rmul (ygw _ _) (int___rmul___int_list k t l its.toArray n)
   ⟨e,rfl,⟨_,e,rfl⟩,ycV F.slot_list_mul ⟨_,e,rfl⟩ F.entry_list_mul (F.args_list_mul_2 _ _) (AutoListH.list___mul___list_int_3 l its.toArray n k t hfit hcap hlong) ⟨e,?_⟩⟩)
 rw[hnew]
 exact⟨.ref _,_,I.lnew (t':=s.toks) (r.rep k.toNat) (by rw[qgu,ybO];exact hz),rfl,q _ I.fresh⟩
end
section
variable{prog:yar}{w:World}{A:yau}{E:Value->yab->Prop}{s:yab}
set_option maxRecDepth 100000 in
end
end L2
namespace Att
open PySem PySem.W PySem.Calls PyProof.Rows
theorem qcG {P:Params} {h:Heap}:∀(ns:List Int)(vs:List Value),WellAll P h vs (ns.map WData.int)->ybJ vs ns:=by
 intro ns
 induction ns with
 |nil=>
  intro vs w
  rw[ycO]at w
  cases w
  exact .nil
 | cons n ns ih=>
  intro vs w
  rw[mC_]at w
  cases w with
  |cons a b=>
   cases a
   exact .cons _ _ (ih _ b)
theorem qjm {l:OpenLaw} {n:Nat} (hn:l.most=some n) {P:Params} {h:Heap} {args:List WData} {vals:List Value}
  (hpre:l.row.toRowW.claim.pre args=true) (hwl:WellAll P h vals args) :
  ∃a vs ns,vals=[yat a]/\args=[WData.list (ns.map WData.int)]/\h.get? a=some {cls:=.type "list",data:=.seq vs.toArray}/\ybJ vs ns/\ns.length<=n:=by
 have hsh:WShape.hasAll [] args [.list .int]=true:=(pre_splitW hpre).1
 have hc:l.pre.holds [] {args:=args}=true:=(pre_splitW hpre).2
 obtain⟨d,r,rfl,h1,h2⟩:=hasAllW_cons hsh
 obtain rfl:=hasAllW_nil h2
 obtain⟨xs,rfl,h3⟩:=hasW_list h1
 obtain⟨ns,rfl⟩:=items_int h3
 have hlen:ns.length<=n:=by
  unfold OpenLaw.pre at hc
  have h4:(WTm.not (.lt (.lit (.int (n:Int))) (.len (.arg 0)))).holds [] {args:=[.list (ns.map .int)]}=true:=by
   have h4:=(holds_andW hc).1
   rw[hn]at h4
   exact h4
  have h5:=condW_of h4 (w_not (w_lt w_lit (w_len_list (w_arg rfl))))
  rw[lM_]at h5
  refine ybQ λq=>?_
  have q':(n:Int)<((ns.length:Nat):Int):=by omega
  first
   |(rw[decide_eq_true q']at h5;exact absurd h5 (by decide))
   |(simp at h5;omega)
 cases hwl with
 |cons w1 w2=>
  cases w2
  cases w1 with
  |list ho hall=>exact⟨_,_,ns,rfl,rfl,ho,qcG ns _ hall,hlen⟩
theorem qjn (l:OpenLaw) (args:List WData):l.row.toRowW.claim.post args (.bool true) args=true :=
 postW_of (r:=l.row.toRowW) (X:=(true==true))
  (show WShape.has [] (.bool true) .bool=true by first|rfl|decide|simp[WShape.has,WShape.arms,WShape.armsAll])
  (show(WTm.eq .res (.lit (.bool true))).value [] {args:=args,res:=some (.bool true),after:=args}=some (.bool (true==true))from w_eq_bool (w_res rfl) w_lit) rfl
theorem attach_call {l:OpenLaw} {n:Nat} {q:yar} {loose:List Str} {XP:(Str->Option Value)->Heap->Prop} {YP:World->Heap->Prop} {d:DefRec}
  (hn:l.most=some n) (hdf:d.params.defaults=[])
  (call:∀(w:World)(s₀ sV:yab)(mg mb:Str->Option Value)(fa:Addr)(o:Obj)(pm cd doc:Value)(a:Addr)(vs:List Value)(ns:List Int),
   Ground q loose [] XP w s₀ mg mb sV.heap->YP w sV.heap ->
   sV.heap.get? fa=some o->o.data=.func (docDef d.name d.params d.body d.scope pm cd doc)->sV.heap.CodeRec cd d.name->mg d.name=some (.ref fa) ->
   sV.heap.get? a=some {cls:=.type "list",data:=.seq vs.toArray}->ybJ vs ns->ns.length<=n->sV.gens = #[] ->
   ybI (model l.prog w) yeQ (.call (.ref fa) ⟨[.ref a],[]⟩) (λr s'=>r=.ok (.ret (.bool true))/\OldK sV.heap s'.heap/\s'.os=sV.os/\ydh s'.gens) sV) :
  WalkO q loose XP YP l.row.toRowW d [] (λf vs=>ygT f vs):=by
 intro w s₀ sV mg mb G Y fa o pm cd doc dV kV ho hd hcd hD hmg hg args vals as hpre hlay hrd hwl hlo
 obtain rfl:dV=.none:=Dflts.none hD hdf
 obtain rfl:kV=.none:=Dflts.noKw hD
 obtain⟨a,vs,ns,rfl,rfl,hobj,hints,hlen⟩:=qjm hn hpre hwl
 refine enter_call (ydV (call w s₀ sV mg mb fa o pm cd doc a vs ns G Y ho (fd_plain hd) hcd hmg hobj hints hlen hg) λr s' hq=>?_)
 obtain⟨rfl,h2,h3,h4⟩:=hq
 exact⟨.inl ⟨.bool true,.bool true,[],rfl,λ_=>rfl,.bool true,qjn l _,λ_=>⟨List.Pairwise.nil,λ_ hm=>(nomatch hm)⟩⟩,h2,h3,h4⟩
end Att
namespace L2
open PySem PySem.Spec PyProof.Rows
theorem qfh:∀{vs:List Value}{ns:List Int},ybJ vs ns->zT (ns.map V.int) vs
 |_,_,.nil => .nil
 |_,_,.cons n t h => .cons ⟨t,rfl⟩ (qfh h)
def qr8(H:Hp):Prop:=∀b,H b=none\/(∃o xs,H b=some (.frz o (.lst xs)))\/∃pos q,H b=some (.lam pos q)
def qr9:Option (Addr×Addr×Pos×Str)->Hp
 |some (_,Pt,pos,q)=>λb=>if b=Pt then some (.lam pos q)else none
 |none=>λ_=>none
theorem qlx {P:yar} {w:World} {K:yas} {mg mb:Str->Option Value} {CX:CXT} {k:Nat} {fa a:Addr} {fd:ybn} {x:Str} {sp:Sp} {sV:yab} {vs:List Value} {ns:List Int} {lm:Option (Addr×Addr×Pos×Str)}
  (KX:K.In sV.heap) (hns:sV.heap.Ns yad mg) (hb:sV.heap.Ns ydg mb) (hbb:∀x:Str,x≠"__name__"->mb x=yaF x) (hlim:sV.heap.NoLimit)
  (hbm:∃bm ob,mg "__builtins__"=some (.ref bm)/\bm≠ydg/\sV.heap.get? bm=some ob/\ob.cls=.type "module"/\ob.dict=some ydg/\ob.data=.plain)
  (hlm:∀c Pt pos q,lm=some (c,Pt,pos,q)->yfz sV.heap c Pt/\sV.heap.get? Pt=some (yfA #[])/\K.lookup Pt=none)
  (hg:sV.gens = #[])
  (ha:sV.heap.get? a=some {cls:=.type "list",data:=.seq vs.toArray}) (hi:ybJ vs ns) (hl:ns.length<=yav) (hr:qac k yeQ)
  (F:∀base:Heap,K.In base->base.Ns yad mg->qe5 P w K mg base CX k fa fd [x] sp) (hbind:∀(s:yab)(u:Value),yfy s fd ⟨[u],[]⟩ [(x,u)])
  (hsp:∀H:Hp,qr8 H->(∀c Pt pos q,lm=some (c,Pt,pos,q)->H Pt=some (.lam pos q))->SqL K H a (ns.map V.int)->sp [.ref a] H (λv _=>v=.bl true) λ_ _ _=>False)
  (hCX:∀H e s',CX [] H sV (λ_ _ _=>False) e s'->False) :
  ybI (model P w) yeQ (.call (.ref fa) ⟨[.ref a],[]⟩) (λr s'=>r=.ok (.ret (.bool true))/\OldK sV.heap s'.heap/\s'.os=sV.os/\ydh s'.gens) sV:=by
 have rv:=qfh hi
 have lenV:=hi.length
 have core:∀H:Hp,qr8 H->(∀c Pt pos q,lm=some (c,Pt,pos,q)->H Pt=some (.lam pos q))->SqL K H a (ns.map V.int)->HOk P w H sV.heap ->
   (∀b u,H b=some u->K.lookup b=none/\((∃o xs,u=.frz o (.lst xs))\/∃c pos q,lm=some (c,b,pos,q)/\u=.lam pos q)) ->
   ybI (model P w) yeQ (.call (.ref fa) ⟨[.ref a],[]⟩) (λr s'=>r=.ok (.ret (.bool true))/\OldK sV.heap s'.heap/\s'.os=sV.os/\ydh s'.gens) sV:=by
  intro H hO hT hS hok hA
  have base_of:∀{b:Addr}{o:Obj},sV.heap.get? b=some o->H b=none->(qlj sV.heap H).get? b=some o:=λe n=>qlk e n
  have noD:∀{b:Addr}{o:Obj},sV.heap.get? b=some o->(∀its n,o.data ≠ .seq its n)->(∀f,o.data ≠ .fields f)->H b=none:=λ{b o} e d1 d2=>by
   cases q:H b with
   |none=>rfl
   | some u=>
    rcases(hA b u q).2 with⟨ob,xs,rfl⟩|⟨c,pos,q',hl2,rfl⟩
    ·obtain⟨e1,_,its,n,_,e2⟩:=hok b _ q
     rw[e]at e2;cases e2
     exact(d1 _ _ rfl).elim
    ·have e2:=(hlm _ _ _ _ hl2).2.1
     rw[e]at e2;cases e2
     exact(d2 _ rfl).elim
  have nsK:∀{b:Addr}{m:Str->Option Value},sV.heap.Ns b m->(qlj sV.heap H).Ns b m:=λ{b m} ⟨o,es,ep,e,d,r⟩=>⟨o,es,ep,base_of e (noD e (λ_ _ z=>by rw[d]at z;cases z) λ_ z=>by rw[d]at z;cases z),d,r⟩
  have hKb:K.In (qlj sV.heap H):=λb o e=>base_of (KX b o e) (by
   cases q:H b with
   |none=>rfl
   |some u=>rw[(hA b u q).1]at e;cases e)
  have hM:Mod K mg (qlj sV.heap H):=⟨hKb,nsK hns,⟨mb,nsK hb,hbb⟩,let ⟨mc,h1,h2⟩:=hlim;⟨mc,nsK h1,h2⟩,
   let ⟨bm,ob,b1,b2,b3,b4,b5,b6⟩:=hbm;⟨bm,ob,b1,b2,base_of b3 (noD b3 (λ_ _ z=>by rw[b6]at z;cases z) λ_ z=>by rw[b6]at z;cases z),b4,b5,b6⟩⟩
  have e0:qr7 P w K mg (qlj sV.heap H) yeQ [] sV H:=⟨rfl,hM,λb o e=>qn9 e,Nat.le_of_eq (qi3 _ _),trivial,λb hb=>absurd (show b∈([]:List Addr)from hb) (by simp),hok,.of_eq hg⟩
  refine ydV ((F _ hKb (nsK hns)).run yeQ [] sV H ⟨[.ref a],[]⟩ [.ref a] [.ref a] _ _ hr e0 (hbind sV (.ref a)) (.cons rfl .nil) (hsp H hO hT hS)) λr s' h=>?_
  cases r with
  |error e=>exact(hCX H e s' h).elim
  | ok fl=>
   cases fl with
   |next=>exact yb9 h
   |brk=>exact yb9 h
   |cont=>exact yb9 h
   | ret u=>
    obtain⟨v,H',os,bare,un,hok',r',q⟩:=h
    have q':v=.bl true:=q
    subst q'
    obtain rfl:u=ydf true:=r'
    have asIt:∀b o,sV.heap.get? b=some o->asItWas sV.heap s'.heap b o:=λb o e=>by
     cases q:H b with
     |none=>exact .inl (un.keep b o e q (by intro z;exact absurd (show b∈([]:List Addr)from z) (by simp)) (by simp))
     | some u=>
      rcases(hA b u q).2 with⟨ob,xs,rfl⟩|⟨c,pos,q2,hl2,rfl⟩
      ·have z2:=un.frzs b ob _ q
       obtain⟨e1,_⟩:=hok b _ q
       obtain⟨e2,_⟩:=hok' b _ z2
       rw[e]at e1;cases e1
       exact .inl e2
      ·obtain⟨hc,e2,_⟩:=hlm _ _ _ _ hl2
       rw[e]at e2;cases e2
       rcases hok' b _ (un.tbls b pos q2 q)with z|⟨c',oc,vs',t,_,_,_,z⟩
       ·exact .inl z
       ·exact .inr (.inl ⟨(hc.tab e).isCodeTable,rfl,#[],_,rfl,by rw[Array.empty_append];exact z⟩)
    exact⟨rfl,⟨asIt,λb o e=>un.there b o e (by simp)⟩,os,bare⟩
 let T:Hp:=qr9 lm
 have hTb:∀b u,T b=some u->∃c pos q,lm=some (c,b,pos,q)/\u=.lam pos q:=λb u z=>by
  cases hq:lm with
  |none=>simp only[T,hq,qr9]at z;cases z
  | some p=>
   obtain⟨c,Pt,pos,q⟩:=p
   simp only[T,hq,qr9]at z
   by_cases hbp:b=Pt
   ·rw[if_pos hbp]at z;cases z
    exact⟨c,pos,q,by rw[hbp],rfl⟩
   ·rw[if_neg hbp]at z;cases z
 have hTa:T a=none:=by
  cases q:T a with
  |none=>rfl
  |some u=>
   obtain⟨c,pos,q2,hl2,_⟩:=hTb a u q
   have:=(hlm _ _ _ _ hl2).2.1
   rw[ha]at this;cases this
 have hTt:∀c Pt pos q,lm=some (c,Pt,pos,q)->T Pt=some (.lam pos q):=λc Pt pos q e=>by
  simp only[T,e,qr9,if_true]
 cases hk:K.lookup a with
 | some o=>
  have e:=KX a o hk
  rw[ha]at e
  cases e
  refine core T (λb=>?_) hTt (.inr ⟨_,vs.toArray,_,hk,rfl,rfl,rfl,by rw[sT_,lenV];exact hl,by simpa using rv⟩) (λb u z=>?_) (λb u z=>?_)
  ·cases q:T b with
   |none=>exact .inl rfl
   |some u=>obtain⟨_,pos,q2,_,rfl⟩:=hTb b u q;exact .inr (.inr ⟨pos,q2,rfl⟩)
  ·obtain⟨c,pos,q2,hl2,rfl⟩:=hTb b u z
   exact .inl (hlm _ _ _ _ hl2).2.1
  ·obtain⟨c,pos,q2,hl2,rfl⟩:=hTb b u z
   exact⟨(hlm _ _ _ _ hl2).2.2,.inr ⟨c,pos,q2,hl2,rfl⟩⟩
 | none=>
  refine core (upd T a (.frz {cls:=.type "list",data:=.seq vs.toArray} (.lst (ns.map V.int)))) (λb=>?_) (λc Pt pos q e=>?_) (.inl (.inr ⟨{cls:=.type "list",data:=.seq vs.toArray},qz⟩)) (λb u z=>?_) (λb u z=>?_)
  ·by_cases hb:b=a
   ·subst hb;exact .inr (.inl ⟨_,_,qz⟩)
   ·rw[qx hb]
    cases q:T b with
    |none=>exact .inl rfl
    |some u=>obtain⟨_,pos,q2,_,rfl⟩:=hTb b u q;exact .inr (.inr ⟨pos,q2,rfl⟩)
  ·have h1:=hTt c Pt pos q e
   rw[qx (qJ h1 hTa)]
   exact h1
  ·by_cases hb:b=a
   ·subst hb
    rw[qz]at z;cases z
    exact⟨ha,by rw[lM_];exact hl,vs,_,rv,ha⟩
   ·rw[qx hb]at z
    obtain⟨c,pos,q2,hl2,rfl⟩:=hTb b u z
    exact .inl (hlm _ _ _ _ hl2).2.1
  ·by_cases hb:b=a
   ·subst hb
    rw[qz]at z;cases z
    exact⟨hk,.inl ⟨_,_,rfl⟩⟩
   ·rw[qx hb]at z
    obtain⟨c,pos,q2,hl2,rfl⟩:=hTb b u z
    exact⟨(hlm _ _ _ _ hl2).2.2,.inr ⟨c,pos,q2,hl2,rfl⟩⟩
end L2
namespace L2
open PySem PySem.Spec PyProof.Rows
end L2
/- THE LAST THEOREM (shape;LID,My.* are yours):
   My.Adr: a structure of the addresses that your layer names (classes,functions);My.Txt K t: a structure (Prop) of the equations over K;
   My.txt_mk:{K} {implicit addresses ..} (e1:nsIn K yad "law"=some (some (.ref f))) (e2:K.lookup f=some ⟨oc,od,.func (fnOf "law" "law" params body scope dV kV doc pm an cdv ct),sl⟩) (e3:codeIn K cdv "law"=true) .. : ∃t,My.Txt K t
set_option maxRecDepth 100000 in
set_option maxHeartbeats 0 in
theorem PySem.Challenge.cw_LID_holds : PySem.Challenge.rw_LID.Holds := by
 w_on;o_law;k_head;(case hw=>w_witness2)
 k_fill
 refine L2.walk_of (l:=PySem.Challenge.rw_LID) (n:=63) (k:=40) (x:="script") (CX:=λw => ..) (sp:=λ_=>My.sp_law) rfl (by decide) rfl ⟨rfl,by decide,by decide⟩ (λw h Y=>PySem.W.kIn_of Y) ?F ?S ?C
 case F=>
  intro w mg fa h KX G hmg
  have T:∃t,My.Txt (L2.KOf KX) t:=by
   dsimp only[L2.KOf]                          -- K must stand as «<heap const> w.params» for k_is
   refine' My.txt_mk ?e1 ?e2 ?e3 ..
   (case e1=>PySem.W.k_is)                    -- in the order: a name->its address->its object->its parts
   (case e2=>PySem.W.k_is)
   ..
  obtain⟨t,T⟩:=T
  have e0:=hmg.symm.trans (yak KX G T.law)
  cases e0                                       -- fa is the law's own address
  exact⟨_,λs u => .of_eq rfl,λbase kb nb=>My.law_fn T kb nb⟩     -- if «.of_eq rfl» comes too early: refine' ⟨_,?b,λbase kb nb=>My.law_fn T kb nb⟩;exact λs u => .of_eq rfl
 case S=>exact λw H a ns hl hO hS => ..
 case C=>exact ..
(the tactic k_is has no namespace: write k_is) -/
namespace L2
open PySem PySem.Spec PyProof.Rows
def qo (s:Stmt):yf7:=match s with
 |.FunctionDef _ a _ _ _ _ _ _ _ _=>a
 |_=>{posonlyargs:=[],args:=[],vararg:=none,kwonlyargs:=[],kw_defaults:=[],kwarg:=none,defaults:=[]}
def ql (s:Stmt):List Stmt:=match s with
 |.FunctionDef _ _ b _ _ _ _ _ _ _=>b
 |_=>[]
def qd (s:Stmt):Scope:=match s with
 |.FunctionDef _ _ _ _ _ _ sc _ _ _=>sc
 |_=>{kind:=.function,names:=[],isGenerator:=false,isCoroutine:=false}
abbrev CX0:CXT:=λ_ _ _ _ _ _=>False
abbrev E0:XK:=λ_ _ _=>False
theorem qov{X:Cx}:qjg CX0 X E0:=λ_ _ _ _ _ _ _ h=>h.elim
structure Fun (K:yas) (x qual:Str) (st:Stmt) (f:Addr) (fd:ybn):Prop where
 ex:∃(oc:Value)(od:Option Addr)(kV doc pm:Value)(an:Option Addr)(cdv ct:Value)(osl:Array (Option Value)),
  fd=yal x qual (qo st) (ql st) (qd st) .none kV doc pm an cdv ct/\K.lookup f=some ⟨oc,od,.func fd,osl⟩/\yaj K cdv qual=true
 kp:yai K (.ref f)=true
section
variable{P:yar}{w:World}{K:yas}{mg:Str->Option Value}{base:Heap}
theorem Fun.ok {x qual:Str} {st:Stmt} {f:Addr} {fd:ybn} {N ps:List Str} {k:Nat} {sp:Sp} (F:Fun K x qual st f fd) (S:qm N ps (qd st)) (len:∀vs H Q E,sp vs H Q E->vs.length=ps.length)
  (hbody:∀(cdv:Value)(A:yau)(outer:List Env)(s:yab)(H:Hp)(vs:List V)(Q:VK)(E:XK),qac k (A.deeper (ydt qual (qd st) s.heap.objs.size f cdv))->sp vs H Q E ->
   ∃t,PSs (qnn CX0 P w K mg base N qual (qd st) f cdv A outer s H E).nox (ql st) t/\t {nx:=λ_ H'=>Q .non H',rt:=Q} (yU N vs) H):qe5 P w K mg base CX0 (k+1) f fd ps sp:=by
 obtain⟨oc,od,kV,doc,pm,an,cdv,ct,osl,rfl,lk,hcd⟩:=F.ex
 refine qsB lk hcd S len λA outer s H vs Q E hr hsp=>?_
 obtain⟨t,h,q⟩:=hbody cdv A outer s H vs Q E hr hsp
 exact⟨t,h.nox,q⟩
theorem Fun.binds {x qual:Str} {st:Stmt} {f:Addr} {fd:ybn} {ps:List Str} (F:Fun K x qual st f fd)
  (h:∀(kV doc pm:Value)(an:Option Addr)(cdv ct:Value)(us:List Value),us.length=ps.length->bindArgs (yal x qual (qo st) (ql st) (qd st) .none kV doc pm an cdv ct) ⟨us,[]⟩=pure (ps.zip us)):qd7 K fd ps []:=by
 obtain⟨oc,od,kV,doc,pm,an,cdv,ct,osl,rfl,lk,hcd⟩:=F.ex
 exact .all (h kV doc pm an cdv ct)
theorem qB {x qual:Str} {st:Stmt} {f:Addr} {oc:Value} {od an:Option Addr} {osl:Array (Option Value)} {kV doc pm cdv ct:Value} (l:K.lookup f=some ⟨oc,od,.func (yal x qual (qo st) (ql st) (qd st) .none kV doc pm an cdv ct),osl⟩)
  (c:yaj K cdv qual=true) (k:yai K (.ref f)=true):Fun K x qual st f (yal x qual (qo st) (ql st) (qd st) .none kV doc pm an cdv ct):=⟨⟨oc,od,kV,doc,pm,an,cdv,ct,osl,rfl,l,c⟩,k⟩
end
theorem qpS {A B:Prop} (h:B):if false=true then A else B:=by
 rw[if_neg yaq]
 exact h
theorem qpT {A B:Prop} (h:A):if true=true then A else B:=by
 rw[if_pos rfl]
 exact h
def yA(H H':Hp):Prop:=∀b o,H b=some o->H' b=some o
theorem yA.refl(H:Hp):yA H H:=λ_ _ h=>h
theorem yA.free {H H':Hp} (e:yA H H') {l:Addr} (h:H' l=Option.none):H l=Option.none:=by
 cases q:H l with
 |none=>rfl
 |some o=>
  rw[e l o q]at h
  cases h
end L2
namespace L2.Sk
open PySem PySem.Spec PyProof.Rows
inductive D where
 |non|bl (b:Bool)|int (i:Int)|str (x:Str)|tup (xs:List D)|lst (xs:List D)|dic (kvs:List (Key×Int))|fz (ns:List Int)
 |exc (n:Str)
abbrev OD:=Option D
abbrev Fr0:=yas
def qqK:FuncBody->Option Pos
 |.stmts [_,_,.Return (some (.Call _ _ [⟨_,.Lambda _ _ _ pos,_⟩] _)) _]=>some pos
 |_=>none
def lamOf (K:Fr0):Option (Addr×Addr×Pos):=match PySem.W.tabIn K "dearest_first",yaf K yad "dearest_first" with
 |some (c,P),some (some (.ref f))=>(match K.lookup f with
  |some ⟨_,_,.func fd,_⟩=>(qqK fd.body).map λpos=>(c,P,pos)
  |_=>none)
 |_,_=>none
abbrev qsG:Str:="dearest_first.<locals>.<lambda>"
def qtl(K:Fr0)(H:Hp)(Io:Addr->Prop):Prop:=∀c P pos,lamOf K=some (c,P,pos)->H P=some (.lam pos qsG)/\¬Io P
abbrev qjo(K:Fr0)(H:Hp):Prop:=qtl K H λ_=>False
structure XK6 (K:Fr0) (D:Addr):Prop where
 ga:ydj K (.ref D) "__getattribute__"=some (some (.builtin "BaseException.__getattribute__"))
 gt:ydj K (.ref D) "__getattr__"=some none
 cl:ydj K (.ref D) "__class__"=some (some (.builtin "object.__class__"))
 ob:PySem.W.mroIn K D (.type "object")=some true
 be:PySem.W.subIn K (.ref D) (.type "BaseException")=some true
 is:(PySem.W.clsIn K D).isSome=true
 no:∀T∈["int","bool","str","tuple","list","dict"],yfx K (.ref D) (.type T)=some false
def qsH (K:Fr0) (n:Str):Option Addr:=match yaf K yad n with
 |some (some (.ref C))=>some C
 |_=>none
def qtQ(K:Fr0)(H:Hp)(a:Addr)(n:Str):Prop:=∃C,qsH K n=some C/\XK6 K C/\∃o vs,H a=some (.frz o (.own a))/\o.cls=.ref C/\o.data=.fields vs
def vL (K:Fr0) (H:Hp) (a:Addr) (xs:List V):Prop :=
 H a=some (.tup xs)\/∃(o:Obj)(its:Array Value)(n:Nat),K.lookup a=some o/\o.cls=.type "tuple"/\o.data=.seq its n/\its.size<=yav/\zT xs its.toList
def qqL (K:Fr0) (H:Hp) (a:Addr) (xs:List V):Prop :=
 (∃o,H a=some (.frz o (.lst xs)))\/∃(o:Obj)(its:Array Value)(n:Nat),K.lookup a=some o/\o.cls=.type "list"/\o.dict=none/\o.data=.seq its n/\its.size<=yav/\zT xs its.toList
theorem vL.sq {K:Fr0} {H:Hp} {a:Addr} {xs:List V} (h:vL K H a xs):SqT K H a xs:=by
 rcases h with h|h
 ·exact .inl (.inl h)
 ·exact .inr h
theorem qqL.sq {K:Fr0} {H:Hp} {a:Addr} {xs:List V} (h:qqL K H a xs):SqL K H a xs:=by
 rcases h with h|h
 ·exact .inl (.inr h)
 ·exact .inr h
mutual
def Is (K:Fr0) (A:Addr->Prop) (H:Hp):D->V->Prop
 |.non,v=>v=.non
 |.bl b,v=>v=.bl b
 |.int i,v=>v=.int i
 |.str x,v=>v=.str x
 |.tup ds,v=>∃a xs,v=.ref a/\vL K H a xs/\IsL K A H ds xs
 |.lst ds,v=>∃a xs,v=.ref a/\A a/\H a=some (.lst xs)/\IsL K A H ds xs
 |.dic kvs,v=>∃a,v=.ref a/\A a/\H a=some (.dK (kvs.map λp=>(p.1,V.int p.2)))
 |.fz ns,v=>∃a,v=.ref a/\qqL K H a (ns.map V.int)
 |.exc n,v=>∃a,v=.ref a/\qtQ K H a n
def IsL (K:Fr0) (A:Addr->Prop) (H:Hp):List D->List V->Prop
 | [],xs=>xs=[]
 |d::ds,xs=>∃x ys,xs=x::ys/\Is K A H d x/\IsL K A H ds ys
end
mutual
def imm:D->Bool
 |.tup ds=>immL ds
 |.lst _=>false
 |.dic _=>false
 |.fz _=>false
 |_=>true
def immL:List D->Bool
 | []=>true
 |d::ds=>imm d&&immL ds
end
structure Ext (A:Addr->Prop) (H H':Hp):Prop where
 tup:∀b xs,H b=some (.tup xs)->H' b=some (.tup xs)
 frz:∀b o u,H b=some (.frz o u)->H' b=some (.frz o u)
 at_:∀b o,A b->H b=some o->H' b=some o
theorem Ext.refl{A:Addr->Prop}{H:Hp}:Ext A H H:=⟨λ_ _ h=>h,λ_ _ _ h=>h,λ_ _ _ h=>h⟩
theorem Ext.of_same{A:Addr->Prop}{H H':Hp}(s:yA H H'):Ext A H H':=⟨λb xs h=>s b _ h,λb o u h=>s b _ h,λb o _ h=>s b o h⟩
mutual
theorem Is.ext {K:Fr0} {A B:Addr->Prop} {H H':Hp} (e:Ext A H H') (hAB:∀a,A a->(H a).isSome=true->B a):∀{d:D}{v:V},Is K A H d v->Is K B H' d v
 |.non,_,h=>h
 |.bl _,_,h=>h
 |.int _,_,h=>h
 |.str _,_,h=>h
 |.tup ds,_,⟨a,xs,hv,h,r⟩=>⟨a,xs,hv,h.elim (λh => .inl (e.tup _ _ h)) .inr,IsL.ext e hAB r⟩
 |.lst ds,_,⟨a,xs,hv,hA,h,r⟩=>⟨a,xs,hv,hAB a hA (by rw[h];rfl),e.at_ _ _ hA h,IsL.ext e hAB r⟩
 |.dic kvs,_,⟨a,hv,hA,h⟩=>⟨a,hv,hAB a hA (by rw[h];rfl),e.at_ _ _ hA h⟩
 |.fz ns,_,⟨a,hv,h⟩=>⟨a,hv,h.elim (λ⟨o,h⟩ => .inl ⟨o,e.frz _ _ _ h⟩) .inr⟩
 |.exc n,_,⟨a,hv,C,hc,hk,o,vs,h,r⟩=>⟨a,hv,C,hc,hk,o,vs,e.frz _ _ _ h,r⟩
theorem IsL.ext {K:Fr0} {A B:Addr->Prop} {H H':Hp} (e:Ext A H H') (hAB:∀a,A a->(H a).isSome=true->B a):∀{ds:List D}{xs:List V},IsL K A H ds xs->IsL K B H' ds xs
 | [],_,h=>h
 |_::_,_,⟨x,ys,hx,h,r⟩=>⟨x,ys,hx,Is.ext e hAB h,IsL.ext e hAB r⟩
end
mutual
theorem Is.imm {K:Fr0} {A B:Addr->Prop} {H:Hp}:∀{d:D}{v:V},imm d=true->Is K A H d v->Is K B H d v
 |.non,_,_,h=>h
 |.bl _,_,_,h=>h
 |.int _,_,_,h=>h
 |.str _,_,_,h=>h
 |.tup ds,_,i,⟨a,xs,hv,h,r⟩=>⟨a,xs,hv,h,IsL.imm (by simpa [Sk.imm] using i) r⟩
 |.lst _,_,i,_=>by simp[Sk.imm]at i
 |.dic _,_,i,_=>by simp[Sk.imm]at i
 |.fz _,_,i,_=>by simp[Sk.imm]at i
 |.exc _,_,_,h=>h
theorem IsL.imm {K:Fr0} {A B:Addr->Prop} {H:Hp}:∀{ds:List D}{xs:List V},immL ds=true->IsL K A H ds xs->IsL K B H ds xs
 | [],_,_,h=>h
 |d::ds,_,i,⟨x,ys,hx,h,r⟩=>by
  have i':Sk.imm d=true/\immL ds=true:=by simpa [immL] using i
  exact⟨x,ys,hx,Is.imm i'.1 h,IsL.imm i'.2 r⟩
end
theorem IsL.length {K:Fr0} {A:Addr->Prop} {H:Hp}:∀{ds:List D}{xs:List V},IsL K A H ds xs->xs.length=ds.length
 | [],_,h=>by rw[h];rfl
 |_::_,_,⟨x,ys,hx,_,r⟩=>by rw[hx,lC_,lC_,IsL.length r]
theorem IsL.get {K:Fr0} {A:Addr->Prop} {H:Hp}:∀{ds:List D}{xs:List V}{i:Nat}{d:D},IsL K A H ds xs->ds[i]? = some d->∃x,xs[i]? = some x/\Is K A H d x
 | [],_,_,_,_,h=>by simp at h
 |e::_,_,0,d,⟨x,ys,hx,h,r⟩,hd=>by
  have e1:e=d:=by simpa using hd
  subst e1
  exact⟨x,by rw[hx];rfl,h⟩
 |_::ds,_,i+1,d,⟨x,ys,hx,h,r⟩,hd=>by
  obtain⟨y,h1,h2⟩:=IsL.get (i:=i) (d:=d) r (by simpa using hd)
  exact⟨y,by rw[hx];simpa using h1,h2⟩
theorem IsL.append {K:Fr0} {A:Addr->Prop} {H:Hp}:∀{ds es:List D}{xs ys:List V},IsL K A H ds xs->IsL K A H es ys->IsL K A H (ds++es) (xs++ys)
 | [],_,_,_,h,g=>by rw[h];exact g
 |_::_,_,_,_,⟨x,zs,hx,h,r⟩,g=>⟨x,zs++_,by rw[hx];rfl,h,IsL.append r g⟩
theorem IsL.take {K:Fr0} {A:Addr->Prop} {H:Hp}:∀{ds:List D}{xs:List V}(n:Nat),IsL K A H ds xs->IsL K A H (ds.take n) (xs.take n)
 |_,_,0,_=>by simp[IsL]
 | [],_,_+1,h=>by rw[h];simp[IsL]
 |_::_,_,n+1,⟨x,ys,hx,h,r⟩=>by rw[hx];exact⟨x,ys.take n,rfl,h,IsL.take n r⟩
theorem IsL.drop {K:Fr0} {A:Addr->Prop} {H:Hp}:∀{ds:List D}{xs:List V}(n:Nat),IsL K A H ds xs->IsL K A H (ds.drop n) (xs.drop n)
 |_,_,0,h=>h
 | [],_,_+1,h=>by rw[h];simp[IsL]
 |_::_,_,n+1,⟨x,ys,hx,h,r⟩=>by rw[hx];exact IsL.drop n r
theorem IsL.one{K:Fr0}{A:Addr->Prop}{H:Hp}{d:D}{v:V}(h:Is K A H d v):IsL K A H [d] [v]:=⟨v,[],rfl,h,rfl⟩
theorem IsL.set {K:Fr0} {A:Addr->Prop} {H:Hp} {d:D} {v:V} (hd:Is K A H d v):∀{ds:List D}{xs:List V}(n:Nat),IsL K A H ds xs->IsL K A H (ds.set n d) (xs.set n v)
 | [],_,_,h=>by rw[h];simp[IsL]
 |_::_,_,0,⟨x,ys,hx,h,r⟩=>by rw[hx];exact⟨v,ys,rfl,hd,r⟩
 |_::_,_,n+1,⟨x,ys,hx,h,r⟩=>by rw[hx];exact⟨x,ys.set n v,rfl,h,IsL.set hd n r⟩
abbrev Env:=List (OD)
structure Exn where
 cls:Str
 val:D
inductive R (α:Type) where
 |ok (a:α)|exc (x:Exn) (ρ:Env)|bad
structure Fc where
 O:List Nat
 P:List Nat
 B:Addr->Prop
 H0:Hp
 Io:Addr->Prop
 E:Exn->Hp->Prop
 S:Nat->Option (Option V)
def Cl(O:List Nat)(σ:St)(a:Addr):Prop:=∀j∈O,σ[j]? ≠ some (some (.ref a))
def Cn(c:Fc)(σ:St)(a:Addr):Prop:=c.B a/\Cl c.O σ a
structure Rep (K:Fr0) (c:Fc) (ρ:Env) (σ:St) (H:Hp):Prop where
 len:ρ.length=σ.length
 val:∀i d,ρ[i]? = some (some d)->∃v,σ[i]? = some (some v) /\
  ((i∈c.O/\∃ds a xs,d=.lst ds/\v=.ref a/\H a=some (.lst xs)/\IsL K (Cn c σ) H ds xs)\/(i ∉ c.O/\Is K (Cn c σ) H d v))
 own:∀j∈c.O,∀v,σ[j]? = some (some v)->∃a xs,v=.ref a/\H a=some (.lst xs)/\(c.H0 a=none\/(j∈c.P/\c.Io a))
 inj:∀i j a,i∈c.O->j∈c.O->σ[i]? = some (some (.ref a))->σ[j]? = some (some (.ref a))->i=j
 b0:(∀a,c.H0 a=none->c.B a)/\qtl K c.H0 c.Io
 kp:∀b o,c.H0 b=some o->¬c.Io b->H b=some o
 dm:∀b,H b=none->c.H0 b=none
 pO:∀j∈c.P,j∈c.O
 ps:∀j∈c.P,σ[j]? = c.S j
theorem Rep.tb{K:Fr0}{c:Fc}{ρ:Env}{σ:St}{H:Hp}(r:Rep K c ρ σ H):qjo K H:=λq P pos e=>⟨r.kp P _ (r.b0.2 q P pos e).1 (r.b0.2 q P pos e).2,λz=>z⟩
structure Gr (O:List Nat) (σ:St) (H H':Hp):Prop where
 ext:Ext (Cl O σ) H H'
 dom:∀b,H' b=none->H b=none
theorem Gr.refl{O:List Nat}{σ:St}{H:Hp}:Gr O σ H H:=⟨Ext.refl,λ_ h=>h⟩
theorem Gr.of_same{O:List Nat}{σ:St}{H H':Hp}(s:yA H H'):Gr O σ H H':=⟨Ext.of_same s,λ_ h=>s.free h⟩
theorem Gr.trans {O:List Nat} {σ:St} {H H1 H2:Hp} (a:Gr O σ H H1) (b:Gr O σ H1 H2):Gr O σ H H2 :=
 ⟨⟨λc xs h=>b.ext.tup c xs (a.ext.tup c xs h),λc o u h=>b.ext.frz c o u (a.ext.frz c o u h),λc o hc h=>b.ext.at_ c o hc (a.ext.at_ c o hc h)⟩,λc h=>a.dom c (b.dom c h)⟩
theorem Gr.cn{c:Fc}{σ:St}{H H':Hp}(g:Gr c.O σ H H'):Ext (Cn c σ) H H':=⟨g.ext.tup,g.ext.frz,λb o hb h=>g.ext.at_ b o hb.2 h⟩
theorem Gr.is{K:Fr0}{c:Fc}{σ:St}{H H':Hp}{d:D}{v:V}(g:Gr c.O σ H H')(h:Is K (Cn c σ) H d v):Is K (Cn c σ) H' d v:=Is.ext g.cn (λ_ h _=>h) h
theorem Gr.isL{K:Fr0}{c:Fc}{σ:St}{H H':Hp}{d:List D}{v:List V}(g:Gr c.O σ H H')(h:IsL K (Cn c σ) H d v):IsL K (Cn c σ) H' d v:=IsL.ext g.cn (λ_ h _=>h) h
theorem Rep.new {K:Fr0} {c:Fc} {ρ:Env} {σ:St} {H:Hp} (r:Rep K c ρ σ H) {a:Addr} (h:H a=none):Cn c σ a :=
 ⟨r.b0.1 a (r.dm a h),λj hj e=>by obtain⟨b,xs,e1,e2,_⟩:=r.own j hj _ e;cases e1;rw[h]at e2;cases e2⟩
theorem Rep.same {K:Fr0} {c:Fc} {ρ:Env} {σ:St} {H H':Hp} (r:Rep K c ρ σ H) (s:yA H H'):Rep K c ρ σ H' where
 len:=r.len
 val:=λi d h=>by
  obtain⟨v,h1,h2⟩:=r.val i d h
  refine⟨v,h1,?_⟩
  rcases h2 with⟨hi,ds,a,xs,h3,h5,h6,h7⟩|⟨hi,h3⟩
  ·exact .inl ⟨hi,ds,a,xs,h3,h5,s _ _ h6,IsL.ext (Ext.of_same s) (λ_ h _=>h) h7⟩
  ·exact .inr ⟨hi,Is.ext (Ext.of_same s) (λ_ h _=>h) h3⟩
 own:=λj hj v h=>by
  obtain⟨a,xs,h1,h2,h3⟩:=r.own j hj v h
  exact⟨a,xs,h1,s _ _ h2,h3⟩
 inj:=r.inj
 b0:=r.b0
 kp:=λb o h1 h2=>s _ _ (r.kp b o h1 h2)
 dm:=λb h=>r.dm b (s.free h)
 pO:=r.pO
 ps:=r.ps
theorem Rep.get {K:Fr0} {c:Fc} {ρ:Env} {σ:St} {H:Hp} (r:Rep K c ρ σ H) {i:Nat} {d:D} (hi:i ∉ c.O) (h:ρ[i]? = some (some d)):∃v,σ[i]? = some (some v)/\Is K (Cn c σ) H d v:=by
 obtain⟨v,h1,h2⟩:=r.val i d h
 rcases h2 with⟨h3,_⟩|⟨_,h3⟩
 ·exact absurd h3 hi
 ·exact⟨v,h1,h3⟩
theorem Rep.getO {K:Fr0} {c:Fc} {ρ:Env} {σ:St} {H:Hp} (r:Rep K c ρ σ H) {i:Nat} {d:D} (hi:i∈c.O) (h:ρ[i]? = some (some d)) :
  ∃ds a xs,d=.lst ds/\σ[i]? = some (some (.ref a))/\H a=some (.lst xs)/\IsL K (Cn c σ) H ds xs:=by
 obtain⟨v,h1,h2⟩:=r.val i d h
 rcases h2 with⟨_,ds,a,xs,h3,h5,h6,h7⟩|⟨h3,_⟩
 ·subst h5;exact⟨ds,a,xs,h3,h1,h6,h7⟩
 ·exact absurd hi h3
abbrev M(α:Type):=Env->R (α×Env)
def Wp (K:Fr0) (c:Fc) (σ:St) (H:Hp) (Q:VK):R (D×Env)->Prop
 |.ok (d,ρ)=>∀v H',Rep K c ρ σ H'->Is K (Cn c σ) H' d v->Gr c.O σ H H'->Q v H'
 |.exc x ρ=>∀H',Rep K c ρ σ H'->Gr c.O σ H H'->c.E x H'
 |.bad=>False
def WpB (K:Fr0) (c:Fc) (σ:St) (H:Hp) (Q:Bool->Hp->Prop):R (Bool×Env)->Prop
 |.ok (b,ρ)=>∀H',Rep K c ρ σ H'->Gr c.O σ H H'->Q b H'
 |.exc x ρ=>∀H',Rep K c ρ σ H'->Gr c.O σ H H'->c.E x H'
 |.bad=>False
def WpL (K:Fr0) (c:Fc) (σ:St) (H:Hp) (Q:List V->Hp->Prop):R (List D×Env)->Prop
 |.ok (ds,ρ)=>∀vs H',Rep K c ρ σ H'->IsL K (Cn c σ) H' ds vs->Gr c.O σ H H'->Q vs H'
 |.exc x ρ=>∀H',Rep K c ρ σ H'->Gr c.O σ H H'->c.E x H'
 |.bad=>False
def DE(X:Cx)(c:Fc)(e:Expr)(f:M D):Prop:=∃t,PE X e t/\∀ρ σ H Q,Rep X.K c ρ σ H->Wp X.K c σ H Q (f ρ)->t σ H Q
def DT(X:Cx)(c:Fc)(e:Expr)(f:M Bool):Prop:=∃t,PT X e t/\∀ρ σ H Q,Rep X.K c ρ σ H->WpB X.K c σ H Q (f ρ)->t σ H Q
def DA(X:Cx)(c:Fc)(es:List Expr)(f:M (List D)):Prop:=∃t,PA X es t/\∀ρ σ H Q,Rep X.K c ρ σ H->WpL X.K c σ H Q (f ρ)->t σ H Q
def ret{α:Type}(a:α):M α:=λρ => .ok (a,ρ)
def bnd {α β:Type} (f:M α) (k:α->M β):M β:=λρ=>match f ρ with
 |.ok (a,ρ')=>k a ρ'
 |.exc x ρ' => .exc x ρ'
 |.bad => .bad
def lift {α:Type}:Option α->M α
 |some a=>ret a
 |none=>λ_ => .bad
theorem qdJ{α β:Type}{f:M α}{k:α->M β}{ρ ρ':Env}{a:α}(h:f ρ=.ok (a,ρ')):bnd f k ρ=k a ρ':=by unfold bnd;rw[h]
section
variable{K:Fr0}{c:Fc}{σ:St}{H H1:Hp}{Q:VK}{QB:Bool->Hp->Prop}{QL:List V->Hp->Prop}{r:R (D×Env)}
theorem Wp.gr:∀{r:R (D×Env)},Wp K c σ H Q r->Gr c.O σ H H1->Wp K c σ H1 Q r
 |.ok (d,ρ),h,g=>λv H' hr hi hg=>h v H' hr hi (g.trans hg)
 |.exc x ρ,h,g=>λH' hr hg=>h H' hr (g.trans hg)
 |.bad,h,_=>h
theorem WpB.gr:∀{r:R (Bool×Env)},WpB K c σ H QB r->Gr c.O σ H H1->WpB K c σ H1 QB r
 |.ok (d,ρ),h,g=>λH' hr hg=>h H' hr (g.trans hg)
 |.exc x ρ,h,g=>λH' hr hg=>h H' hr (g.trans hg)
 |.bad,h,_=>h
theorem WpL.gr:∀{r:R (List D×Env)},WpL K c σ H QL r->Gr c.O σ H H1->WpL K c σ H1 QL r
 |.ok (d,ρ),h,g=>λv H' hr hi hg=>h v H' hr hi (g.trans hg)
 |.exc x ρ,h,g=>λH' hr hg=>h H' hr (g.trans hg)
 |.bad,h,_=>h
theorem Wp.bnd {f:M D} {k:D->M D} {ρ:Env} {Q':VK} (h:Wp K c σ H Q (bnd f k ρ)) (hQ:∀d ρ' v H',Rep K c ρ' σ H'->Is K (Cn c σ) H' d v->Gr c.O σ H H'->Wp K c σ H' Q (k d ρ')->Q' v H'):Wp K c σ H Q' (f ρ):=by
 unfold Sk.bnd at h
 cases e:f ρ with
 |ok p=>rw[e]at h;exact λv H' hr hi hg=>hQ p.1 p.2 v H' hr hi hg (h.gr hg)
 |exc x ρ'=>rw[e]at h;exact h
 |bad=>rw[e]at h;exact h
theorem Wp.bndB {f:M D} {k:D->M Bool} {ρ:Env} {Q':VK} (h:WpB K c σ H QB (Sk.bnd f k ρ)) (hQ:∀d ρ' v H',Rep K c ρ' σ H'->Is K (Cn c σ) H' d v->Gr c.O σ H H'->WpB K c σ H' QB (k d ρ')->Q' v H'):Wp K c σ H Q' (f ρ):=by
 unfold Sk.bnd at h
 cases e:f ρ with
 |ok p=>rw[e]at h;exact λv H' hr hi hg=>hQ p.1 p.2 v H' hr hi hg (h.gr hg)
 |exc x ρ'=>rw[e]at h;exact h
 |bad=>rw[e]at h;exact h
theorem Wp.bndL {f:M D} {k:D->M (List D)} {ρ:Env} {Q':VK} (h:WpL K c σ H QL (Sk.bnd f k ρ)) (hQ:∀d ρ' v H',Rep K c ρ' σ H'->Is K (Cn c σ) H' d v->Gr c.O σ H H'->WpL K c σ H' QL (k d ρ')->Q' v H'):Wp K c σ H Q' (f ρ):=by
 unfold Sk.bnd at h
 cases e:f ρ with
 |ok p=>rw[e]at h;exact λv H' hr hi hg=>hQ p.1 p.2 v H' hr hi hg (h.gr hg)
 |exc x ρ'=>rw[e]at h;exact h
 |bad=>rw[e]at h;exact h
theorem WpB.bnd {f:M Bool} {k:Bool->M D} {ρ:Env} {Q':Bool->Hp->Prop} (h:Wp K c σ H Q (Sk.bnd f k ρ)) (hQ:∀d ρ' H',Rep K c ρ' σ H'->Gr c.O σ H H'->Wp K c σ H' Q (k d ρ')->Q' d H'):WpB K c σ H Q' (f ρ):=by
 unfold Sk.bnd at h
 cases e:f ρ with
 |ok p=>rw[e]at h;exact λH' hr hg=>hQ p.1 p.2 H' hr hg (h.gr hg)
 |exc x ρ'=>rw[e]at h;exact h
 |bad=>rw[e]at h;exact h
theorem WpB.bndB {f:M Bool} {k:Bool->M Bool} {ρ:Env} {Q':Bool->Hp->Prop} (h:WpB K c σ H QB (Sk.bnd f k ρ)) (hQ:∀d ρ' H',Rep K c ρ' σ H'->Gr c.O σ H H'->WpB K c σ H' QB (k d ρ')->Q' d H'):WpB K c σ H Q' (f ρ):=by
 unfold Sk.bnd at h
 cases e:f ρ with
 |ok p=>rw[e]at h;exact λH' hr hg=>hQ p.1 p.2 H' hr hg (h.gr hg)
 |exc x ρ'=>rw[e]at h;exact h
 |bad=>rw[e]at h;exact h
theorem WpL.bnd {f:M (List D)} {k:List D->M D} {ρ:Env} {Q':List V->Hp->Prop} (h:Wp K c σ H Q (Sk.bnd f k ρ)) (hQ:∀d ρ' v H',Rep K c ρ' σ H'->IsL K (Cn c σ) H' d v->Gr c.O σ H H'->Wp K c σ H' Q (k d ρ')->Q' v H'):WpL K c σ H Q' (f ρ):=by
 unfold Sk.bnd at h
 cases e:f ρ with
 |ok p=>rw[e]at h;exact λv H' hr hi hg=>hQ p.1 p.2 v H' hr hi hg (h.gr hg)
 |exc x ρ'=>rw[e]at h;exact h
 |bad=>rw[e]at h;exact h
theorem WpL.bndL {f:M (List D)} {k:List D->M (List D)} {ρ:Env} {Q':List V->Hp->Prop} (h:WpL K c σ H QL (Sk.bnd f k ρ)) (hQ:∀d ρ' v H',Rep K c ρ' σ H'->IsL K (Cn c σ) H' d v->Gr c.O σ H H'->WpL K c σ H' QL (k d ρ')->Q' v H'):WpL K c σ H Q' (f ρ):=by
 unfold Sk.bnd at h
 cases e:f ρ with
 |ok p=>rw[e]at h;exact λv H' hr hi hg=>hQ p.1 p.2 v H' hr hi hg (h.gr hg)
 |exc x ρ'=>rw[e]at h;exact h
 |bad=>rw[e]at h;exact h
theorem Wp.lift {o:OD} {ρ:Env} (h:Wp K c σ H Q (Sk.lift o ρ)):∃d,o=some d/\∀v H',Rep K c ρ σ H'->Is K (Cn c σ) H' d v->Gr c.O σ H H'->Q v H':=by
 cases o with
 |none=>exact h.elim
 |some d=>exact⟨d,rfl,h⟩
end
section
variable{X:Cx}{c:Fc}{a b e:Expr}{pos:Pos}
theorem qk{i j pos}:DE X c (.Constant (.int i) j pos) (ret (.int i)):=⟨_,qng,λ_ _ H Q r h=>h _ H r rfl .refl⟩
theorem qa4{i j pos}:DE X c (.Constant (.bool i) j pos) (ret (.bl i)):=⟨_,qsg,λ_ _ H Q r h=>h _ H r rfl .refl⟩
theorem yB{j pos}:DE X c (.Constant .none j pos) (ret .non):=⟨_,qp8,λ_ _ H Q r h=>h _ H r rfl .refl⟩
theorem qfi{x j pos}:DE X c (.Constant (.str x) j pos) (ret (.str x)):=⟨_,qp9,λ_ _ H Q r h=>h _ H r rfl .refl⟩
def dv (i:Nat):M D:=λρ=>match ρ[i]? with
 |some (some d) => .ok (d,ρ)
 |_ => .bad
theorem qc (i:Nat) {x:Str} (ho:i ∉ c.O:=by exact of_decide_eq_false rfl) (hN:X.N[i]? = some x:=by rfl) (hv:Vis X.env.scope x:=by first|exact yby rfl|exact ya3 (yby rfl)|exact ya3 (ya3 rfl)) (hd:(x==("__debug__":Str))=false:=by decide)
  (hcd:(x==("__classdict__":Str))=false:=by decide):DE X c (.Name x pos) (dv i):=by
 refine⟨_,qb7 hN hv hd hcd,λρ σ H Q r h=>?_⟩
 unfold dv at h
 split at h
 ·rename_i d e
  obtain⟨v,h1,h2⟩:=r.get ho e
  exact⟨v,h1,h v H r h2 .refl⟩
 ·exact h.elim
theorem qow {x:Str} {v:V} {u:Value} {d:D} (hg:Gl X x) (hm:X.mg x=some u) (rv:uk v u) (hd:∀H A,Is X.K A H d v) (hdb:(x==("__debug__":Str))=false:=by decide):DE X c (.Name x pos) (ret d) :=
 ⟨_,qoa hg hm rv hdb,λ_ _ H Q r h=>h _ H r (hd _ _) .refl⟩
theorem qe:DA X c [] (ret []):=⟨_,qdH,λ_ _ H Q r h=>h _ H r rfl .refl⟩
def qa(f:M D)(g:M (List D)):M (List D):=bnd f λd=>bnd g λds=>ret (d::ds)
theorem qb {es:List Expr} {f:M D} {g:M (List D)} (ha:DE X c e f) (hr:DA X c es g) (hs:yam (e::es) X.env=(false,eval e X.env)::yam es X.env:=by rfl):DA X c (e::es) (qa f g):=by
 obtain⟨ta,pa,wa⟩:=ha
 obtain⟨tr,pr,wr⟩:=hr
 refine⟨_,wy pa pr hs,λρ σ H Q r h=>wa ρ σ H _ r (Wp.bndL h λd ρ1 v H1 r1 i1 g1 h1=>wr ρ1 σ H1 _ r1 (WpL.bndL h1 λds ρ2 vs H2 r2 i2 g2 h2=>?_))⟩
 exact h2 _ H2 r2 ⟨v,vs,rfl,g2.is i1,i2⟩ .refl
def qY(n:Nat):Bool:=decide (n<=yav)
def qca(f:M (List D)):M D:=bnd f λds=>lift (if qY ds.length then some (.tup ds)else none)
def qaV(f:M (List D)):M D:=bnd f λds=>lift (if qY ds.length then some (.lst ds)else none)
theorem qC{H:Hp}{p:Addr}(h:H p=none)(o:HO):yA H (upd H p o):=λb u q=>by rw[qx (qJ q h)];exact q
theorem Rep.laid{K:Fr0}{ρ:Env}{σ:St}{H:Hp}(r:Rep K c ρ σ H){p:Addr}(h:H p=none)(o:HO):Rep K c ρ σ (upd H p o):=r.same (qC h o)
theorem jI {p:Bool} {d e:D} (h:(if p then some d else none)=some e):p=true/\d=e:=by
 cases p with
 |true=>exact⟨rfl,by simpa using h⟩
 |false=>simp at h
theorem qbl {es:List Expr} {x1} {f:M (List D)} (h:DA X c es f):DE X c (.Tuple es x1 pos) (qca f):=by
 obtain⟨t,p,w⟩:=h
 refine⟨_,qqx p,λρ σ H Q r h=>w ρ σ H _ r (WpL.bnd h λds ρ1 vs H1 r1 i1 g1 h1=>?_)⟩
 obtain⟨d,e,h2⟩:=h1.lift
 obtain⟨e1,e2⟩:=jI e
 subst e2
 refine⟨by rw[i1.length];exact of_decide_eq_true e1,λp hp=>h2 _ _ (r1.laid hp _) ⟨p,vs,rfl,.inl qz,IsL.ext (Ext.of_same (qC hp _)) (λ_ h _=>h) i1⟩ (.of_same (qC hp _))⟩
theorem vv {es:List Expr} {f:M (List D)} (h:DA X c es f):DE X c (.List es pos) (qaV f):=by
 obtain⟨t,p,w⟩:=h
 refine⟨_,qjf p,λρ σ H Q r h=>w ρ σ H _ r (WpL.bnd h λds ρ1 vs H1 r1 i1 g1 h1=>?_)⟩
 obtain⟨d,e,h2⟩:=h1.lift
 obtain⟨e1,e2⟩:=jI e
 subst e2
 refine⟨by rw[i1.length];exact of_decide_eq_true e1,λp hp=>h2 _ _ (r1.laid hp _) ⟨p,vs,rfl,r1.new hp,qz,IsL.ext (Ext.of_same (qC hp _)) (λ_ h _=>h) i1⟩ (.of_same (qC hp _))⟩
def OpS (K:Fr0) (F:D->D->OD) (r:R2):Prop:=∀(A:Addr->Prop)(H:Hp)(x y d:D)(v u:V)(Q:VK),(∀a,H a=none->A a)->Is K A H x v->Is K A H y u->F x y=some d ->
 (∀w H',yA H H'->Is K A H' d w->Q w H')->r v u H Q
def d2(F:D->D->OD)(f g:M D):M D:=bnd f λx=>bnd g λy=>lift (F x y)
theorem op2 {r:R2} {F:D->D->OD} {f g:M D} {ta tb:TE} (hF:OpS X.K F r) (wa:∀ρ σ H Q,Rep X.K c ρ σ H->Wp X.K c σ H Q (f ρ)->ta σ H Q) (wb:∀ρ σ H Q,Rep X.K c ρ σ H->Wp X.K c σ H Q (g ρ)->tb σ H Q) :
  ∀ρ σ H Q,Rep X.K c ρ σ H->Wp X.K c σ H Q (d2 F f g ρ)->tOp r ta tb σ H Q:=λρ σ H Q rp h=>wa ρ σ H _ rp (Wp.bnd h λx ρ1 v H1 r1 i1 g1 h1=>wb ρ1 σ H1 _ r1 (Wp.bnd h1 λy ρ2 u H2 r2 i2 g2 h2=>by
 obtain⟨d,e,h3⟩:=h2.lift
 exact hF _ H2 x y d v u Q (λa ha=>r2.new ha) (g2.is i1) i2 e λw H' s i=>h3 w H' (r2.same s) i (.of_same s)))
theorem qr {op:Operator} {r:R2} {F:D->D->OD} {f g:M D} (ho:OpR X (ybx op) r) (hF:OpS X.K F r) (ha:DE X c a f) (hb:DE X c b g):DE X c (.BinOp a op b pos) (d2 F f g):=by
 obtain⟨ta,pa,wa⟩:=ha
 obtain⟨tb,pb,wb⟩:=hb
 exact⟨_,qst ho pa pb,op2 hF wa wb⟩
theorem ut {op:CmpOp} {r:R2} {F:D->D->OD} {f g:M D} (ho:OpR X (yaL op) r) (hF:OpS X.K F r) (ha:DE X c a f) (hb:DE X c b g) (hm:ycA op b=false):DE X c (.Compare a [op] [b] pos) (d2 F f g):=by
 obtain⟨ta,pa,wa⟩:=ha
 obtain⟨tb,pb,wb⟩:=hb
 exact⟨_,qoi ho pa pb hm,op2 hF wa wb⟩
def asB:D->Option Bool
 |.bl b=>some b
 |_=>none
def tst(f:M D):M Bool:=bnd f λd=>lift (asB d)
theorem qec {K:Fr0} {σ:St} {H:Hp} {QB:Bool->Hp->Prop} {o:Option Bool} {ρ:Env} (h:WpB K c σ H QB (lift o ρ)):∃b,o=some b/\∀H',Rep K c ρ σ H'->Gr c.O σ H H'->QB b H':=by
 cases o with
 |none=>exact h.elim
 |some d=>exact⟨d,rfl,h⟩
theorem qbm {d:D} {b:Bool} (h:asB d=some b):d=.bl b:=by
 cases d<;>simp[asB]at h
 subst h;rfl
theorem zg {op:CmpOp} {r:R2} {F:D->D->OD} {f g:M D} (ho:OpR X (yaL op) r) (hF:OpS X.K F r) (ha:DE X c a f) (hb:DE X c b g) (hm:ycA op b=false):DT X c (.Compare a [op] [b] pos) (tst (d2 F f g)):=by
 obtain⟨ta,pa,wa⟩:=ha
 obtain⟨tb,pb,wb⟩:=hb
 refine⟨_,qoj ho pa pb hm,λρ σ H Q rp h=>op2 hF wa wb ρ σ H _ rp (Wp.bndB h λd ρ1 v H1 r1 i1 g1 h1=>?_)⟩
 obtain⟨b,e,h2⟩:=qec h1
 have:=qbm e
 subst this
 exact⟨b,i1,h2 H1 r1 .refl⟩
theorem vx {f:M D} (h:DE X c e f) (he:∀whole,isTrue e X.env whole=(do let v <-whole;ygp e.pos;ydJ [v] (truthy v)):=by intro _;rfl):DT X c e (tst f):=by
 obtain⟨t,p,w⟩:=h
 refine⟨_,qqa p he,λρ σ H Q rp h=>w ρ σ H _ rp (Wp.bndB h λd ρ1 v H1 r1 i1 g1 h1=>?_)⟩
 obtain⟨b,e,h2⟩:=qec h1
 have:=qbm e
 subst this
 exact⟨b,i1,h2 H1 r1 .refl⟩
def qco(f:M Bool):M Bool:=bnd f λb=>ret (!b)
theorem vZ {f:M Bool} (h:DT X c a f):DT X c (.UnaryOp .Not a pos) (qco f):=by
 obtain⟨t,p,w⟩:=h
 exact⟨_,qqd p,λρ σ H Q rp h=>w ρ σ H _ rp (WpB.bndB h λd ρ1 H1 r1 g1 h1=>h1 H1 r1 .refl)⟩
def DW(X:Cx)(c:Fc)(e:Expr)(f:M Bool):Prop:=∃t,PW X e t/\∀ρ σ H Q,Rep X.K c ρ σ H->WpB X.K c σ H Q (f ρ)->t σ H Q
theorem DW.dt {f:M Bool} (h:DW X c e f):DT X c e f:=by
 obtain⟨t,p,w⟩:=h
 exact⟨t,p.pt,w⟩
def qle(f g:M Bool):M Bool:=bnd f λb=>if b then g else ret false
def tor(f g:M Bool):M Bool:=bnd f λb=>if b then ret true else g
variable{rest:List Expr}
theorem qjp {f:M Bool} (h:DT X c a f):DW X c (.BoolOp .And [a] pos) f:=by
 obtain⟨t,p,w⟩:=h
 exact⟨t,qoc p,w⟩
theorem qcb {f:M Bool} (h:DT X c a f):DW X c (.BoolOp .Or [a] pos) f:=by
 obtain⟨t,p,w⟩:=h
 exact⟨t,qqb p,w⟩
theorem qnp {f g:M Bool} (ha:DT X c a f) (hb:DW X c (.BoolOp .And (b::rest) pos) g):DW X c (.BoolOp .And (a::b::rest) pos) (qle f g):=by
 obtain⟨ta,pa,wa⟩:=ha
 obtain⟨tb,pb,wb⟩:=hb
 refine⟨_,qqc pa pb,λρ σ H Q rp h=>wa ρ σ H _ rp (WpB.bndB h λd ρ1 H1 r1 g1 h1=>?_)⟩
 cases d with
 |true=>exact qpT (wb ρ1 σ H1 Q r1 (by simpa using h1))
 |false=>exact qpS ((by simpa using h1:WpB X.K c σ H1 Q (ret false ρ1)) H1 r1 .refl)
theorem qdy {f g:M Bool} (ha:DT X c a f) (hb:DW X c (.BoolOp .Or (b::rest) pos) g):DW X c (.BoolOp .Or (a::b::rest) pos) (tor f g):=by
 obtain⟨ta,pa,wa⟩:=ha
 obtain⟨tb,pb,wb⟩:=hb
 refine⟨_,qsh pa pb,λρ σ H Q rp h=>wa ρ σ H _ rp (WpB.bndB h λd ρ1 H1 r1 g1 h1=>?_)⟩
 cases d with
 |true=>exact qpT ((by simpa using h1:WpB X.K c σ H1 Q (ret true ρ1)) H1 r1 .refl)
 |false=>exact qpS (wb ρ1 σ H1 Q r1 (by simpa using h1))
def qpU(f:M D):M D:=bnd f λd=>bnd (lift (asB d)) λb=>ret (.bl (!b))
def qfj(f g:M D):M D:=bnd f λd=>bnd (lift (asB d)) λb=>if b then g else ret (.bl false)
def dor(f g:M D):M D:=bnd f λd=>bnd (lift (asB d)) λb=>if b then ret (.bl true)else g
theorem qjq {K:Fr0} {σ:St} {H:Hp} {Q:VK} {d:D} {k:Bool->M D} {ρ:Env} (h:Wp K c σ H Q (bnd (lift (asB d)) k ρ)):∃b,d=.bl b/\Wp K c σ H Q (k b ρ):=by
 unfold bnd at h
 cases e:asB d with
 |none=>rw[e]at h;exact h.elim
 |some b=>rw[e]at h;exact⟨b,qbm e,h⟩
theorem qbn {op} {f:M D} (h:DE X c a f):DE X c (.BoolOp op [a] pos) f:=by
 obtain⟨t,p,w⟩:=h
 exact⟨t,qqe p,w⟩
theorem qnq {f:M D} (h:DE X c a f):DE X c (.UnaryOp .Not a pos) (qpU f):=by
 obtain⟨t,p,w⟩:=h
 refine⟨_,qqg p,λρ σ H Q rp h=>w ρ σ H _ rp (Wp.bnd h λd ρ1 v H1 r1 i1 g1 h1=>?_)⟩
 obtain⟨b,e,h2⟩:=qjq h1
 subst e
 exact⟨b,i1,h2 _ H1 r1 rfl .refl⟩
theorem qcH {f g:M D} (ha:DE X c a f) (hb:DE X c (.BoolOp .And (b::rest) pos) g):DE X c (.BoolOp .And (a::b::rest) pos) (qfj f g):=by
 obtain⟨ta,pa,wa⟩:=ha
 obtain⟨tb,pb,wb⟩:=hb
 refine⟨_,qqf pa pb,λρ σ H Q rp h=>wa ρ σ H _ rp (Wp.bnd h λd ρ1 v H1 r1 i1 g1 h1=>?_)⟩
 obtain⟨k,e,h2⟩:=qjq h1
 subst e
 refine⟨k,i1,?_⟩
 cases k with
 |true=>exact qpT (wb ρ1 σ H1 Q r1 (by simpa using h2))
 |false=>exact qpS ((by simpa using h2:Wp X.K c σ H1 Q (ret (.bl false) ρ1)) _ H1 r1 rfl .refl)
theorem qly {f g:M D} (ha:DE X c a f) (hb:DE X c (.BoolOp .Or (b::rest) pos) g):DE X c (.BoolOp .Or (a::b::rest) pos) (dor f g):=by
 obtain⟨ta,pa,wa⟩:=ha
 obtain⟨tb,pb,wb⟩:=hb
 refine⟨_,qsk pa pb,λρ σ H Q rp h=>wa ρ σ H _ rp (Wp.bnd h λd ρ1 v H1 r1 i1 g1 h1=>?_)⟩
 obtain⟨k,e,h2⟩:=qjq h1
 subst e
 refine⟨k,i1,?_⟩
 cases k with
 |true=>exact qpT ((by simpa using h2:Wp X.K c σ H1 Q (ret (.bl true) ρ1)) _ H1 r1 rfl .refl)
 |false=>exact qpS (wb ρ1 σ H1 Q r1 (by simpa using h2))
def dif(f:M Bool)(g k:M D):M D:=bnd f λb=>if b then g else k
theorem qlz {t:Expr} {f:M Bool} {g k:M D} (ht:DT X c t f) (ha:DE X c a g) (hb:DE X c b k):DE X c (.IfExp t a b pos) (dif f g k):=by
 obtain⟨tt,pt,wt⟩:=ht
 obtain⟨ta,pa,wa⟩:=ha
 obtain⟨tb,pb,wb⟩:=hb
 refine⟨_,qll pt pa pb,λρ σ H Q rp h=>wt ρ σ H _ rp (WpB.bnd h λd ρ1 H1 r1 g1 h1=>?_)⟩
 cases d with
 |true=>exact qpT (wa ρ1 σ H1 Q r1 (by simpa using h1))
 |false=>exact qpS (wb ρ1 σ H1 Q r1 (by simpa using h1))
def qa5 (K:Fr0) (F:List D->OD) (r:List V->Hp->VK->Prop):Prop:=∀(A:Addr->Prop)(H:Hp)(xs:List D)(d:D)(vs:List V)(Q:VK),(∀a,H a=none->A a)->IsL K A H xs vs->F xs=some d ->
 (∀w H',yA H H'->Is K A H' d w->Q w H')->r vs H Q
def zB(F:List D->OD)(f:M (List D)):M D:=bnd f λds=>lift (F ds)
theorem qqM {r:List V->Hp->VK->Prop} {F:List D->OD} {f:M (List D)} {t:TA} (hF:qa5 X.K F r) (w:∀ρ σ H Q,Rep X.K c ρ σ H->WpL X.K c σ H Q (f ρ)->t σ H Q) :
  ∀ρ σ H Q,Rep X.K c ρ σ H->Wp X.K c σ H Q (zB F f ρ)->tCB r t σ H Q:=λρ σ H Q rp h=>w ρ σ H _ rp (WpL.bnd h λds ρ1 vs H1 r1 i1 g1 h1=>by
 obtain⟨d,e,h3⟩:=h1.lift
 exact hF _ H1 ds d vs Q (λa ha=>r1.new ha) i1 e λw H' s i=>h3 w H' (r1.same s) i (.of_same s))
theorem qN {id:String} {x:Str} {p:Pos} {es:List Expr} {r:List V->Hp->VK->Prop} {F:List D->OD} {f:M (List D)} (hc:uS X (.builtin id) r) (hF:qa5 X.K F r) (hg:Gl X x) (hm:X.mg x=none) (hv:yaF x=some (.builtin id)) (ha:DA X c (e::es) f) (hn:x≠"__name__":=by decide) (hdb:(x==("__debug__":Str))=false:=by decide)
  (he:yam (e::es) X.env=(false,eval e X.env)::yam es X.env:=by rfl) (hpl:(ybb pos (yam es X.env)).any (·.1)=false:=by rfl):DE X c (.Call (.Name x p) (e::es) [] pos) (zB F f):=by
 obtain⟨t,pa,w⟩:=ha
 exact⟨_,qhh hc hg hm hv pa hn hdb he hpl,qqM hF w⟩
theorem qjr {T:String} {x:Str} {p:Pos} {es:List Expr} {r:List V->Hp->VK->Prop} {F:List D->OD} {f:M (List D)} (hc:uS X (.type T) r) (hF:qa5 X.K F r) (hg:Gl X x) (hm:X.mg x=none) (hv:yaF x=some (.type T)) (ha:DA X c (e::es) f) (hn:x≠"__name__":=by decide) (hdb:(x==("__debug__":Str))=false:=by decide)
  (he:yam (e::es) X.env=(false,eval e X.env)::yam es X.env:=by rfl) (hpl:(ybb pos (yam es X.env)).any (·.1)=false:=by rfl):DE X c (.Call (.Name x p) (e::es) [] pos) (zB F f):=by
 obtain⟨t,pa,w⟩:=ha
 exact⟨_,qfc hc hg hm hv pa hn hdb he hpl,qqM hF w⟩
theorem qI {r:R2} {F:D->D->OD} {f g:M D} (hr:IxR X r) (hF:OpS X.K F r) (ha:DE X c a f) (hb:DE X c b g) (hs:qgs b:=by intro _ _;rfl):DE X c (.Subscript a b pos) (d2 F f g):=by
 obtain⟨ta,pa,wa⟩:=ha
 obtain⟨tb,pb,wb⟩:=hb
 exact⟨_,qqD hr pa pb hs,op2 hF wa wb⟩
end
inductive Fl where
 |nx (ρ:Env)|rt (d:D) (ρ:Env)|bk (ρ:Env)|ct (ρ:Env)
structure GrS (O:List Nat) (σ:St) (H:Hp) (σ':St) (H':Hp):Prop where
 ext:Ext (Cl O σ) H H'
 cl:∀b,Cl O σ b->(H b).isSome=true->Cl O σ' b
 dom:∀b,H' b=none->H b=none
theorem qij {H H':Hp} {b:Addr} (dom:H' b=none->H b=none) (h:(H b).isSome=true):(H' b).isSome=true:=by
 cases e:H' b with
 |none=>rw[dom e]at h;cases h
 |some o=>rfl
theorem GrS.refl{O:List Nat}{σ:St}{H:Hp}:GrS O σ H σ H:=⟨Ext.refl,λ_ h _=>h,λ_ h=>h⟩
theorem Gr.s{O:List Nat}{σ:St}{H H':Hp}(g:Gr O σ H H'):GrS O σ H σ H':=⟨g.ext,λ_ h _=>h,g.dom⟩
theorem GrS.trans {O:List Nat} {σ σ1 σ2:St} {H H1 H2:Hp} (a:GrS O σ H σ1 H1) (b:GrS O σ1 H1 σ2 H2):GrS O σ H σ2 H2 :=
 ⟨⟨λc xs h=>b.ext.tup c xs (a.ext.tup c xs h),λc o u h=>b.ext.frz c o u (a.ext.frz c o u h),λc o hc h=>b.ext.at_ c o (a.cl c hc (by rw[h];rfl)) (a.ext.at_ c o hc h)⟩,
  λc hc h=>b.cl c (a.cl c hc h) (qij (a.dom c) h),λc h=>a.dom c (b.dom c h)⟩
theorem GrS.is {K:Fr0} {c:Fc} {σ σ':St} {H H':Hp} {d:D} {v:V} (g:GrS c.O σ H σ' H') (h:Is K (Cn c σ) H d v):Is K (Cn c σ') H' d v :=
 Is.ext ⟨g.ext.tup,g.ext.frz,λb o hb h=>g.ext.at_ b o hb.2 h⟩ (λa ha hs=>⟨ha.1,g.cl a ha.2 hs⟩) h
theorem GrS.isL {K:Fr0} {c:Fc} {σ σ':St} {H H':Hp} {d:List D} {v:List V} (g:GrS c.O σ H σ' H') (h:IsL K (Cn c σ) H d v):IsL K (Cn c σ') H' d v :=
 IsL.ext ⟨g.ext.tup,g.ext.frz,λb o hb h=>g.ext.at_ b o hb.2 h⟩ (λa ha hs=>⟨ha.1,g.cl a ha.2 hs⟩) h
def WpS (K:Fr0) (c:Fc) (σ:St) (H:Hp) (D:qlc):R Fl->Prop
 |.ok (.nx ρ)=>∀σ' H',Rep K c ρ σ' H'->GrS c.O σ H σ' H'->D.nx σ' H'
 |.ok (.rt d ρ)=>∀v σ' H',Rep K c ρ σ' H'->Is K c.B H' d v->GrS c.O σ H σ' H'->D.rt v H'
 |.ok (.bk ρ)=>∀σ' H',Rep K c ρ σ' H'->GrS c.O σ H σ' H'->D.bk σ' H'
 |.ok (.ct ρ)=>∀σ' H',Rep K c ρ σ' H'->GrS c.O σ H σ' H'->D.ct σ' H'
 |.exc x ρ=>∀σ' H',Rep K c ρ σ' H'->GrS c.O σ H σ' H'->c.E x H'
 |.bad=>False
abbrev MS:=Env->R Fl
def DS(X:Cx)(c:Fc)(st:Stmt)(f:MS):Prop:=∃t,PS X st t/\∀ρ σ H D,Rep X.K c ρ σ H->WpS X.K c σ H D (f ρ)->t D σ H
def DSs(X:Cx)(c:Fc)(st:List Stmt)(f:MS):Prop:=∃t,PSs X st t/\∀ρ σ H D,Rep X.K c ρ σ H->WpS X.K c σ H D (f ρ)->t D σ H
theorem WpS.gr {K:Fr0} {c:Fc} {σ σ1:St} {H H1:Hp} {D:qlc}:∀{r:R Fl},WpS K c σ H D r->GrS c.O σ H σ1 H1->WpS K c σ1 H1 D r
 |.ok (.nx ρ),h,g=>λσ' H' hr hg=>h σ' H' hr (g.trans hg)
 |.ok (.rt d ρ),h,g=>λv σ' H' hr hi hg=>h v σ' H' hr hi (g.trans hg)
 |.ok (.bk ρ),h,g=>λσ' H' hr hg=>h σ' H' hr (g.trans hg)
 |.ok (.ct ρ),h,g=>λσ' H' hr hg=>h σ' H' hr (g.trans hg)
 |.exc x ρ,h,g=>λσ' H' hr hg=>h σ' H' hr (g.trans hg)
 |.bad,h,_=>h
def sbnd {α:Type} (f:M α) (k:α->MS):MS:=λρ=>match f ρ with
 |.ok (a,ρ')=>k a ρ'
 |.exc x ρ' => .exc x ρ'
 |.bad => .bad
section
variable{K:Fr0}{c:Fc}{σ:St}{H:Hp}{D:qlc}
theorem Wp.sbnd {f:M Sk.D} {k:Sk.D->MS} {ρ:Env} {Q':VK} (h:WpS K c σ H D (sbnd f k ρ)) (hQ:∀d ρ' v H',Rep K c ρ' σ H'->Is K (Cn c σ) H' d v->Gr c.O σ H H'->WpS K c σ H' D (k d ρ')->Q' v H'):Wp K c σ H Q' (f ρ):=by
 unfold Sk.sbnd at h
 cases e:f ρ with
 |ok p=>rw[e]at h;exact λv H' hr hi hg=>hQ p.1 p.2 v H' hr hi hg (h.gr hg.s)
 |exc x ρ'=>rw[e]at h;exact λH' hr hg=>h σ H' hr hg.s
 |bad=>rw[e]at h;exact h
theorem WpB.sbnd {f:M Bool} {k:Bool->MS} {ρ:Env} {Q':Bool->Hp->Prop} (h:WpS K c σ H D (sbnd f k ρ)) (hQ:∀d ρ' H',Rep K c ρ' σ H'->Gr c.O σ H H'->WpS K c σ H' D (k d ρ')->Q' d H'):WpB K c σ H Q' (f ρ):=by
 unfold Sk.sbnd at h
 cases e:f ρ with
 |ok p=>rw[e]at h;exact λH' hr hg=>hQ p.1 p.2 H' hr hg (h.gr hg.s)
 |exc x ρ'=>rw[e]at h;exact λH' hr hg=>h σ H' hr hg.s
 |bad=>rw[e]at h;exact h
theorem WpL.sbnd {f:M (List Sk.D)} {k:List Sk.D->MS} {ρ:Env} {Q':List V->Hp->Prop} (h:WpS K c σ H D (sbnd f k ρ)) (hQ:∀d ρ' v H',Rep K c ρ' σ H'->IsL K (Cn c σ) H' d v->Gr c.O σ H H'->WpS K c σ H' D (k d ρ')->Q' v H'):WpL K c σ H Q' (f ρ):=by
 unfold Sk.sbnd at h
 cases e:f ρ with
 |ok p=>rw[e]at h;exact λv H' hr hi hg=>hQ p.1 p.2 v H' hr hi hg (h.gr hg.s)
 |exc x ρ'=>rw[e]at h;exact λH' hr hg=>h σ H' hr hg.s
 |bad=>rw[e]at h;exact h
end
def qG (f g:MS):MS:=λρ=>match f ρ with
 |.ok (.nx ρ')=>g ρ'
 |r=>r
theorem WpS.mono_nx {K:Fr0} {c:Fc} {σ:St} {H:Hp} {D:qlc} {f g:MS} {ρ:Env} {N:St->Hp->Prop} (h:WpS K c σ H D (qG f g ρ)) (hN:∀ρ' σ' H',Rep K c ρ' σ' H'->GrS c.O σ H σ' H'->WpS K c σ' H' D (g ρ')->N σ' H') :
  WpS K c σ H {D with nx:=N} (f ρ):=by
 unfold qG at h
 cases e:f ρ with
 |ok fl=>
  rw[e]at h
  cases fl with
  |nx ρ'=>exact λσ' H' hr hg=>hN ρ' σ' H' hr hg (h.gr hg)
  |rt d ρ'=>exact h
  |bk ρ'=>exact h
  |ct ρ'=>exact h
 |exc x ρ'=>rw[e]at h;exact h
 |bad=>rw[e]at h;exact h
section
variable{X:Cx}{c:Fc}{a b e:Expr}{pos:Pos}{st:Stmt}{sts:List Stmt}
theorem qox:DSs X c [] (λρ => .ok (.nx ρ)):=⟨_,qod,λρ σ H D r h=>h σ H r .refl⟩
theorem qi {f:MS} (h:DS X c st f):DSs X c [st] f:=by
 obtain⟨t,p,w⟩:=h
 exact⟨t,qoe p,w⟩
theorem qf {f g:MS} (h:DS X c st f) (hr:DSs X c sts g):DSs X c (st::sts) (qG f g):=by
 obtain⟨t,p,w⟩:=h
 obtain⟨t2,p2,w2⟩:=hr
 exact⟨_,qlm p p2,λρ σ H D r h=>w ρ σ H _ r (h.mono_nx λρ' σ' H' r' g' h'=>w2 ρ' σ' H' D r' h')⟩
def jc(f:M D):MS:=sbnd f λd ρ => .ok (.rt d ρ)
theorem Is.cn{K:Fr0}{σ:St}{H:Hp}{d:D}{v:V}(h:Is K (Cn c σ) H d v):Is K c.B H d v:=Is.ext Ext.refl (λ_ h _=>h.1) h
theorem qy {f:M D} (h:DE X c e f):DS X c (.Return (some e) pos) (jc f):=by
 obtain⟨t,p,w⟩:=h
 exact⟨_,qnh p,λρ σ H D r h=>w ρ σ H _ r (Wp.sbnd h λd ρ1 v H1 r1 i1 g1 h1=>h1 v σ H1 r1 i1.cn .refl)⟩
def zx(f:M D):MS:=sbnd f λ_ ρ => .ok (.nx ρ)
theorem qU {f:M D} (h:DE X c e f) (hs:ydK e none pos.line X.env=pure false:=by rfl):DS X c (.Expr e pos) (zx f):=by
 obtain⟨t,p,w⟩:=h
 exact⟨_,qof p hs,λρ σ H D r h=>w ρ σ H _ r (Wp.sbnd h λd ρ1 v H1 r1 i1 g1 h1=>h1 σ H1 r1 .refl)⟩
def sif(f:M Bool)(g k:MS):MS:=sbnd f λb=>if b then g else k
theorem uu {t:Expr} {s1 s2:List Stmt} {f:M Bool} {g k:MS} (ht:DT X c t f) (ha:DSs X c s1 g) (hb:DSs X c s2 k):DS X c (.If t s1 s2 pos) (sif f g k):=by
 obtain⟨tt,pt,wt⟩:=ht
 obtain⟨ta,pa,wa⟩:=ha
 obtain⟨tb,pb,wb⟩:=hb
 refine⟨_,qsn pt pa pb,λρ σ H D rp h=>wt ρ σ H _ rp (WpB.sbnd h λd ρ1 H1 r1 g1 h1=>?_)⟩
 cases d with
 |true=>exact qpT (wa ρ1 σ H1 D r1 (by simpa using h1))
 |false=>exact qpS (wb ρ1 σ H1 D r1 (by simpa using h1))
theorem qlA:DS X c st (λ_ => .bad):=⟨_,qln,λρ σ H D rp h=>h.elim⟩
theorem zS{α:Type}{l:List α}{i j:Nat}{v:α}(h:j≠i):(l.set i v)[j]? = l[j]? := List.getElem?_set_ne (ybs h)
theorem Cl.set {O:List Nat} {σ:St} {i:Nat} {v:Option V} (hi:i ∉ O) (a:Addr):Cl O (σ.set i v) a ↔ Cl O σ a:=by
 constructor
 ·intro h j hj
  have e:j≠i:=λe=>hi (e▸hj)
  have:=h j hj
  rw[zS e]at this
  exact this
 ·intro h j hj
  have e:j≠i:=λe=>hi (e▸hj)
  rw[zS e]
  exact h j hj
theorem Rep.set {K:Fr0} {ρ:Env} {σ:St} {H:Hp} {i:Nat} {d:D} {v:V} (r:Rep K c ρ σ H) (hi:i ∉ c.O) (h:Is K (Cn c σ) H d v):Rep K c (ρ.set i (some d)) (σ.set i (some v)) H where
 len:=by rw[lS_,lS_];exact r.len
 val := λj e hj=>by
  have up:∀{d':D}{v':V},Is K (Cn c σ) H d' v'->Is K (Cn c (σ.set i (some v))) H d' v':=λh=>Is.ext Ext.refl (λa ha _=>⟨ha.1,(Cl.set hi a).mpr ha.2⟩) h
  by_cases e1:j=i
  ·subst e1
   have hl:j<ρ.length:=by
    have:=(gI_.mp hj).1
    rwa [lS_]at this
   rw[List.getElem?_set_self hl]at hj
   cases hj
   refine⟨v,List.getElem?_set_self (by rw[<-r.len];exact hl),.inr ⟨hi,up h⟩⟩
  ·rw[zS e1]at hj
   obtain⟨w,h1,h2⟩:=r.val j e hj
   refine⟨w,by rw[zS e1];exact h1,?_⟩
   rcases h2 with⟨hj2,ds,a,xs,h3,h5,h6,h7⟩|⟨h3,h4⟩
   ·exact .inl ⟨hj2,ds,a,xs,h3,h5,h6,IsL.ext Ext.refl (λa ha _=>⟨ha.1,(Cl.set hi a).mpr ha.2⟩) h7⟩
   ·exact .inr ⟨h3,up h4⟩
 own:=λj hj w h=>by
  have e1:j≠i:=λe=>hi (e▸hj)
  rw[zS e1]at h
  exact r.own j hj w h
 inj:=λj k a hj hk h1 h2=>by
  have e1:j≠i:=λe=>hi (e▸hj)
  have e2:k≠i:=λe=>hi (e▸hk)
  rw[zS e1]at h1
  rw[zS e2]at h2
  exact r.inj j k a hj hk h1 h2
 b0:=r.b0
 kp:=r.kp
 dm:=r.dm
 pO:=r.pO
 ps:=λj hj=>by
  have e:j≠i:=λe=>hi (e▸r.pO j hj)
  rw[zS e];exact r.ps j hj
theorem GrS.set{O:List Nat}{σ:St}{H:Hp}{i:Nat}{v:Option V}(hi:i ∉ O):GrS O σ H (σ.set i v) H:=⟨Ext.refl,λb h _=>(Cl.set hi b).mpr h,λ_ h=>h⟩
def zG(i:Nat)(f:M D):MS:=sbnd f λd ρ => .ok (.nx (ρ.set i (some d)))
theorem qK {i:Nat} {x:Str} {pos':Pos} {f:M D} (hN:X.N.Nodup) (he:DE X c e f) (ho:i ∉ c.O:=by exact of_decide_eq_false rfl) (hi:X.N[i]? = some x:=by rfl) (hx:Loc X.env.scope x:=by first|exact yby rfl|exact ya3 rfl) (hs:ydK e (some (.Name x pos')) pos.line X.env=pure false:=by rfl) (hf:X.fn x=true\/X.env.scope.names.lookup x=some .local:=by first|exact .inl rfl|exact .inr rfl|assumption) :
  DS X c (.Assign [.Name x pos'] e pos) (zG i f):=by
 obtain⟨t,p,w⟩:=he
 refine⟨_,qnj hN hi hx p hs hf,λρ σ H D r h=>w ρ σ H _ r (Wp.sbnd h λd ρ1 v H1 r1 i1 g1 h1=>?_)⟩
 exact h1 _ H1 (r1.set ho i1) (.set ho)
def DG (X:Cx) (c:Fc) (tg:Expr) (f:D->Env->Option Env):Prop:=∃g,PG X tg g/\∀ρ σ H d v ρ' (N:St->Hp->Prop),Rep X.K c ρ σ H->Is X.K (Cn c σ) H d v->f d ρ=some ρ' ->
 (∀σ',Rep X.K c ρ' σ' H->GrS c.O σ H σ' H->(∀j∈c.O,σ'[j]? = σ[j]?)->N σ' H)->g v σ H N
def qq(i:Nat):D->Env->Option Env:=λd ρ=>some (ρ.set i (some d))
theorem qw {i:Nat} {x:Str} (hN:X.N.Nodup) (ho:i ∉ c.O:=by exact of_decide_eq_false rfl) (hi:X.N[i]? = some x:=by rfl) (hx:Loc X.env.scope x:=by first|exact yby rfl|exact ya3 rfl) (hf:X.fn x=true\/X.env.scope.names.lookup x=some .local:=by first|exact .inl rfl|exact .inr rfl|assumption) {p:Pos}:DG X c (.Name x p) (qq i):=by
 refine⟨_,qog hN hi hx hf,λρ σ H d v ρ' N r h e k=>?_⟩
 cases e
 exact k _ (r.set ho h) (.set ho) λj hj=>zS λe=>ho (e▸hj)
def DGs (X:Cx) (c:Fc) (tgs:List Expr) (f:List D->Env->Option Env):Prop:=∃g,PGs X tgs g/\∀ρ σ H ds vs ρ' (N:St->Hp->Prop),Rep X.K c ρ σ H->IsL X.K (Cn c σ) H ds vs->f ds ρ=some ρ' ->
 (∀σ',Rep X.K c ρ' σ' H->GrS c.O σ H σ' H->(∀j∈c.O,σ'[j]? = σ[j]?)->N σ' H)->g vs σ H N
def qcI:List D->Env->Option Env
 | [],ρ=>some ρ
 |_,_=>none
def zD (f:D->Env->Option Env) (g:List D->Env->Option Env):List D->Env->Option Env
 |d::ds,ρ=>(f d ρ).bind (g ds)
 |_,_=>none
theorem qad:DGs X c [] qcI:=by
 refine⟨_,qoh,λρ σ H ds vs ρ' N r h e k=>?_⟩
 cases ds with
 |nil=>
  cases e
  exact⟨h,k σ r .refl λ_ _=>rfl⟩
 |cons d ds=>cases e
theorem zV {tg:Expr} {tgs:List Expr} {f:D->Env->Option Env} {g:List D->Env->Option Env} (h1:DG X c tg f) (h2:DGs X c tgs g)
  (hs:(ybU (tg::tgs) X.env).map (·.2)=yc0 tg X.env::(ybU tgs X.env).map (·.2):=by rfl):DGs X c (tg::tgs) (zD f g):=by
 obtain⟨t1,p1,w1⟩:=h1
 obtain⟨t2,p2,w2⟩:=h2
 refine⟨_,qlo p1 p2 hs,λρ σ H ds vs ρ' N r h e k=>?_⟩
 cases ds with
 |nil=>cases e
 | cons d ds=>
  obtain⟨v,ws,rfl,i1,i2⟩:=h
  have e':(f d ρ).bind (g ds)=some ρ':=e
  cases e1:f d ρ with
  |none=>rw[e1]at e';cases e'
  |some ρ1=>
   rw[e1]at e'
   exact⟨v,ws,rfl,w1 ρ σ H d v ρ1 _ r i1 e1 λσ1 r1 g1 o1=>w2 ρ1 σ1 H ds ws ρ' N r1 (g1.isL i2) e' λσ2 r2 g2 o2=>k σ2 r2 (g1.trans g2) λj hj=>(o2 j hj).trans (o1 j hj)⟩
def qcJ (n:Nat) (g:List D->Env->Option Env):D->Env->Option Env
 |.tup ds,ρ=>if ds.length=n then g ds ρ else none
 |_,_=>none
theorem qcc {es:List Expr} {k n:Nat} {p:Pos} {g:List D->Env->Option Env} (hc:X.calm=true) (h:DGs X c es g) (hn:(ybU es X.env).length=n:=by rfl) (hst:(ybU es X.env).findIdx? (·.1)=none:=by rfl):DG X c (.Tuple es k p) (qcJ n g):=by
 obtain⟨t,p,w⟩:=h
 refine⟨_,qqj (n:=n) hc p hn hst,λρ σ H d v ρ' N r h e q=>?_⟩
 cases d with
 | tup ds=>
  obtain⟨a,xs,rfl,ta,il⟩:=h
  have e':(if ds.length=n then g ds ρ else none)=some ρ':=e
  by_cases hl:ds.length=n
  ·rw[if_pos hl]at e'
   exact⟨a,xs,rfl,ta.sq,by rw[il.length];exact hl,w ρ σ H ds xs ρ' N r il e' q⟩
  ·rw[if_neg hl]at e';cases e'
 |_=>cases e
def qpV (f:M D) (g:D->Env->Option Env):MS:=sbnd f λd ρ=>match g d ρ with
 |some ρ' => .ok (.nx ρ')
 |none => .bad
theorem qnr {tg:Expr} {f:M D} {g:D->Env->Option Env} (he:DE X c e f) (hg:DG X c tg g) (hs:ydz [tg] e pos.line X.env=pure false:=by rfl) (hw:ydA [tg] e X.env=pure none:=by rfl) (h1:(ybU [tg] X.env).map (·.2)=[yc0 tg X.env]:=by rfl):DS X c (.Assign [tg] e pos) (qpV f g):=by
 obtain⟨t,p,w⟩:=he
 obtain⟨t2,p2,w2⟩:=hg
 refine⟨_,qni p p2 hs hw h1,λρ σ H D r h=>w ρ σ H _ r (Wp.sbnd h λd ρ1 v H1 r1 i1 g1 h1=>?_)⟩
 cases e:g d ρ1 with
 |none=>rw[e]at h1;exact h1.elim
 |some ρ2=>
  rw[e]at h1
  exact w2 ρ1 σ H1 d v ρ2 _ r1 i1 e λσ' r2 g2 _=>h1 σ' H1 r2 g2
end
section
variable{K:Fr0}
def iiD (g:Int->Int->D):D->D->OD
 |.int i,.int j=>some (g i j)
 |_,_=>none
def qjs (C:Int->Int->Bool) (g:Int->Int->D):D->D->OD
 |.int i,.int j=>if C i j then some (g i j)else none
 |_,_=>none
theorem qcK {g:Int->Int->V} {gD:Int->Int->D} (hg:∀A H i j,Is K A H (gD i j) (g i j)):OpS K (iiD gD) (rI0 g):=by
 intro A H x y d v u Q hn ix iy e k
 cases x<;>cases y<;>simp only[iiD]at e<;>try (cases e;done)
 rename_i i j
 cases (yaw e)
 cases (show v=.int i from ix)
 cases (show u=.int j from iy)
 exact⟨i,j,rfl,rfl,k _ H (yA.refl H) (hg _ _ _ _)⟩
theorem qhj {C:Int->Int->Prop} {CB:Int->Int->Bool} {g:Int->Int->V} {gD:Int->Int->D} (hC:∀i j,CB i j=true->C i j) (hg:∀A H i j,Is K A H (gD i j) (g i j)):OpS K (qjs CB gD) (rI C g):=by
 intro A H x y d v u Q hn ix iy e k
 cases x<;>cases y<;>simp only[qjs]at e<;>try (cases e;done)
 rename_i i j
 obtain⟨e1,e2⟩:=jI e
 subst e2
 cases (show v=.int i from ix)
 cases (show u=.int j from iy)
 exact⟨i,j,rfl,rfl,hC i j e1,k _ H (yA.refl H) (hg _ _ _ _)⟩
def qbo:D->D->OD:=iiD λi j => .int (i-j)
theorem u8:OpS K qbo (rI0 λi j => .int (i-j)):=qcK λ_ _ _ _=>rfl
def jA(i:Int):Bool:=decide (-(2 ^ 64)<i)&&decide (i<2 ^ 64)
theorem qfk {i:Int} (h:jA i=true) : -(2 ^ 64)<i/\i<2 ^ 64:=by
 unfold jA at h
 rw[yan]at h
 exact⟨of_decide_eq_true h.1,of_decide_eq_true h.2⟩
def qgv(i j:Int):Bool:=jA i||jA j
theorem qlB {i j:Int} (h:qgv i j=true):qqp i j:=by
 unfold qgv at h
 rw[yfd]at h
 rcases h with h|h
 ·exact .inl (qfk h)
 ·exact .inr (qfk h)
def qik(i j:Int):Bool:=decide (0<j)&&decide (j<1606938044258990275541962092341162602522202993782792835301376)
theorem qhk {i j:Int} (h:qik i j=true):qqo i j:=by
 unfold qik at h
 rw[yan]at h
 exact⟨of_decide_eq_true h.1,of_decide_eq_true h.2⟩
def qgw:D->D->OD:=qjs qik λi j => .int (i/j)
theorem qcp:OpS K qgw (rI qqo λi j => .int (i/j)):=qhj (λ_ _=>qhk) λ_ _ _ _=>rfl
def qck:D->D->OD:=qjs (λ_ j=>decide (0<j)) λi j => .int (i%j)
theorem qae:OpS K qck (rI (λ_ j=>0<j) λi j => .int (i%j)):=qhj (λ_ _ h=>of_decide_eq_true h) λ_ _ _ _=>rfl
def ltD:D->D->OD:=iiD λi j => .bl (decide (i<j))
def leD:D->D->OD:=iiD λi j => .bl (decide (i<=j))
def gtD:D->D->OD:=iiD λi j => .bl (decide (j<i))
def geD:D->D->OD:=iiD λi j => .bl (decide (j<=i))
theorem qns:OpS K ltD (rI0 λi j => .bl (decide (i<j))):=qcK λ_ _ _ _=>rfl
theorem qfl:OpS K leD (rI0 λi j => .bl (decide (i<=j))):=qcK λ_ _ _ _=>rfl
theorem wU:OpS K gtD (rI0 λi j => .bl (decide (j<i))):=qcK λ_ _ _ _=>rfl
theorem qqN:OpS K geD (rI0 λi j => .bl (decide (j<=i))):=qcK λ_ _ _ _=>rfl
def sc2:D->D->Option Bool
 |.non,.non=>some true|.non,.int _=>some false|.int _,.non=>some false|.non,.bl _=>some false|.bl _,.non=>some false|.non,.str _=>some false|.str _,.non=>some false
 |.int i,.int j=>some (decide (i=j))|.bl i,.bl j=>some (decide (i=j))|.str i,.str j=>some (decide (i=j))
 |.int _,.str _=>some false|.str _,.int _=>some false|.bl _,.str _=>some false|.str _,.bl _=>some false
 |_,_=>none
def eqS(x y:D):OD:=(sc2 x y).map D.bl
def neS(x y:D):OD:=(sc2 x y).map λb=>D.bl (!b)
theorem qnt {A:Addr->Prop} {H:Hp} {x y:D} {v u:V} {b:Bool} (ix:Is K A H x v) (iy:Is K A H y u) (e:sc2 x y=some b):qsv v u=true/\decide (v=u)=b:=by
 cases x<;>cases y<;>simp only[sc2]at e<;>first
  |(cases e;done)
  |(cases ix;cases iy;cases e;exact⟨rfl,rfl⟩)
  |(cases ix;cases iy;cases e;exact⟨rfl,by simp⟩)
  |(cases ix;cases iy;cases e;exact⟨rfl,by rw[ybc];simp⟩)
theorem qoy:OpS K eqS rEq:=by
 intro A H x y d v u Q hn ix iy e k
 unfold eqS at e
 cases e1:sc2 x y with
 |none=>rw[e1]at e;cases e
 |some b=>
  rw[e1]at e
  cases e
  obtain⟨h1,h2⟩:=qnt ix iy e1
  exact⟨h1,by rw[h2];exact k _ H (yA.refl H) rfl⟩
theorem qoz:OpS K neS rNe:=by
 intro A H x y d v u Q hn ix iy e k
 unfold neS at e
 cases e1:sc2 x y with
 |none=>rw[e1]at e;cases e
 |some b=>
  rw[e1]at e
  cases e
  obtain⟨h1,h2⟩:=qnt ix iy e1
  exact⟨h1,by rw[h2];exact k _ H (yA.refl H) rfl⟩
def vy:D->Bool
 |.non=>true
 |_=>false
theorem qcq {A:Addr->Prop} {H:Hp} {x:D} {v:V} (ix:Is K A H x v):decide (v=V.non)=vy x:=by
 cases x with
 |non=>cases ix;rfl
 |bl b=>cases ix;rfl
 |int i=>cases ix;rfl
 |str s=>cases ix;rfl
 |tup ds=>obtain⟨a,xs,rfl,_⟩:=ix;rfl
 |lst ds=>obtain⟨a,xs,rfl,_⟩:=ix;rfl
 |dic ds=>obtain⟨a,rfl,_⟩:=ix;rfl
 |fz ds=>obtain⟨a,rfl,_⟩:=ix;rfl
 |exc ds=>obtain⟨a,rfl,_⟩:=ix;rfl
def isN(x y:D):OD:=if vy y then some (.bl (vy x))else none
def qoA(x y:D):OD:=if vy y then some (.bl (!vy x))else none
theorem qaf:OpS K isN (λx y H Q=>y=.non/\Q (.bl (decide (x=.non))) H):=by
 intro A H x y d v u Q hn ix iy e k
 obtain⟨e1,e2⟩:=jI e
 subst e2
 have h:=qcq iy
 rw[e1]at h
 refine⟨of_decide_eq_true h,?_⟩
 rw[qcq ix]
 exact k _ H (yA.refl H) rfl
theorem qed:OpS K qoA (λx y H Q=>y=.non/\Q (.bl (!decide (x=.non))) H):=by
 intro A H x y d v u Q hn ix iy e k
 obtain⟨e1,e2⟩:=jI e
 subst e2
 have h:=qcq iy
 rw[e1]at h
 refine⟨of_decide_eq_true h,?_⟩
 rw[qcq ix]
 exact k _ H (yA.refl H) rfl
def ixD:D->D->OD
 |.tup ds,.int i=>atI ds i
 |.lst ds,.int i=>atI ds i
 |.fz ns,.int i=>(atI ns i).map D.int
 |_,_=>none
theorem IsL.atI {A:Addr->Prop} {H:Hp} {ds:List D} {xs:List V} {i:Int} {d:D} (h:IsL K A H ds xs) (e:L2.atI ds i=some d):∃v,L2.atI xs i=some v/\Is K A H d v:=by
 unfold L2.atI at e |-
 rw[h.length]
 cases e1:ixN ds.length i with
 |none=>rw[e1]at e;cases e
 |some j=>
  rw[e1]at e
  exact h.get e
theorem qu:OpS K ixD (λx y H Q=>qsD K x y H Q\/qsE K x y H Q):=by
 intro A H x y d v u Q hn ix iy e k
 cases x<;>cases y<;>simp only[ixD]at e<;>try (cases e;done)
 ·rename_i ds i
  cases iy
  obtain⟨a,xs,rfl,ta,il⟩:=ix
  obtain⟨w,h1,h2⟩:=il.atI e
  exact .inr ⟨a,xs,i,w,rfl,rfl,ta.sq,h1,k w H (yA.refl H) h2⟩
 ·rename_i ds i
  cases iy
  obtain⟨a,xs,rfl,_,ta,il⟩:=ix
  obtain⟨w,h1,h2⟩:=il.atI e
  exact .inl ⟨a,xs,i,w,rfl,rfl,.inl (.inl ta),h1,k w H (yA.refl H) h2⟩
 ·rename_i ns i
  cases iy
  obtain⟨a,rfl,ta⟩:=ix
  cases e1:L2.atI ns i with
  |none=>rw[e1]at e;cases e
  | some m=>
   rw[e1]at e
   cases e
   have h1:L2.atI (ns.map V.int) i=some (V.int m):=by
    unfold L2.atI at e1 |-
    rw[lM_]
    cases e2:ixN ns.length i with
    |none=>rw[e2]at e1;cases e1
    |some j=>
     rw[e2]at e1
     have e3:ns[j]? = some m:=e1
     show(ns.map V.int)[j]? = some (V.int m)
     rw[gM_,e3];rfl
   exact .inl ⟨a,_,i,.int m,rfl,rfl,ta.sq,h1,k _ H (yA.refl H) rfl⟩
theorem IsL.inv1 {A:Addr->Prop} {H:Hp} {d:D} {vs:List V} (h:IsL K A H [d] vs):∃v,vs=[v]/\Is K A H d v:=by
 obtain⟨x,ys,e1,e2,e3⟩:=h
 have e3':ys=[]:=e3
 exact⟨x,by rw[e1,e3'],e2⟩
theorem IsL.inv2 {A:Addr->Prop} {H:Hp} {d d':D} {vs:List V} (h:IsL K A H [d,d'] vs):∃v w,vs=[v,w]/\Is K A H d v/\Is K A H d' w:=by
 obtain⟨x,ys,e1,e2,e3⟩:=h
 obtain⟨w,e4,e5⟩:=IsL.inv1 e3
 exact⟨x,w,by rw[e1,e4],e2,e5⟩
def qt6:List D->OD
 | [.int i]=>some (.int (if i<0 then -i else i))
 |_=>none
def qoB:List D->OD
 | [.int i,.int j]=>some (.int (if j>i then j else i))
 |_=>none
def qfm:List D->OD
 | [.int i,.int j]=>some (.int (if j<i then j else i))
 |_=>none
theorem qjt:qa5 K qoB (λxs H Q=>∃i j,xs=[.int i,.int j]/\Q (.int (if j>i then j else i)) H):=by
 intro A H xs d vs Q hn h e k
 unfold qoB at e
 split at e
 ·rename_i i j
  obtain⟨v,w,rfl,e2,e3⟩:=IsL.inv2 h
  cases e2;cases e3;cases e
  exact⟨i,j,rfl,k _ H (yA.refl H) rfl⟩
 ·cases e
theorem qfn:qa5 K qfm (λxs H Q=>∃i j,xs=[.int i,.int j]/\Q (.int (if j<i then j else i)) H):=by
 intro A H xs d vs Q hn h e k
 unfold qfm at e
 split at e
 ·rename_i i j
  obtain⟨v,w,rfl,e2,e3⟩:=IsL.inv2 h
  cases e2;cases e3;cases e
  exact⟨i,j,rfl,k _ H (yA.refl H) rfl⟩
 ·cases e
def qcL:List D->OD
 | [.int i,.int j]=>if qik i j then some (.tup [.int (i/j),.int (i%j)])else none
 |_=>none
theorem qfo:qa5 K qcL (λxs H Q=>∃i j,xs=[.int i,.int j]/\qqo i j/\∀p,H p=none->Q (.ref p) (upd H p (.tup [.int (i/j),.int (i%j)]))):=by
 intro A H xs d vs Q hn h e k
 unfold qcL at e
 split at e
 ·rename_i i j
  obtain⟨v,w,rfl,e2,e3⟩:=IsL.inv2 h
  cases e2;cases e3
  obtain⟨e6,e7⟩:=jI e
  subst e7
  exact⟨i,j,rfl,qhk e6,λp hp=>k _ _ (qC hp _) ⟨p,_,rfl,.inl qz,_,_,rfl,rfl,_,_,rfl,rfl,rfl⟩⟩
 ·cases e
def qbI:List D->OD
 | [.tup ds]=>some (.int ds.length)
 | [.lst ds]=>some (.int ds.length)
 | [.fz ns]=>some (.int ns.length)
 | [.str x]=>if qY x.length then some (.int x.length)else none
 |_=>none
def qtm(K:Fr0):List V->Hp->VK->Prop:=λxs H Q=>(∃p ys,xs=[.ref p]/\(SqL K H p ys\/SqT K H p ys)/\Q (.int ys.length) H)\/(∃z,xs=[.str z]/\z.length<=yav/\Q (.int z.length) H)
theorem jp{X:Cx}:uS X (.builtin "len") (qtm X.K):=uS.or qff qfg
theorem jq:qa5 K qbI (qtm K):=by
 intro A H xs d vs Q hn h e k
 unfold qbI at e
 split at e
 ·obtain⟨v,rfl,a,zs,rfl,ta,il⟩:=IsL.inv1 h
  cases e
  exact .inl ⟨a,zs,rfl,.inr ta.sq,by rw[il.length];exact k _ H (yA.refl H) rfl⟩
 ·obtain⟨v,rfl,a,zs,rfl,_,ta,il⟩:=IsL.inv1 h
  cases e
  exact .inl ⟨a,zs,rfl,.inl (.inl (.inl ta)),by rw[il.length];exact k _ H (yA.refl H) rfl⟩
 ·obtain⟨v,rfl,a,rfl,ta⟩:=IsL.inv1 h
  cases e
  exact .inl ⟨a,_,rfl,.inl ta.sq,by rw[lM_];exact k _ H (yA.refl H) rfl⟩
 ·rename_i z
  obtain⟨v,rfl,e2⟩:=IsL.inv1 h
  cases e2
  obtain⟨e4,e5⟩:=jI e
  subst e5
  exact .inr ⟨z,rfl,of_decide_eq_true e4,k _ H (yA.refl H) rfl⟩
 ·cases e
def qfp:List D->OD
 | [.tup ds]=>some (.tup ds)
 | [.lst ds]=>some (.tup ds)
 |_=>none
theorem qgx:qa5 K qfp (λxs H Q=>∃p ys,xs=[.ref p]/\((SqL K H p ys/\∀l,H l=none->Q (.ref l) (upd H l (.tup ys)))\/(SqT K H p ys/\Q (.ref p) H))):=by
 intro A H xs d vs Q hn h e k
 unfold qfp at e
 split at e
 ·obtain⟨v,rfl,a,zs,rfl,ta,il⟩:=IsL.inv1 h
  cases e
  exact⟨a,zs,rfl,.inr ⟨ta.sq,k _ H (yA.refl H) ⟨a,zs,rfl,ta,il⟩⟩⟩
 ·obtain⟨v,rfl,a,zs,rfl,_,ta,il⟩:=IsL.inv1 h
  cases e
  exact⟨a,zs,rfl,.inl ⟨.inl (.inl ta),λl hl=>k _ _ (qC hl _) ⟨l,zs,rfl,.inl qz,IsL.ext (Ext.of_same (qC hl _)) (λ_ h _=>h) il⟩⟩⟩
 ·cases e
end
end L2.Sk
namespace L2.Sk
open PySem PySem.Spec PySem.Calls PyProof.Rows PySem.W
def qnu(h:Heap)(a D:Addr):Prop:=∃o,h.get? a=some o/\o.cls=.ref D
theorem qnu.looks {M:Model} {h:Heap} {a D:Addr} (I:qnu h a D):Looks M h (typeOf (.ref a)) (.ref D):=by
 obtain⟨o,h1,h2⟩:=I
 rw[<-h2]
 exact(Looks.ld h1).andThen .now
section
variable{prog:yar}{w:World}{A:yau}{E:Value->yab->Prop}{K:Frag}{h:Heap}{g:Array yfI}{d:Drawn}{t:Nat}{os:OsState}{a D:Addr}
theorem qqO (hm:mroIn K D (.type "object")=some true) {tp:Value} {R:ydU->yab->Prop} (X:K.In h) (I:qnu h a D) (hq:R (.ok (.ret (.ref D))) ⟨h,g,d,t,os⟩) :
  ybI (model prog w) A (.call (.builtin "getset_descriptor.__get__") ⟨[.builtin "object.__class__",.ref a,tp],[]⟩) R ⟨h,g,d,t,os⟩:=by
 have L0:=I.looks (M:=model prog w)
 have L1:=looks_mroIn (M:=model prog w) X hm
 have hT5:(⟨h,g,d,t,os⟩:yab).TypeIs (.builtin "object.__class__") "getset_descriptor":=ydN
 refine ycW F.slot_gs_get.plain F.entry_gs_get (F.slot_gs_get.check _ _ _ _ _ _ _ _ hT5 (F.args_gs_get _ _ _) ?_)
 have eo:".".intercalate ("object.__class__".cutAt '.').dropLast="object":=by decide +kernel
 repeat (any_goals (first|assumption|with_reducible refine L0.at ?_|with_reducible refine L1.at ?_|wp_step))
 rw[eo]
 refine L1.at ?_
 repeat (any_goals (first|assumption|with_reducible refine L0.at ?_|wp_step))
 refine⟨yge _ (by decide +kernel),yaI F.entry_object_class ?_⟩
 repeat (any_goals (first|assumption|with_reducible refine L0.at ?_|wp_step))
theorem qlC (ha:findIn K (.ref D) "__class__"=some (some (.builtin "object.__class__"))) (hm:mroIn K D (.type "object")=some true) {tk:Tok} {Q:Fin->yab->Prop} (X:K.In h) (I:qnu h a D) (hq:Q (.done (.ret (.ref D))) ⟨h,g,d,t,os⟩) :
  wpAny (model prog w) A (yaX.«object.__getattribute__» ⟨[.ref a,.str "__class__" tk],[]⟩) Q E ⟨h,g,d,t,os⟩:=by
 have L0:=I.looks (M:=model prog w)
 have L1:=looks_findIn (M:=model prog w) X ha
 have hT5:(⟨h,g,d,t,os⟩:yab).TypeIs (.builtin "object.__class__") "getset_descriptor":=ydN
 have f5:=ydN
 have f6:=F.slot_gs_get.lookup
 have f7:=F.slot_gs_set.lookup
 repeat (any_goals (first|assumption|with_reducible refine L0.at ?_|with_reducible refine L1.at ?_|wp_step))
 refine qqO hm X I ?_
 repeat (any_goals (first|assumption|wp_step))
theorem qlD (hb:Looks (model prog w) h (ygf (.ref D) (.type "BaseException")) true) {nameV:Value} {Q:Unit->yab->Prop} (I:qnu h a D) (hq:Q () ⟨h,g,d,t,os⟩):wpAny (model prog w) A (ydG "BaseException.__getattribute__" ⟨[.ref a,nameV],[]⟩) Q E ⟨h,g,d,t,os⟩:=by
 have hk:builtinKind "BaseException.__getattribute__"=some .slot:=by decide +kernel
 have hsplit:splitId "BaseException.__getattribute__"=some ("BaseException","__getattribute__"):=by decide +kernel
 have L0:=I.looks (M:=model prog w)
 have ha:=F.args_bexc_ga (.ref a) nameV
 simp only[ydG,hk,hsplit]
 refine yaa ?_
 ·unfold isInstance
  repeat (first|with_reducible refine L0.at ?_|with_reducible refine hb.at ?_|wp_step)
  exact hq
theorem qsI (FA:ExcAttrFacts "ValueError") (hga:findIn K (.ref D) "__getattribute__"=some (some (.builtin "BaseException.__getattribute__"))) (hgt:findIn K (.ref D) "__getattr__"=some none) (ha:findIn K (.ref D) "__class__"=some (some (.builtin "object.__class__"))) (hm:mroIn K D (.type "object")=some true)
  (hb:Looks (model prog w) h (ygf (.ref D) (.type "BaseException")) true) {tk:Tok} {fill expr:Bool} {Q:Value->yab->Prop} (X:K.In h) (I:qnu h a D) (hq:Q (.ref D) ⟨h,g,d,t,os⟩) :
  wpAny (model prog w) A (getAttrBy (.ref a) (.str "__class__" tk) fill expr) Q E ⟨h,g,d,t,os⟩:=by
 have L0:=I.looks (M:=model prog w)
 have L1:=looks_findIn (M:=model prog w) X hga
 have L2:=looks_findIn (M:=model prog w) X hgt
 have f3:=FA.ga.bind (.ref a)
 have hx0:(expr&&onTheHeap (ydB "BaseException.__getattribute__"))=false:=by cases expr<;>rfl
 have hx2:(ydB "BaseException.__getattribute__"==ydB "object.__getattribute__")=false:=by decide +kernel
 have hx1:(onTheHeap (yat D)&&ydB "BaseException.__getattribute__"==ydB "object.__getattribute__")=false:=by rw[hx2];rfl
 repeat (any_goals (first|assumption|with_reducible refine L0.at ?_|with_reducible refine L1.at ?_|with_reducible refine L2.at ?_|wp_step))
 refine ycW FA.ga.plain F.entry_bexc_ga (qlD hb I (qlC ha hm X I ?_))
 repeat (any_goals (first|assumption|wp_step))
theorem qoC (FA:ExcAttrFacts "ValueError") (hga:findIn K (.ref D) "__getattribute__"=some (some (.builtin "BaseException.__getattribute__"))) (hgt:findIn K (.ref D) "__getattr__"=some none) (ha:findIn K (.ref D) "__class__"=some (some (.builtin "object.__class__"))) (hm:mroIn K D (.type "object")=some true)
  (hb:Looks (model prog w) h (ygf (.ref D) (.type "BaseException")) true) {Q:Option Value->yab->Prop} (X:K.In h) (I:qnu h a D) (hq:Q (some (.ref D)) ⟨h,g,d,t+1,os⟩) :
  wpAny (model prog w) A (getAttr? (.ref a) "__class__") Q E ⟨h,g,d,t,os⟩:=by
 unfold getAttr? getAttrBy?
 repeat (any_goals (first|assumption|with_reducible apply qsI FA hga hgt ha hm hb X I|wp_step))
end
theorem qlE {K:Frag} {a D:Addr} (c:XK6 K D):KitX K (.ref a) (.ref D) (λh=>qnu h a D) where
 ty:=λ_ _ _ I=>I.looks
 it := λ_ _ X _=>by
  obtain⟨cdD,hcD⟩:=Option.isSome_iff_exists.mp c.is
  unfold clsIn at hcD
  split at hcD
  ·rename_i c' d' cd' sl' ho
   intro A' Q' E' s' k q
   unfold isType loadHead
   exact yaa (wpAny_loadPart (k _ _ (X _ _ ho)) (yac q))
  ·cases hcD
 ne := λh tp dd its n sl X htp=>by
  obtain⟨cdD,hcD⟩:=Option.isSome_iff_exists.mp c.is
  refine Bool.eq_false_iff.mpr λq=>?_
  have e:D=tp:=Value.ref.inj (beq_iff_eq.mp q)
  subst e
  unfold clsIn at hcD
  split at hcD
  ·rename_i c' d' cd' sl' ho
   have z:=(X _ _ ho).symm.trans htp
   cases z
  ·cases hcD
 ca:=λ{prog w A E Q s} X p k=>by
  have I:=p
  obtain⟨h,g,d,t,os⟩:=s
  exact qoC PySem.F.attrBase_ValueError.toExcAttrFacts c.ga c.gt c.cl c.ob (looks_subIn X c.be) X I k
theorem qil {X:Cx} {pins:List (Addr×Obj)} {σ:St} {H:Hp} {s:yab} {A:yau} {E:Value->yab->Prop} {Q:Value->yab->Prop} {a C:Addr} {c:Value} {b:Bool} (I:Inv X pins σ H s) (xc:XK6 X.K C) (hH:∃o vs,H a=some (.frz o (.own a))/\o.cls=.ref C/\o.data=.fields vs)
  (e:kitOne X.K (.ref C) c=some b) (h:∀tk,Q (.bool b) {s with toks:=tk}):wpAny (model X.prog X.w) A (call (.builtin "isinstance") [.ref a,c]) Q E s:=by
 obtain⟨o,vs,h1,h2,_⟩:=hH
 obtain⟨p,_⟩:=(show u7 X.prog X.w H s.heap a (.frz o (.own a))from I.hok a _ h1)
 exact kia_one (qlE xc) I.kIn ⟨o,p,h2⟩ e (λz=>nomatch z) h
end L2.Sk
namespace L2.Sk
open PySem PySem.Spec PyProof.Rows
def tyD:D->String
 |.non=>"NoneType"
 |.bl _=>"bool"
 |.int _=>"int"
 |.str _=>"str"
 |.tup _=>"tuple"
 |.lst _=>"list"
 |.dic _=>"dict"
 |.fz _=>"list"
 |.exc _=>"exc"
def qgy(t T:String):Bool:=t==T||(t=="bool"&&T=="int")
def qim:List String:=["NoneType","bool","int","str","tuple","list","dict"]
theorem qoD (d:D) (h:∀C,d ≠ .exc C):tyD d∈qim:=by
 cases d<;>first|(simp[tyD,qim];done)|exact absurd rfl (h _)
structure qpW (K:Fr0) (T:String):Prop where
 ok:∀t∈qim,yfx K (.type t) (.type T)=some (qgy t T)
 ex:T∈["int","bool","str","tuple","list","dict"]
 nx:qgy "exc" T=false
theorem qoE {K:Fr0}:qpW K "int":=⟨λt ht=>by
 simp only[qim,yaD,nN_,or_false]at ht
 rcases ht with rfl|rfl|rfl|rfl|rfl|rfl|rfl<;>kernel_rfl,by decide,by decide⟩
theorem qlF {K:Fr0}:qpW K "bool":=⟨λt ht=>by
 simp only[qim,yaD,nN_,or_false]at ht
 rcases ht with rfl|rfl|rfl|rfl|rfl|rfl|rfl<;>kernel_rfl,by decide,by decide⟩
theorem qcM {K:Fr0}:qpW K "tuple":=⟨λt ht=>by
 simp only[qim,yaD,nN_,or_false]at ht
 rcases ht with rfl|rfl|rfl|rfl|rfl|rfl|rfl<;>kernel_rfl,by decide,by decide⟩
section
variable{X:Cx}{pins:List (Addr×Obj)}{σ:St}{H:Hp}{s:yab}{A:Addr->Prop}{E:Value->yab->Prop}{Q:Value->yab->Prop}
theorem qqP {d:D} {v:V} {u:Value} {T:String} (I:Inv X pins σ H s) (h:Is X.K A H d v) (rv:uk v u) (kt:qpW X.K T) (hQ:∀tk,Q (.bool (qgy (tyD d) T)) {s with toks:=tk}) :
  wpAny (model X.prog X.w) X.A (call (.builtin "isinstance") [u,.type T]) Q E s:=by
 by_cases hx:∃C,d=.exc C
 ·obtain ⟨C,rfl⟩:=hx
  obtain⟨a,rfl,xa⟩:=h
  cases (show u=yat a from rv)
  have q:∀tk,Q (.bool false) {s with toks:=tk}:=λtk=>by
   have:=hQ tk
   rw[show tyD (.exc C)="exc" from rfl,kt.nx]at this
   exact this
  obtain⟨D0,h0,h1,h2⟩:=xa
  exact qil I h1 h2 (h1.no T kt.ex) q
 have e:=kt.ok (tyD d) (qoD d λC hC=>hx ⟨C,hC⟩)
 cases d with
 |exc C=>exact absurd ⟨C,rfl⟩ hx
 |non=>cases h;exact vY I rv .non e hQ
 |bl b=>cases h;exact vY I rv (.bl b) e hQ
 |int i=>cases h;exact vY I rv (.int i) e hQ
 |str x=>cases h;exact vY I rv (.str x) e hQ
 |tup ds=>
  obtain⟨a,xs,rfl,ta,il⟩:=h
  cases (show u=yat a from rv)
  obtain⟨its,r,p,z⟩:=I.tuple ta.sq
  obtain⟨o,h1,h2,_⟩:=p
  exact ya8 yf5 I.kIn ⟨o,h1,h2⟩ e (λz=>nomatch z) hQ
 |lst ds=>
  obtain⟨a,xs,rfl,hA,ta,il⟩:=h
  exact vY I rv (.lst ta) e hQ
 |dic kvs=>
  obtain⟨a,rfl,hA,ta⟩:=h
  exact vY I rv (.dK ta) e hQ
 |fz ns=>
  obtain⟨a,rfl,ta⟩:=h
  cases (show u=yat a from rv)
  obtain⟨its,r,p,z⟩:=I.list ta.sq
  obtain⟨o,h1,h2,_⟩:=p.isList
  exact ya8 yeD I.kIn ⟨o,h1,h2⟩ e (λz=>nomatch z) hQ
end
def qnv(T:String)(f:M D):M D:=bnd f λd=>ret (.bl (qgy (tyD d) T))
section
variable{X:Cx}{c:Fc}{a b e:Expr}{pos:Pos}
def qtR(K:Fr0)(T:String):List V->Hp->VK->Prop:=λxs H Q=>∃v d A,xs=[v,.ty T]/\Is K A H d v/\Q (.bl (qgy (tyD d) T)) H
theorem qlG {T:String} (kt:qpW X.K T):uS X (.builtin "isinstance") (qtR X.K T):=by
 intro pins s σ H xs us Q I r h
 obtain⟨v,d,A,rfl,hi,q⟩:=h
 obtain⟨u,w,rfl,r1,r2⟩:=zT.two r
 cases (show w=ycB T from r2)
 exact qqP I hi r1 kt λtk=>⟨.bl _,H,I.tok tk,rfl,q⟩
theorem qfq {T:String} {x:Str} {p p2:Pos} {f:M D} (kt:qpW X.K T) (hg:Gl X "isinstance") (hm:X.mg "isinstance"=none) (hg2:Gl X x) (hm2:X.mg x=none) (hv2:yaF x=some (.type T)) (ha:DE X c a f)
  (hv:yaF "isinstance"=some (.builtin "isinstance"):=by first|rfl|exact PySem.boot_isinstance) (hn2:x≠"__name__":=by decide) (hdb2:(x==("__debug__":Str))=false:=by decide)
  (he:yam [a,.Name x p2] X.env=(false,eval a X.env)::yam [.Name x p2] X.env:=by rfl) (hpl:(ybb pos (yam [.Name x p2] X.env)).any (·.1)=false:=by rfl):DE X c (.Call (.Name "isinstance" p) [a,.Name x p2] [] pos) (qnv T f):=by
 obtain⟨t,pa,w⟩:=ha
 refine⟨_,qhh (qlG kt) hg hm hv (wy pa (wy (qob (v:=.ty T) hg2 hm2 hv2 rfl hn2 hdb2) qdH (by rfl)) he) (by decide) (by decide) he hpl,λρ σ H Q r h=>w ρ σ H _ r (Wp.bnd h λd ρ1 v H1 r1 i1 g1 h1=>?_)⟩
 exact⟨v,d,_,rfl,i1,h1 _ H1 r1 rfl .refl⟩
end
def vz:List D->Option (List Bool)
 | []=>some []
 |.bl b::r=>(vz r).map (b::·)
 |_=>none
def vt:List D->Option (List Int)
 | []=>some []
 |.int i::r=>(vt r).map (i::·)
 |_=>none
theorem qa6 {K:Fr0} {A:Addr->Prop} {H:Hp}:∀{ds:List D}{xs:List V}{bs:List Bool},IsL K A H ds xs->vz ds=some bs->xs=bs.map V.bl
 | [],_,_,h,e=>by cases e;exact h
 | .bl b::r,_,bs,⟨x,ys,hx,h1,h2⟩,e=>by
  cases h1
  cases e1:vz r with
  |none=>simp[vz,e1]at e
  |some l=>
   simp[vz,e1]at e
   subst e
   rw[hx,qa6 h2 e1];rfl
 |.non::_,_,_,_,e=>by cases e
 |.int _::_,_,_,_,e=>by cases e
 |.str _::_,_,_,_,e=>by cases e
 |.tup _::_,_,_,_,e=>by cases e
 |.lst _::_,_,_,_,e=>by cases e
 |.dic _::_,_,_,_,e=>by cases e
 |.fz _::_,_,_,_,e=>by cases e
 |.exc _::_,_,_,_,e=>by cases e
theorem yg {K:Fr0} {A:Addr->Prop} {H:Hp}:∀{ds:List D}{xs:List V}{bs:List Int},IsL K A H ds xs->vt ds=some bs->xs=bs.map V.int
 | [],_,_,h,e=>by cases e;exact h
 | .int b::r,_,bs,⟨x,ys,hx,h1,h2⟩,e=>by
  cases h1
  cases e1:vt r with
  |none=>simp[vt,e1]at e
  |some l=>
   simp[vt,e1]at e
   subst e
   rw[hx,yg h2 e1];rfl
 |.non::_,_,_,_,e=>by cases e
 |.bl _::_,_,_,_,e=>by cases e
 |.str _::_,_,_,_,e=>by cases e
 |.tup _::_,_,_,_,e=>by cases e
 |.lst _::_,_,_,_,e=>by cases e
 |.dic _::_,_,_,_,e=>by cases e
 |.fz _::_,_,_,_,e=>by cases e
 |.exc _::_,_,_,_,e=>by cases e
theorem qhl {bs:List Bool}:∀{us:List Value},zT (bs.map V.bl) us->LSm.BoolsAre us bs:=by
 induction bs with
 |nil=>intro us r;rw[ycO]at r;cases r;exact .nil
 | cons b bs ih=>
  intro us r
  rw[mC_]at r
  cases r with
  |cons r1 r2=>
   cases (show _=ydf b from r1)
   exact .cons b (ih r2)
section
variable{X:Cx}
theorem qee (hc:X.calm=true):uS X (.builtin "all") (λxs H Q=>∃(p:Addr)(bs:List Bool),xs=[.ref p]/\H p=some (.lst (bs.map V.bl))/\Q (.bl (bs.all id)) H):=by
 intro pins s σ H xs us Q I r h
 obtain⟨p,bs,rfl,hp,q⟩:=h
 obtain⟨u,rfl,ru⟩:=zT.one r
 cases ru
 obtain⟨its,rv,pl,hz⟩:=I.list (SqL.of hp)
 have hl:=pl.isList
 have hb:=qhl rv
 have hlt:p<s.heap.objs.size:=by obtain⟨_,e,_⟩:=hl;exact yae e
 refine call_all_walk (ya4 hl ?_)
 refine ⟨s.heap.objs.size,[s.heap.objs.size,p],[s.heap.objs.size],its.toArray.size,_,_,λi=>(bs[i]?).getD true,rfl,ydk (A:=X.A.in1) (I.ok.hd hc) _ p (yao hlt) its.toArray,
  ⟨⟨_,Heap.get?_push_size _ rfl,rfl,rfl⟩,hl.push _⟩,λi v s' Q' E' hP hQ=>?_,λh' tk hk=>?_⟩
 ·obtain⟨b,e,rfl⟩:=hb.get i v (by simpa using hP)
  simp only[e,yeT]at hQ
  exact yaU hQ
 ·have e:((yag its.toArray.size).all λi=>(bs[i]?).getD true)=bs.all id:=by
   rw[sT_,hb.length];exact LSm.range_all bs
  rw[e]
  exact⟨.bl _,H,I.kept (LSm.kept_iter hk),rfl,q⟩
theorem qlH (hc:X.calm=true):uS X (.builtin "any") (λxs H Q=>∃(p:Addr)(bs:List Bool),xs=[.ref p]/\H p=some (.lst (bs.map V.bl))/\Q (.bl (bs.any id)) H):=by
 intro pins s σ H xs us Q I r h
 obtain⟨p,bs,rfl,hp,q⟩:=h
 obtain⟨u,rfl,ru⟩:=zT.one r
 cases ru
 obtain⟨its,rv,pl,hz⟩:=I.list (SqL.of hp)
 have hl:=pl.isList
 have hb:=qhl rv
 have hlt:p<s.heap.objs.size:=by obtain⟨_,e,_⟩:=hl;exact yae e
 refine call_any_walk (ya4 hl ?_)
 refine ⟨s.heap.objs.size,[s.heap.objs.size,p],[s.heap.objs.size],its.toArray.size,_,_,λi=>(bs[i]?).getD false,rfl,ydk (A:=X.A.in1) (I.ok.hd hc) _ p (yao hlt) its.toArray,
  ⟨⟨_,Heap.get?_push_size _ rfl,rfl,rfl⟩,hl.push _⟩,λi v s' Q' E' hP hQ=>?_,λh' tk hk=>?_⟩
 ·obtain⟨b,e,rfl⟩:=hb.get i v (by simpa using hP)
  simp only[e,yeT]at hQ
  exact yaU hQ
 ·have e:((yag its.toArray.size).any λi=>(bs[i]?).getD false)=bs.any id:=by
   rw[sT_,hb.length];exact LSm.range_any bs
  rw[e]
  exact⟨.bl _,H,I.kept (LSm.kept_iter hk),rfl,q⟩
theorem qhm (hc:X.calm=true):uS X (.builtin "sum") (λxs H Q=>∃(p:Addr)(ns:List Int),xs=[.ref p]/\H p=some (.lst (ns.map V.int))/\Q (.int ns.sum) H):=by
 intro pins s σ H xs us Q I r h
 obtain⟨p,ns,rfl,hp,q⟩:=h
 obtain⟨u,rfl,ru⟩:=zT.one r
 cases ru
 obtain⟨its,rv,pl,hz⟩:=I.list (SqL.of hp)
 have hl:=pl.isList
 have hi:ybJ its ns:=yV rv
 obtain⟨zs,hx⟩:=hi.allInts.items
 have hl':s.heap.IsList p (ybV zs):=hx▸hl
 refine sum_intListG (I.ok.hd hc) hl' λh' tk t' hk=>?_
 have e1:ns=zs.toList.map (·.1):=by
  rw[<-ydC,<-hx]
  exact(show numsOf its.toArray.toList=ns from hi.numsOf).symm
 have e2:preSum (numAt zs) zs.size=ns.sum:=by
  rw[preSum_eq,List.take_of_length_le (by simp),e1]
 rw[e2]
 exact⟨.int _,H,I.kept hk,⟨_,rfl⟩,q⟩
end
def qi0:List D->OD
 | [.lst ds]=>(vz ds).map λbs => .bl (bs.all id)
 |_=>none
def qnw:List D->OD
 | [.lst ds]=>(vz ds).map λbs => .bl (bs.any id)
 |_=>none
def qpX:List D->OD
 | [.lst ds]=>(vt ds).map λbs => .int bs.sum
 |_=>none
section
variable{K:Fr0}
theorem qcN:qa5 K qi0 (λxs H Q=>∃(p:Addr)(bs:List Bool),xs=[.ref p]/\H p=some (.lst (bs.map V.bl))/\Q (.bl (bs.all id)) H):=by
 intro A H xs d vs Q hn h e k
 unfold qi0 at e
 split at e
 ·obtain⟨v,rfl,a,zs,rfl,_,ta,il⟩:=IsL.inv1 h
  obtain⟨bs,h1,h2⟩:=Option.map_eq_some_iff.mp e
  subst h2
  rw[qa6 il h1]at ta
  exact⟨a,bs,rfl,ta,k _ H (yA.refl H) rfl⟩
 ·cases e
theorem qju:qa5 K qnw (λxs H Q=>∃(p:Addr)(bs:List Bool),xs=[.ref p]/\H p=some (.lst (bs.map V.bl))/\Q (.bl (bs.any id)) H):=by
 intro A H xs d vs Q hn h e k
 unfold qnw at e
 split at e
 ·obtain⟨v,rfl,a,zs,rfl,_,ta,il⟩:=IsL.inv1 h
  obtain⟨bs,h1,h2⟩:=Option.map_eq_some_iff.mp e
  subst h2
  rw[qa6 il h1]at ta
  exact⟨a,bs,rfl,ta,k _ H (yA.refl H) rfl⟩
 ·cases e
theorem qfr:qa5 K qpX (λxs H Q=>∃(p:Addr)(ns:List Int),xs=[.ref p]/\H p=some (.lst (ns.map V.int))/\Q (.int ns.sum) H):=by
 intro A H xs d vs Q hn h e k
 unfold qpX at e
 split at e
 ·obtain⟨v,rfl,a,zs,rfl,_,ta,il⟩:=IsL.inv1 h
  obtain⟨bs,h1,h2⟩:=Option.map_eq_some_iff.mp e
  subst h2
  rw[yg il h1]at ta
  exact⟨a,bs,rfl,ta,k _ H (yA.refl H) rfl⟩
 ·cases e
end
section
variable{X:Cx}
def qnx(K:Fr0):R2:=λx y H Q=>∃a b ys,x=.ref a/\y=.ref b/\SqT K H a []/\SqT K H b ys/\Q (.ref b) H
theorem qlI:OpR X (ybx .Add) (qnx X.K):=by
 intro pins s σ H x y v u Q I rx ry h
 obtain⟨a,b,ys,rfl,rfl,ha,hb,q⟩:=h
 cases rx
 cases ry
 obtain⟨its,r1,p1,_⟩:=I.tuple ha
 obtain⟨its2,r2,p2,_⟩:=I.tuple hb
 cases r1
 obtain⟨⟨cls,dd,data,sl⟩,ho,hc,n,hd⟩:=id p1
 obtain⟨⟨cls2,dd2,data2,sl2⟩,ho2,hc2,n2,hd2⟩:=id p2
 simp only at hc hd hc2 hd2
 subst hc hd hc2 hd2
 exact yga ⟨_,ho,rfl⟩ ⟨_,ho2,rfl⟩ yeS yfT ydu ydm (yc8 _ _)
   (tuple_addW0 a b [].toArray its2.toArray n n2 dd dd2 sl sl2 (by simp)) ⟨ho,ho2,⟨.ref b,H,I,rfl,q⟩⟩
def qqQ(K:Fr0):R2:=λx y H Q=>(∃i j,x=.int i/\y=.int j/\Q (.int (i+j)) H)\/((∃i j,x=.str i/\y=.str j/\i.length+j.length<=yav/\Q (.str (i++j)) H)\/(qnx K x y H Q\/(qqC K x y H Q\/qtj x y H Q)))
theorem qS:OpR X (ybx .Add) (qqQ X.K):=OpR.or qqq (OpR.or qie (OpR.or qlI (OpR.or qoq qqI)))
end
def jB:D->D->OD
 |.int i,.int j=>some (.int (i+j))
 |.str x,.str y=>if qY (x.length+y.length)then some (.str (x++y))else none
 |.tup xs,.tup ys=>if qY (xs.length+ys.length)then some (.tup (xs++ys))else none
 |.lst xs,.lst ys=>if qY (xs.length+ys.length)then some (.lst (xs++ys))else none
 |_,_=>none
theorem qT {K:Fr0}:OpS K jB (qqQ K):=by
 intro A H x y d v u Q hn ix iy e k
 cases x<;>cases y<;>simp only[jB]at e<;>try (cases e;done)
 ·rename_i i j
  cases ix;cases iy;cases e
  exact .inl ⟨i,j,rfl,rfl,k _ H (yA.refl H) rfl⟩
 ·rename_i i j
  cases ix;cases iy
  obtain⟨e1,e2⟩:=jI e
  subst e2
  exact .inr (.inl ⟨i,j,rfl,rfl,of_decide_eq_true e1,k _ H (yA.refl H) rfl⟩)
 ·rename_i ds es
  obtain⟨a,xs,rfl,ta,il⟩:=ix
  obtain⟨b,ys,rfl,tb,jl⟩:=iy
  obtain⟨e1,e2⟩:=jI e
  subst e2
  have hs:xs.length+ys.length<=yav:=by rw[il.length,jl.length];exact of_decide_eq_true e1
  refine .inr (.inr ?_)
  cases ds with
  |nil=>
   have hx:xs=[]:=il
   subst hx
   exact .inl ⟨a,b,ys,rfl,rfl,ta.sq,tb.sq,k _ H (yA.refl H) ⟨b,ys,rfl,tb,jl⟩⟩
  | cons d0 ds=>
   refine .inr (.inl ⟨a,b,xs,ys,rfl,rfl,ta.sq,tb.sq,?_,hs,λhy=>?_,λhy p hp=>?_⟩)
   ·obtain⟨x,zs,hx,_⟩:=il
    rw[hx];simp
   ·subst hy
    cases es with
    |nil=>rw[yaR]at k;exact k _ H (yA.refl H) ⟨a,xs,rfl,ta,il⟩
    |cons e0 es=>obtain⟨_,_,hx,_⟩:=jl;cases hx
   ·exact k _ _ (qC hp _) ⟨p,xs++ys,rfl,.inl qz,IsL.ext (Ext.of_same (qC hp _)) (λ_ h _=>h) (IsL.append il jl)⟩
 ·rename_i ds es
  obtain⟨a,xs,rfl,hA,ta,il⟩:=ix
  obtain⟨b,ys,rfl,hB,tb,jl⟩:=iy
  obtain⟨e1,e2⟩:=jI e
  subst e2
  have hs:xs.length+ys.length<=yav:=by rw[il.length,jl.length];exact of_decide_eq_true e1
  exact .inr (.inr (.inr (.inr ⟨a,b,xs,ys,rfl,rfl,ta,tb,hs,λp hp=>k _ _ (qC hp _) ⟨p,xs++ys,rfl,hn p hp,qz,IsL.ext (Ext.of_same (qC hp _)) (λ_ h _=>h) (IsL.append il jl)⟩⟩)))
section
variable{X:Cx}
def qtn(K:Fr0):V->Option Int->Option Int->Hp->VK->Prop:=λx lo hi H Q=>∃a xs,x=.ref a/\SqT K H a xs/\(HT.sIx xs.length 0 lo=0/\HT.sIx xs.length xs.length hi=xs.length)/\Q (.ref a) H
theorem qa7 {prog:yar} {w:World} {A:yau} {E:Value->yab->Prop} {s:yab} {t sl:Addr} {items:Array Value} {vl vu:Value} {lo hi:Option Int} {Q:Value->yab->Prop} (ht:IsTup s.heap t items) (hs:s.heap.IsSliceOf sl vl vu .none) (pl:ydY vl lo) (pu:ydY vu hi)
  (hw:HT.sIx items.size 0 lo=0/\HT.sIx items.size items.size hi=items.size) (h:Q (.ref t) s):wpAny (model prog w) A (yeP (.ref t) (.ref sl)) Q E s:=by
 obtain⟨os,hos,hcs,hds⟩:=id hs
 have hTs:s.TypeIs (.ref sl) "slice":=⟨os,hos,hcs⟩
 unfold yeP
 try with_reducible refine ya2 ?_
 first|refine yaa (yac ?_)|skip
 refine yaa (ygv ht.typeIs (by decide) ?_)
 refine yaa (wpAny_callSpecial?_slot (name:=ybd "__getitem__") ht.typeIs ybT
  (yaH ybT ht.typeIs yfX ?_ (ygb _ _)))
 show wpAny _ _ (yes (.ref t) >>= _) _ _ s
 refine yaa (tupleItemsOf_ ht ?_)
 refine yaa (ydZ hTs ?_)
 rw[if_pos (by decide)]
 refine yaa (HT.sliceApplied_gen hs pl pu ?_)
 have hyes:(((HT.sIx items.size 0 lo:Nat):Int)==0&&(1:Int)==1&&(HT.sIx items.size items.size hi-HT.sIx items.size 0 lo)==items.size)=true:=by
  rw[hw.1,hw.2];simp
 show wpAny _ _ (if(((HT.sIx items.size 0 lo:Nat):Int)==0&&(1:Int)==1&&(HT.sIx items.size items.size hi-HT.sIx items.size 0 lo)==items.size)=true then _ else _) _ _ s
 rw[if_pos hyes]
 refine yaa (m:=yeu (.ref t)) ?_
 unfold yeu
 refine yaa (ydZ ht.typeIs ?_)
 refine yac ?_
 rw[if_pos (by decide)]
 exact yaa (yca (yac ⟨_,rfl,yac h⟩))
theorem qlJ:SlR X (qtn X.K):=by
 intro pins s σ H x v vl vu lo hi sl Q I rx hs pl pu h
 obtain⟨a,xs,rfl,hx,hw,q⟩:=h
 cases rx
 obtain⟨its,r,ht,hz⟩:=I.tuple hx
 have hlen:its.toArray.size=xs.length:=by rw[sT_];exact r.length.symm
 refine⟨"tuple",_,PyProof.Rows.slot_tuple_getitem.lookup,ht.typeIs,?_⟩
 exact qa7 ht hs pl pu (by rw[hlen];exact hw) ⟨.ref a,H,I,rfl,q⟩
theorem qqR:SlR X (λx lo hi H Q=>qtn X.K x lo hi H Q\/qti X.K x lo hi H Q):=SlR.or qlJ qqB
end
def qlK(xs:List D)(lo hi:Option Int):List D:=(xs.drop (HT.sIx xs.length 0 lo)).take (HT.sIx xs.length xs.length hi-HT.sIx xs.length 0 lo)
section
variable{X:Cx}{c:Fc}{a b e:Expr}{pos p2:Pos}
def DO(X:Cx)(c:Fc)(e:Option Expr)(f:M (Option Int)):Prop:=∃t,PO X e t/\∀ρ σ H Q,Rep X.K c ρ σ H->(∀o ρ',f ρ=.ok (o,ρ')->∀H',Rep X.K c ρ' σ H'->Gr c.O σ H H'->Q o H')->(∀x ρ',f ρ=.exc x ρ'->∀H',Rep X.K c ρ' σ H'->Gr c.O σ H H'->c.E x H')->f ρ ≠ .bad->t σ H Q
theorem qoF:DO X c none (ret none):=⟨_,qoo,λρ σ H Q r h _ _=>h none ρ rfl H r .refl⟩
def asI:D->Option Int
 |.int i=>some i
 |_=>none
def qin (f:M D):M (Option Int):=bnd f λd=>match d with
 |.int i=>ret (some i)
 |_=>λ_ => .bad
theorem qoG {f:M D} (h:DE X c e f):DO X c (some e) (qin f):=by
 obtain⟨t,p,w⟩:=h
 refine⟨_,qop p,λρ σ H Q r h1 h2 h3=>w ρ σ H _ r ?_⟩
 unfold qin bnd at h1 h2 h3
 cases e1:f ρ with
 |ok q=>
  obtain⟨d,ρ'⟩:=q
  rw[e1]at h1 h2 h3
  intro v H' r' i' g'
  cases d<;>simp only[ret]at h1 h2 h3<;>try (exact absurd rfl h3)
  rename_i i
  exact⟨i,i',h1 (some i) ρ' rfl H' r' g'⟩
 |exc x ρ'=>rw[e1]at h2;exact λH' r' g'=>h2 x ρ' rfl H' r' g'
 |bad=>rw[e1]at h3;exact absurd rfl h3
end
def z6 (X:Cx) (scope:Scope) (N':List Str) (fp:List Addr) (cl:List (Str×Addr)) (C:Addr) (s₀:yab) (H₀:Hp) (pn:List (Addr×Obj)):Cx where
 prog:=X.prog
 w:=X.w
 K:=X.K
 mg:=X.mg
 base:=X.base
 A:=X.A
 N:=N'
 s₀:=s₀
 H₀:=H₀
 env:=yfL scope cl C X.env
 outer:=X.stack
 stack:=X.stack
 ex:=fp
 fn:=λ_=>false
 calm:=X.calm
 pn:=pn
 xe:=λ_ _=>False
def PF (X:Cx) (ifs:List Expr) (t:TT):Prop:=∀(pins:List (Addr×Obj))(s:yab)(σ:St)(H:Hp)(Q:Bool->Hp->Prop),Inv X pins σ H s->t σ H Q ->
 wpAny (model X.prog X.w) X.A (forIn ifs true λc r=>if r=true then do let ok <-isTrue c X.env (eval c X.env);pure (ybW ok)else pure (ybW r)) (TP X pins σ Q) X.xe s
theorem qqS{X:Cx}:PF X [] (λ_ H Q=>Q true H):=λpins s σ H Q I h=>wpAny_tests_nil ⟨H,I,h⟩
theorem qqT{X:Cx}{e:Expr}{t:TT}(h:PT X e t):PF X [e] t:=λpins s σ H Q I hw=>wpAny_tests_one (h pins s σ H Q I hw)
structure jZ (X:Cx) (scope:Scope) (N':List Str) (nt:Nat) (fr:List Nat):Prop where
 kind:scope.kind=.function
 nocell:∀y∈scope.names,y.2 ≠ .cell
 names:∀y∈scope.names,y.2=.local->scope.names.lookup y.1=some .local
 frees:∀y∈scope.names,y.2=.free->X.env.kindOf y.1=some .cell
 len:N'.length=nt+fr.length
 slot:∀i j,fr[i]? = some j->∃x,N'[nt+i]? = some x/\X.N[j]? = some x/\scope.names.lookup x=some .free
theorem qbJ {env:ydO}:∀(names:List (Str×ydE))(cs:List (Str×Addr)),(∀y∈names,y.2=.free->∃a,env.cells.lookup y.1=some a)->(∀n a,cs.lookup n=some a->env.cells.lookup n=some a) ->
  ∃ cl,(forIn names cs λx r=>match x with|(name,kind)=>if(kind==yba)=true then do let a <-cellOf env name;pure (ybW ((name,a)::r))else pure (ybW r):Sem (List (Str×Addr)))=pure cl /\
   (∀n a,cl.lookup n=some a->env.cells.lookup n=some a)/\(∀n,(∃a,cs.lookup n=some a)->∃a,cl.lookup n=some a)/\∀y∈names,y.2=.free->∃a,cl.lookup y.1=some a
 | [],cs,_,h=>⟨cs,rfl,h,λ_ h=>h,λy hy=>by cases hy⟩
 | (n,k)::r,cs,hf,h=>by
  have hr:∀y∈r,y.2=.free->∃a,env.cells.lookup y.1=some a:=λy hy=>hf y (mM _ hy)
  rw[yfe]
  by_cases hk:k=.free
  ·subst hk
   obtain⟨a,ha⟩:=hf (n,.free) mS_ rfl
   have ha':env.cells.lookup n=some a:=ha
   have hcell:cellOf env n=pure a:=by unfold cellOf;rw[ha']
   obtain ⟨cl,e1,e2,e3,e4⟩:=qbJ r ((n,a)::cs) hr (λm b hm=>by
    rw[ybh]at hm
    cases e:m==n with
    |true=>rw[e]at hm;cases hm;rw[ydM e];exact ha'
    |false=>rw[e]at hm;exact h m b hm)
   refine⟨cl,?_,e2,λm ⟨b,hm⟩=>e3 m ?_,λy hy hyf=>?_⟩
   ·show((if(yba==yba)=true then _ else _) >>= _)=_
    rw[if_pos (by rfl),hcell]
    exact e1
   ·rw[ybh]
    cases e:m==n with
    |true=>exact⟨a,rfl⟩
    |false=>exact⟨b,hm⟩
   ·rcases List.mem_cons.mp hy with rfl|hy
    ·exact e3 n ⟨a,by rw[ybh];simp⟩
    ·exact e4 y hy hyf
  ·have hb:(k==yba)=false:=by simpa using hk
   obtain⟨cl,e1,e2,e3,e4⟩:=qbJ r cs hr h
   refine⟨cl,?_,e2,e3,λy hy hyf=>?_⟩
   ·show((if(k==yba)=true then _ else _) >>= _)=_
    rw[hb,if_neg yaq]
    exact e1
   ·rcases List.mem_cons.mp hy with rfl|hy
    ·exact absurd hyf hk
    ·exact e4 y hy hyf
theorem qbp {env:ydO} {scope:Scope} (hf:∀y∈scope.names,y.2=.free->∃a,env.cells.lookup y.1=some a) :
  ∃cl,closureFor scope env=pure cl/\(∀n a,cl.lookup n=some a->env.cells.lookup n=some a)/\∀y∈scope.names,y.2=.free->∃a,cl.lookup y.1=some a:=by
 obtain⟨cl,e1,e2,_,e4⟩:=qbJ scope.names [] hf (λn a h=>by cases h)
 refine⟨cl,?_,e2,e4⟩
 unfold closureFor
 show(forIn scope.names [] _ >>= _)=_
 have e5:(forIn scope.names [] λx r=>match x with|(name,kind)=>if(kind==yba)=true then do let a <-cellOf env name;pure (ybW ((name,a)::r))else pure (ybW r):Sem (List (Str×Addr)))=pure cl:=e1
 first
  |(rw[e5];rfl)
  |(simp only[bind_pure_comp,e5];rfl)
theorem u9 {env:ydO}:∀{names:List (Str×ydE)}{x:Str},names.lookup x=some .free->env.scope.kind=.function->env.kindOf x=some .cell ->
  (names.map λ(n,k)=>if(k==yba&&env.scope.kind == .function&&env.kindOf n==some .cell) then(n,ydD) else(n,k)).lookup x=some .cell
 | [],_,h,_,_=>by simp at h
 | (n,k)::r,x,h,hk,hx=>by
  have ih := @u9 env r x
  show List.lookup x ((if(k==yba&&env.scope.kind == .function&&env.kindOf n==some .cell)=true then(n,ydD) else(n,k))::_)=_
  cases hxn:x==n with
  |true=>
   have e:x=n:=ydM hxn
   subst e
   simp only[ybh,hxn]at h
   cases h
   rw[if_pos (by rw[hk,hx];rfl)]
   simp only[ybh,hxn]
  |false=>
   simp only[ybh,hxn]at h
   by_cases hc:(k==yba&&env.scope.kind == .function&&env.kindOf n==some .cell)=true
   ·rw[if_pos hc];simp only[ybh,hxn];exact ih h hk hx
   ·rw[if_neg hc];simp only[ybh,hxn];exact ih h hk hx
theorem yW {env:ydO}:∀{names:List (Str×ydE)}{x:Str}{q:ydE},(names.map λ(n,k)=>if(k==yba&&env.scope.kind == .function&&env.kindOf n==some .cell) then(n,ydD) else(n,k)).lookup x=some q ->
  q=.cell\/q=.free->(∀y∈names,y.2 ≠ .cell)->∃k,(x,k)∈names/\k=.free
 | [],_,_,h,_,_=>by simp at h
 | (n,k)::r,x,q,h,hq,hc=>by
  have ih := @yW env r x q
  have h':List.lookup x ((if(k==yba&&env.scope.kind == .function&&env.kindOf n==some .cell)=true then(n,ydD) else(n,k))::(r.map λ(n,k)=>if(k==yba&&env.scope.kind == .function&&env.kindOf n==some .cell) then(n,ydD) else(n,k)))=some q:=h
  have hr:∀y∈r,y.2 ≠ .cell:=λy hy=>hc y (mM _ hy)
  by_cases hcd:(k==yba&&env.scope.kind == .function&&env.kindOf n==some .cell)=true
  ·rw [if_pos hcd]at h'
   cases hxn:x==n with
   |true=>
    have e:x=n:=ydM hxn
    subst e
    refine⟨k,mS_,?_⟩
    rw[yan,yan]at hcd
    exact ydM hcd.1.1
   |false=>
    simp only[ybh,hxn]at h'
    obtain⟨k',m,e⟩:=ih h' hq hr
    exact⟨k',mM _ m,e⟩
  ·rw [if_neg hcd]at h'
   cases hxn:x==n with
   |true=>
    have e:x=n:=ydM hxn
    subst e
    simp only[ybh,hxn]at h'
    cases h'
    rcases hq with rfl|rfl
    ·exact absurd rfl (hc (x,.cell) mS_)
    ·exact⟨.free,mS_,rfl⟩
   |false=>
    simp only[ybh,hxn]at h'
    obtain⟨k',m,e⟩:=ih h' hq hr
    exact⟨k',mM _ m,e⟩
def qF(nt:Nat)(fr:List Nat)(σ:St):St:=yap nt none++fr.map λj=>(σ[j]?).join
def qlL (X:Cx) (tg:Expr) (ifs:List Expr) (elt:Expr) (scope:Scope) (N':List Str) (wi:TI) (nt:Nat) (fr:List Nat):TE:=λσ H Q=>wi σ H λJ H1=>∀acc fp cl C s₀ H₀ pn,H1 acc=none ->
 ∃(g:TG)(tt:TT)(te:TE),PG (z6 X scope N' fp cl C s₀ H₀ pn) tg g/\PF (z6 X scope N' fp cl C s₀ H₀ pn) ifs tt/\PE (z6 X scope N' fp cl C s₀ H₀ pn) elt te /\
 ∃W:Nat->Nat->St->Hp->Prop,(∃m,W 0 m (qF nt fr σ) (upd H1 acc (.lst []))) /\
 ∀ i m σ' H',W i m σ' H'->(J.stop i H'/\Q (.ref acc) H')\/(J.go i H'/\∀x H'',J.yld i H' x H''->g x σ' H'' λσ2 H2=>tt σ2 H2 λb H3=>
  if b=true then te σ2 H3 λy H4=>∃ys,H4 acc=some (.lst ys)/\ys.length<yav/\∃m',m'<m/\W (i+1) m' σ2 (upd H4 acc (.lst (ys++[y])))else ∃m',m'<m/\W (i+1) m' σ2 H3)
section
variable{X:Cx}{tg iter elt:Expr}{ifs:List Expr}{scope:Scope}{pos:Pos}{wi:TI}{N':List Str}{nt:Nat}{fr:List Nat}
theorem qcO {prog:yar} {w:World} {A:yau} {R:ydU->yab->Prop} {s:yab} {it acc:Value} {env:ydO} (I:Nat->yab->Prop)
  (turn : ∀n s,I n s->wpAny (model prog w) A (yck it) (λr sV=>match r with
   |none=>R (.ok .next) sV
   | some v=>wpAny (model prog w) A (ydT tg it v) (λ_ s1'=>wpAny (model prog w) A (yc0 tg env v) (λ_ sJ=>
     wpAny (model prog w) A (forIn ifs true λc r=>if r=true then do let ok <-isTrue c env (eval c env);pure (ybW ok)else pure (ybW r)) (λok sX=>
      if ok=true then wpAny (model prog w) A (eval elt env) (λx sY=>
       wpAny (model prog w) A (call (.builtin "list.append") [acc,x]) (λ_ sQ=>∃m,m<n/\I m sQ) (λ_ _=>False) sY) (λ_ _=>False) sX
      else ∃m,m<n/\I m sX) (λ_ _=>False) sJ) (λ_ _=>False) s1') (λ_ _=>False) sV) (λ_ _=>False) s)
  (n:Nat) (h:I n s):ybI (model prog w) A (.compLoop (.ListComp elt [⟨tg,iter,ifs,0⟩] scope pos) 0 it acc env) R s:=by
 refine codeAny_loop rfl I (λn s hI=>?_) n h
 show wpAny _ A ((compTurn (.ListComp elt [⟨tg,iter,ifs,0⟩] scope pos) 0 it acc env).onRaise (λx=>do noteFrame x env;theTreesLotGoes x)) _ _ s
 refine wpAny_noted ?_
 rw[compTurn_list]
 refine yaa (ydy (yaa (ycC (turn n s hI) (λr sV hV=>?_) λ_ _ h'=>h'.elim)))
 cases r with
 |none=>exact yac hV
 | some v=>
  refine yaa (ycC hV (λ_ s1' hK'=>?_) λ_ _ h'=>h'.elim)
  refine yaa (ycC hK' (λ_ sJ hG=>yaa (ycC hG (λok sX hX=>?_) λ_ _ h'=>h'.elim)) λ_ _ h'=>h'.elim)
  cases ok with
  |false=>exact yac ⟨rfl,hX⟩
  |true=>
   exact yaa (yaa (ycC hX (λx sY hJ=>yaa (ycC hJ (λ_ sQ h₅=>yac (yac ⟨rfl,h₅⟩)) λ_ _ h'=>h'.elim)) λ_ _ h'=>h'.elim))
theorem qdK {pins:List (Addr×Obj)} {σ:St} {H:Hp} {s:yab} {hV:Heap} {tk:Nat} {fp:List Addr} {cl:List (Str×Addr)} (S:jZ X scope N' nt fr) (I:Inv X pins σ H s) (hfp:∀b∈fp,qhe X pins H b)
  (hex:∀b∈fp,∃o,s.heap.get? b=some o) (cl1:∀n a,cl.lookup n=some a->X.env.cells.lookup n=some a) (cl2:∀y∈scope.names,y.2=.free->∃a,cl.lookup y.1=some a)
  (hns:∃m,hV.Ns s.heap.objs.size m) (old:∀b o,s.heap.get? b=some o->hV.get? b=some o) :
  Inv (z6 X scope N' fp cl s.heap.objs.size s H (X.pn++pins)) [] (qF nt fr σ) H {s with heap:=hV,toks:=tk}:=by
 have stkB:∀b∈frs X.stack,b=X.env.locals\/b∈X.fs:=λb hb=>List.mem_cons.mp (I.stkSub b hb)
 have hC:∀b o,s.heap.get? b=some o->b≠s.heap.objs.size:=λb o e=>yao (yae e)
 obtain⟨m,hn⟩:=hns
 refine ⟨⟨I.ok.mod,S.kind,I.ok.glob,I.ok.blt,yah _,λx y c h1 h2=>I.ok.inj x y c (cl1 x c h1) (cl1 y c h2),λx hx=>?_,λx c hx=>?_,I.ok.hd,I.ok.frames,.inl rfl,λb hb=>⟨?_,λx c hx=>(hfp b hb).2.2.2.2.1 x c (cl1 x c hx)⟩,I.bs,yaP I.ok.bsz I.sz,λb o e hb=>?_,λb hb hb2=>?_,I.stack,I.stkFree⟩,
  rfl,I.bare,Un.kept old,⟨m,hn,λi x v h1 h2 h3=>?_⟩,λx c hx=>?_,I.hok.fresh (yah _),λx c hx=>I.freeC x c (cl1 x c hx),λp hp=>?_,I.hok.kept old,?_⟩
 ·have hx':∃k,(x,k)∈scope.names/\k=.free:=by
   rcases hx with hx|hx
   ·exact yW (env:=X.env) (q:=.cell) hx (.inl rfl) S.nocell
   ·exact yW (env:=X.env) (q:=.free) hx (.inr rfl) S.nocell
  obtain⟨k,m,rfl⟩:=hx'
  exact cl2 (x,.free) m rfl
 ·have hx':false=true:=hx
  cases hx'
 ·obtain⟨o,e⟩:=hex b hb
  exact hC b o e
 ·obtain⟨f0,f1,f2,f3,f4,f5⟩:=hfp b hb
  rcases f3 with z|z
  ·exact I.ok.noex b o e z
  ·exact absurd (yaA (yae e) (yaP I.ok.bsz z)) (yaT _)
 ·obtain⟨f0,f1,f2,f3,f4,f5⟩:=hfp b hb
  rcases stkB b hb2 with z|z
  ·exact f1 z
  ·exact f2 z
 ·-- names
  have hi:nt<=i:=by
   apply ybQ
   intro hlt
   unfold qF at h2
   rw[List.getElem?_append_left (by simpa using hlt),List.getElem?_replicate]at h2
   split at h2<;>cases h2
  have h2':(fr.map λj=>(σ[j]?).join)[i-nt]? = some (some v):=by
   unfold qF at h2
   rw[List.getElem?_append_right (by simpa using hi),ybR]at h2
   exact h2
  rw[gM_]at h2'
  cases ej:fr[i-nt]? with
  |none=>rw[ej]at h2';cases h2'
  | some j=>
   rw[ej]at h2'
   have hσ:(σ[j]?).join=some v:=by simpa using h2'
   have hσ':σ[j]? = some (some v):=by
    cases e:σ[j]? with
    |none=>rw[e]at hσ;cases hσ
    |some o=>
     rw[e]at hσ
     have:o=some v:=hσ
     rw[this]
   obtain⟨y,hy1,hy2,hy3⟩:=S.slot (i-nt) j ej
   have hii:nt+(i-nt)=i:=by omega
   rw[hii]at hy1
   have exy:y=x:=by
    have h1':N'[i]? = some x:=h1
    rw[h1']at hy1
    exact(yaw hy1).symm
   subst exy
   have hmem:(y,yba)∈scope.names:=yb6 hy3
   have hcellk:X.env.kindOf y=some .cell:=S.frees (y,.free) hmem rfl
   obtain⟨m0,hn0,hl0⟩:=I.loc
   obtain⟨u,ru,lk⟩:=hl0 j y v hy2 hσ' (.inr (.inl hcellk))
   refine⟨u,ru,.inr ⟨.inl (u9 hy3 I.ok.kind hcellk),?_⟩⟩
   rcases lk with⟨k1,_⟩|⟨_,c,e,z⟩
   ·rw[hcellk]at k1;cases k1
   ·obtain⟨a,ea⟩:=cl2 (y,.free) hmem rfl
    have ea':=cl1 y a ea
    rw[e]at ea'
    cases ea'
    obtain⟨o,ho,hd⟩:=z
    exact⟨c,ea,o,old _ _ ho,hd⟩
 ·obtain⟨v,o,ho,hd⟩:=I.cell x c (cl1 x c hx)
  exact⟨v,o,old _ _ ho,hd⟩
 ·have hp':p∈X.pn++pins:=by
   rcases mA_.mp (show p∈(X.pn++pins)++[]from hp)with z|z
   ·exact z
   ·cases z
  obtain⟨e,n,ne,nf,d⟩:=I.pin p hp'
  refine⟨old _ _ e,n,hC _ _ e,λz=>?_,d⟩
  rcases stkB p.1 z with z|z
  ·exact ne z
  ·exact nf z
 ·show(qF nt fr σ).length=N'.length
  unfold qF
  rw[lA_,ybR,lM_,S.len]
theorem qhn {pins:List (Addr×Obj)} {σ σ':St} {H H':Hp} {s s':yab} {h':Heap} {fp:List Addr} {cl:List (Str×Addr)} (I:Inv X pins σ H s) (hfp:∀b∈fp,qhe X pins H b)
  (J:Inv (z6 X scope N' fp cl s.heap.objs.size s H (X.pn++pins)) [] σ' H' s') (sb:ybK s.heap.objs.size s'.heap h'):Inv X pins σ H' {s' with heap:=h' }:=by
 have hC:H' s.heap.objs.size=none:=J.free
 have u:=J.base
 have big:∀b o,s.heap.get? b=some o->b≠s.heap.objs.size:=λb o e=>yao (yae e)
 have get':∀b,b≠s.heap.objs.size->h'.get? b=s'.heap.get? b:=λb hb=>sb.2 b hb
 have u2:Un (frs X.stack) fp H H' s.heap h' :=
  ⟨λb o e n hb hx=>(get' b (big b o e)).trans (u.keep b o e n hb hx),λb o e n hb hx=>by
   obtain⟨sl,q⟩:=u.slot b o e n hb hx
   exact⟨sl,(get' b (big b o e)).trans q⟩,u.free,λb o e hx=>by
   obtain⟨o',q⟩:=u.there b o e hx
   exact⟨o',(get' b (big b o e)).trans q⟩,u.tups,u.frzs,u.tbls⟩
 refine I.call' (s':={s' with heap:=h' }) (ch:=fp) J.os u2 (λb o e=>?_) J.bare (λb hb=>?_)
 ·refine(J.hok b o e).stay (λc v hc q=>?_) (λ_ q=>q) λ_ _ q=>q
  refine(get' c ?_).trans q
  rintro rfl
  rcases hc with hc|hc
  ·rw[<-hc,hC]at e;cases e
  ·rw[hC]at hc;cases hc
 ·obtain⟨f0,f1,f2,f3,f4,f5⟩:=hfp b hb
  exact⟨f3,f1,f4,f5⟩
theorem qjv (hc:X.calm=true) (hi:PI X tg iter wi) (S:jZ X scope N' nt fr)
  (hs:∀x,yb2 iter X.env x=pure x:=by intro _;rfl):PE X (.ListComp elt [⟨tg,iter,ifs,0⟩] scope pos) (qlL X tg ifs elt scope N' wi nt fr):=by
 intro pins s σ H Q I hw
 obtain⟨cl,hcl,cl1,cl2⟩:=qbp (env:=X.env) (scope:=scope) (λy hy hf=>I.ok.has y.1 (.inl (S.frees y hy hf)))
 rw[eval_ListComp]
 refine yeU (use:=none) rfl hs hcl S.kind S.names (thn (hi pins s σ H _ I hw) λv s1 h1=>thn h1 λitv s2 h2=>?_)
 obtain⟨it,fp,tn,J,H2,e,I2,T,st2,f2,hR⟩:=h2
 subst e
 have hacc:H2 s2.heap.objs.size=none:=I2.hok.fresh (yah _)
 refine yay (yfM S.nocell (by intro y hy;simp at hy) (λhV hns1 hsb1=>?_) S.kind)
 dsimp only at hns1 hsb1 |-
 have I3:Inv X pins σ (upd H2 s2.heap.objs.size (.lst [])) {s2 with heap:=s2.heap.push {cls:=.type "list",dict:=none,data:=.seq ([]:List Value).toArray} } :=
  I2.lnew (t':=s2.toks) (its:=[]) .nil (ybB _)
 generalize hs3:({s2 with heap:=s2.heap.push {cls:=.type "list",dict:=none,data:=.seq ([]:List Value).toArray} }:yab)=s3 at I3
 have hh3:s2.heap.push {cls:=.type "list",dict:=none,data:=.seq ([]:List Value).toArray}=s3.heap:=by rw[<-hs3]
 rw[hh3]at hns1 hsb1
 have old:∀b o,s3.heap.get? b=some o->hV.get? b=some o:=λb o q=>hsb1.extBut b o (yao (yae q)) (Heap.get?_push_of_some _ q)
 have objs2:∀b∈fp,∃o,s2.heap.get? b=some o:=λb hb=>by
  obtain⟨o,q,_⟩:=T.obj 0 _ st2 b hb
  exact⟨o,q⟩
 have keep23:∀b o,s2.heap.get? b=some o->s3.heap.get? b=some o:=λb o q=>by rw[<-hh3];exact Heap.get?_push_of_some _ q
 have fpne:∀b∈fp,b≠s2.heap.objs.size:=λb hb=>by
  obtain⟨o,q⟩:=objs2 b hb
  exact yao (yae q)
 have f3:∀b∈fp,qhe X pins (upd H2 s2.heap.objs.size (.lst [])) b:=λb hb=>⟨by rw[qx (fpne b hb)];exact(f2 b hb).1,(f2 b hb).2⟩
 have J0:Inv (z6 X scope N' fp cl s3.heap.objs.size s3 (upd H2 s2.heap.objs.size (.lst [])) (X.pn++pins)) [] (qF nt fr σ) (upd H2 s2.heap.objs.size (.lst [])) {s3 with heap:=hV,toks:=s3.toks} :=
  qdK S I3 f3 (λb hb=>(objs2 b hb).imp λo q=>keep23 b o q) cl1 cl2 ⟨_,hns1⟩ old
 obtain⟨g,tt,te,hg,hf,he,W,⟨m0,w0⟩,turn⟩:=hR s2.heap.objs.size fp cl s3.heap.objs.size s3 (upd H2 s2.heap.objs.size (.lst [])) (X.pn++pins) hacc
 have T0:tn 0 hV:=T.keep 0 _ _ st2 λb hb o q=>old b o (keep23 b o q)
 have s3e:∀tk:Nat,({s2 with heap:=hV,toks:=tk}:yab)={s3 with heap:=hV,toks:=tk}:=λtk=>by rw[<-hs3]
 have loop:∀tk:Nat,ybI (model X.prog X.w) X.A (.compLoop (.ListComp elt [⟨tg,iter,ifs,0⟩] scope pos) 0 (.ref it) (.ref s2.heap.objs.size) (yfL scope cl s3.heap.objs.size X.env))
   (ygN (model X.prog X.w) X.A X.xe none (EP X pins σ Q) (.ref s2.heap.objs.size) s3.heap.objs.size) {s3 with heap:=hV,toks:=tk}:=λtk=>by
  have stat:∀{H':Hp},(∀b∈fp,H' b=none)->∀b∈fp,qhe (z6 X scope N' fp cl s3.heap.objs.size s3 (upd H2 s2.heap.objs.size (.lst [])) (X.pn++pins)) [] H' b:=λ{H'} hn b hb=>by
   obtain⟨o,q⟩:=objs2 b hb
   have hbC:b≠s3.heap.objs.size:=yao (yae (keep23 b o q))
   refine⟨hn b hb,hbC,λz=>?_,.inl hb,λx c hx=>(f2 b hb).2.2.2.2.1 x c (cl1 x c hx),λp hp=>?_⟩
   ·rcases List.mem_cons.mp (I2.stkSub b z)with z|z
    ·exact(f2 b hb).2.1 z
    ·exact(f2 b hb).2.2.1 z
   ·have hp':p∈X.pn++pins:=by
     rcases mA_.mp (show p∈(X.pn++pins)++[]from hp)with z|z
     ·exact z
     ·cases z
    exact(f2 b hb).2.2.2.2.2 p hp'
  have fr0:∀b∈fp,upd H2 s2.heap.objs.size (.lst []) b=none:=λb hb=>(f3 b hb).1
  refine qcO (λn s'=>∃i σ' H',Inv (z6 X scope N' fp cl s3.heap.objs.size s3 (upd H2 s2.heap.objs.size (.lst [])) (X.pn++pins)) [] σ' H' s'/\tn i s'.heap/\(∀b∈fp,H' b=none)/\W i n σ' H') ?_ m0
   ⟨0,qF nt fr σ,_,J0.tok tk,T0,fr0,w0⟩
  rintro n s4 ⟨i,σ4,H4,J4,st4,fr4,w4⟩
  rcases turn i n σ4 H4 w4 with⟨stop,qn⟩|⟨go,step⟩
  ·refine thn (T.done (z6 X scope N' fp cl s3.heap.objs.size s3 (upd H2 s2.heap.objs.size (.lst [])) (X.pn++pins)) rfl rfl rfl hc i [] s4 σ4 H4 _ J4 (stat fr4) st4 stop) λr s5 ⟨hr,J5⟩=>?_
   subst hr
   obtain⟨m5,n5,_⟩:=J5.loc
   refine⟨m5,n5,λh' sb=>⟨.ref s2.heap.objs.size,H4,qhn I3 f3 J5 sb,rfl,qn⟩⟩
  ·refine thn (T.item (z6 X scope N' fp cl s3.heap.objs.size s3 (upd H2 s2.heap.objs.size (.lst [])) (X.pn++pins)) rfl rfl rfl hc i [] s4 σ4 H4 _ J4 (stat fr4) st4 go) λr s5 ⟨u,hr,h5⟩=>?_
   subst hr
   refine thn h5 λ_ s6 ⟨x,H6,J6,r6,y6,st6,fr6⟩=>?_
   have J6':=J6.pinned (stat fr6) (T.obj _ _ st6)
   have again:∀{σ7:St}{H7:Hp}{s7:yab},Inv (z6 X scope N' fp cl s3.heap.objs.size s3 (upd H2 s2.heap.objs.size (.lst [])) (X.pn++pins)) ([]++qdG fp s6.heap) σ7 H7 s7->(∃m',m'<n/\W (i+1) m' σ7 H7) ->
     ∃m,m<n/\∃i σ' H',Inv (z6 X scope N' fp cl s3.heap.objs.size s3 (upd H2 s2.heap.objs.size (.lst [])) (X.pn++pins)) [] σ' H' s7/\tn i s7.heap/\(∀b∈fp,H' b=none)/\W i m σ' H':=λ{σ7 H7 s7} I7 hm=>by
    obtain⟨m',hm,w7⟩:=hm
    refine⟨m',hm,i+1,σ7,H7,I7.unpinned,T.keep _ _ _ st6 λb hb o q=>(I7.pin (b,o) (mr_ _ (mr_ _ (uV hb q)))).1,λb hb=>?_,w7⟩
    obtain⟨o,q,d⟩:=T.obj _ _ st6 b hb
    exact(I7.pin (b,o) (mr_ _ (mr_ _ (uV hb q)))).2.1
   refine thn (hg _ s6 σ4 H6 x u _ J6' r6 (step x H6 y6)) λ_ s7 ⟨σ7,H7,J7,q7⟩=>?_
   refine thn (hf _ s7 σ7 H7 _ J7 q7) λok s8 ⟨H8,J8,q8⟩=>?_
   cases ok with
   |false=>
    rw[if_neg yaq]at q8 |-
    exact again J8 q8
   |true=>
    rw[if_pos rfl]at q8 |-
    refine thn (he _ s8 σ7 H8 _ J8 q8) λz s9 ⟨y,H9,J9,r9,ys,hys,hz,hm⟩=>?_
    refine thn (qcF _ s9 σ7 H9 (.ref s2.heap.objs.size) [y] (.ref s2.heap.objs.size) [z] (λ_ H'=>H'=upd H9 s2.heap.objs.size (.lst (ys++[y]))) J9 rfl (.cons r9 .nil) ⟨_,ys,y,rfl,rfl,hys,hz,rfl⟩) λ_ s10 ⟨_,H10,J10,_,e10⟩=>?_
    subst e10
    exact again J10 hm
 have yU:∀tk:Nat,ybI (model X.prog X.w) X.A (.compStart (.ListComp elt [⟨tg,iter,ifs,0⟩] scope pos) 0 (.ref it) (.ref s2.heap.objs.size) (yfL scope cl s3.heap.objs.size X.env))
   (ygN (model X.prog X.w) X.A X.xe none (EP X pins σ Q) (.ref s2.heap.objs.size) s3.heap.objs.size) {s3 with heap:=hV,toks:=tk}:=λtk=>
  yfn (loop tk) (T.self X.A 0 _ _ _ T0 (loop tk))
 have fin:=yU (s2.toks+([]:List (Str×Value)).length)
 rw[<-s3e]at fin
 rw[<-hh3]at fin
 rw[hh3]at fin |-
 exact fin
end
structure qi1 (K:Fr0) (A:Addr->Prop) (H:Hp) (ds:List D) (J:It):Prop where
 go:∀H' i d,Ext A H H'->ds[i]? = some d->J.go i H'
 yl:∀H' i d x H'',Ext A H H'->ds[i]? = some d->J.yld i H' x H''->yA H' H''/\Is K A H'' d x
 stop:∀H',Ext A H H'->J.stop ds.length H'
def CnT(c:Fc)(σ:St)(H:Hp)(a:Addr):Prop:=Cn c σ a/\(H a).isSome=true
def WpI (K:Fr0) (c:Fc) (σ:St) (H:Hp) (Q:It->Hp->Prop):R (List D×Env)->Prop
 |.ok (ds,ρ)=>∀J H',Rep K c ρ σ H'->qi1 K (CnT c σ H') H' ds J->Gr c.O σ H H'->Q J H'
 |.exc x ρ=>∀H',Rep K c ρ σ H'->Gr c.O σ H H'->c.E x H'
 |.bad=>False
def DI(X:Cx)(c:Fc)(tg it:Expr)(f:M (List D)):Prop:=∃w,PI X tg it w/\∀ρ σ H Q,Rep X.K c ρ σ H->WpI X.K c σ H Q (f ρ)->w σ H Q
section
variable{X:Cx}{c:Fc}{tg a b e:Expr}{pos:Pos}
def qtS(K:Fr0)(tl:TE):TI:=λσ H R=>tl σ H λx H1=>(∃a,x=.ref a/\(∃xs,SqL K H1 a xs)/\R (Itl K a) H1)\/(∃a,x=.ref a/\(∃xs,SqT K H1 a xs)/\R (Itt K a) H1)
theorem qqU {tl:TE} (hl:PE X e tl):PI X tg e (qtS X.K tl):=by
 intro pins s σ H R I h
 refine thn (hl pins s σ H _ I h) λv s1 ⟨x,H1,I1,r1,q1⟩=>?_
 rcases q1 with⟨a,e,⟨xs,hq⟩,q⟩|⟨a,e,⟨xs,hq⟩,q⟩
 ·subst e
  cases r1
  obtain⟨its,rv,p,hz⟩:=I1.list hq
  refine ya4 p.isList ?_
  refine⟨s1.heap.objs.size,[s1.heap.objs.size],_,_,H1,rfl,I1.kept (t':=s1.toks) λb o e=>Heap.get?_push_of_some _ e,qi5 a _,⟨_,Heap.get?_push_size _ rfl,rfl,rfl⟩,λb hb=>?_,q⟩
  have e:b=s1.heap.objs.size:=by simpa using hb
  subst e
  exact I1.fpOk (yah _) (I1.hok.fresh (yah _))
 ·subst e
  cases r1
  obtain⟨its,rv,p,hz⟩:=I1.tuple hq
  refine ycb (show s1.heap.IsTuple a its.toArray from p) ?_
  refine⟨s1.heap.objs.size,[s1.heap.objs.size],_,_,H1,rfl,I1.kept (t':=s1.toks) λb o e=>Heap.get?_push_of_some _ e,qic a _,⟨_,Heap.get?_push_size _ rfl,rfl,rfl⟩,λb hb=>?_,q⟩
  have e:b=s1.heap.objs.size:=by simpa using hb
  subst e
  exact I1.fpOk (yah _) (I1.hok.fresh (yah _))
def qsa:D->Option (List D)
 |.tup ds=>some ds
 |.lst ds=>some ds
 |.fz ns=>some (ns.map .int)
 |_=>none
theorem qef {K:Fr0} {A:Addr->Prop} {H:Hp}:∀ns:List Int,IsL K A H (ns.map .int) (ns.map V.int)
 | []=>rfl
 |n::ns=>⟨.int n,ns.map V.int,rfl,rfl,qef ns⟩
theorem qjw {K:Fr0} {A:Addr->Prop} {H:Hp} {ds:List D} {xs:List V} {a:Addr} (hs:∀H',Ext A H H'->SqL K H' a xs) (il:IsL K A H ds xs):qi1 K A H ds (Itl K a) where
 go:=λH' i d ex hd=>by
  obtain⟨x,h1,h2⟩:=il.get hd
  exact⟨xs,x,hs H' ex,h1⟩
 yl:=λH' i d x H'' ex hd y=>by
  obtain⟨e,y⟩:=y
  subst e
  obtain⟨x',h1,h2⟩:=il.get hd
  have h3:=y xs (hs _ ex)
  rw[h1]at h3
  cases h3
  exact⟨yA.refl _,Is.ext ex (λ_ h _=>h) h2⟩
 stop:=λH' ex=>⟨xs,hs H' ex,by rw[il.length];exact yah _⟩
theorem qqV {K:Fr0} {A:Addr->Prop} {H:Hp} {ds:List D} {xs:List V} {a:Addr} (hs:vL K H a xs) (il:IsL K A H ds xs):qi1 K A H ds (Itt K a) where
 go:=λH' i d ex hd=>by
  obtain⟨x,h1,h2⟩:=il.get hd
  exact⟨xs,x,(hs.elim (λh => .inl (ex.tup _ _ h)) .inr:vL K H' a xs).sq,h1⟩
 yl:=λH' i d x H'' ex hd y=>by
  obtain⟨e,y⟩:=y
  subst e
  obtain⟨x',h1,h2⟩:=il.get hd
  have h3:=y xs (hs.elim (λh => .inl (ex.tup _ _ h)) .inr:vL K _ a xs).sq
  rw[h1]at h3
  cases h3
  exact⟨yA.refl _,Is.ext ex (λ_ h _=>h) h2⟩
 stop:=λH' ex=>⟨xs,(hs.elim (λh => .inl (ex.tup _ _ h)) .inr:vL K H' a xs).sq,by rw[il.length];exact yah _⟩
def wx(f:M D):M (List D):=bnd f λd=>lift (qsa d)
theorem wz {K:Fr0} {σ:St} {H:Hp} {Q:It->Hp->Prop} {o:Option (List D)} {ρ:Env} (h:WpI K c σ H Q (lift o ρ)):∃ds,o=some ds/\∀J H',Rep K c ρ σ H'->qi1 K (CnT c σ H') H' ds J->Gr c.O σ H H'->Q J H':=by
 cases o with
 |none=>exact h.elim
 |some d=>exact⟨d,rfl,h⟩
theorem WpI.gr {K:Fr0} {σ:St} {H H1:Hp} {Q:It->Hp->Prop}:∀{r:R (List D×Env)},WpI K c σ H Q r->Gr c.O σ H H1->WpI K c σ H1 Q r
 |.ok (d,ρ),h,g=>λv H' hr hi hg=>h v H' hr hi (g.trans hg)
 |.exc x ρ,h,g=>λH' hr hg=>h H' hr (g.trans hg)
 |.bad,h,_=>h
theorem Wp.bndI {K:Fr0} {σ:St} {H:Hp} {Q:It->Hp->Prop} {f:M D} {k:D->M (List D)} {ρ:Env} {Q':VK} (h:WpI K c σ H Q (Sk.bnd f k ρ)) (hQ:∀d ρ' v H',Rep K c ρ' σ H'->Is K (Cn c σ) H' d v->Gr c.O σ H H'->WpI K c σ H' Q (k d ρ')->Q' v H'):Wp K c σ H Q' (f ρ):=by
 unfold Sk.bnd at h
 cases e:f ρ with
 |ok p=>rw[e]at h;exact λv H' hr hi hg=>hQ p.1 p.2 v H' hr hi hg (h.gr hg)
 |exc x ρ'=>rw[e]at h;exact h
 |bad=>rw[e]at h;exact h
theorem WpL.bndI {K:Fr0} {σ:St} {H:Hp} {Q:It->Hp->Prop} {f:M (List D)} {k:List D->M (List D)} {ρ:Env} {Q':List V->Hp->Prop} (h:WpI K c σ H Q (Sk.bnd f k ρ)) (hQ:∀d ρ' v H',Rep K c ρ' σ H'->IsL K (Cn c σ) H' d v->Gr c.O σ H H'->WpI K c σ H' Q (k d ρ')->Q' v H'):WpL K c σ H Q' (f ρ):=by
 unfold Sk.bnd at h
 cases e:f ρ with
 |ok p=>rw[e]at h;exact λv H' hr hi hg=>hQ p.1 p.2 v H' hr hi hg (h.gr hg)
 |exc x ρ'=>rw[e]at h;exact h
 |bad=>rw[e]at h;exact h
theorem Is.tr{K:Fr0}{A:Addr->Prop}{H:Hp}{d:D}{v:V}(h:Is K A H d v):Is K (λa=>A a/\(H a).isSome=true) H d v:=Is.ext Ext.refl (λa h1 h2=>⟨h1,h2⟩) h
theorem uv {f:M D} (h:DE X c e f):DI X c tg e (wx f):=by
 obtain⟨t,p,w⟩:=h
 refine⟨_,qqU p,λρ σ H Q r h=>w ρ σ H _ r (Wp.bndI h λd ρ1 v H1 r1 i1 g1 h1=>?_)⟩
 obtain⟨ds,e,h2⟩:=wz h1
 have i2:Is X.K (CnT c σ H1) H1 d v:=i1.tr
 cases d<;>simp only[qsa]at e<;>try (cases e;done)
 ·cases e
  obtain⟨a,xs,rfl,ta,il⟩:=i2
  exact .inr ⟨a,rfl,⟨xs,ta.sq⟩,h2 _ H1 r1 (qqV ta il) .refl⟩
 ·cases e
  obtain⟨a,xs,rfl,hA,ta,il⟩:=i2
  exact .inl ⟨a,rfl,⟨xs,.inl (.inl ta)⟩,h2 _ H1 r1 (qjw (λH' ex => .inl (.inl (ex.at_ _ _ hA ta))) il) .refl⟩
 ·cases e
  obtain⟨a,rfl,ta⟩:=i2
  exact .inl ⟨a,rfl,⟨_,ta.sq⟩,h2 _ H1 r1 (qjw (λH' ex=>(ta.elim (λ⟨o,h⟩ => .inl ⟨o,ex.frz _ _ _ h⟩) .inr:qqL X.K H' a _).sq) (qef _)) .refl⟩
def qbK(lo:Int)(n:Nat):List D:=(yag n).map λi => .int (lo+(i:Nat))
theorem qny {K:Fr0} {A:Addr->Prop} {H:Hp} (lo:Int) (n:Nat):qi1 K A H (qbK lo n) (Itr lo n) where
 go:=λH' i d ex hd=>by
  have:i<(qbK lo n).length:=(gI_.mp hd).1
  show i<n
  simpa [qbK] using this
 yl := λH' i d x H'' ex hd y=>by
  obtain⟨e,y⟩:=y
  subst e
  subst y
  refine⟨yA.refl _,?_⟩
  unfold qbK at hd
  rw[gM_]at hd
  cases e2:(yag n)[i]? with
  |none=>rw[e2]at hd;cases hd
  | some j=>
   rw[e2]at hd
   have hj:j=i:=by
    have:=(gI_.mp e2).2
    simpa using this.symm
   subst hj
   cases hd
   rfl
 stop:=λH' ex=>by show n<=(qbK lo n).length;simp[qbK]
def qnz:List D->Option (List D)
 | [.int j]=>if decide (-(2 ^ 62)<=j)&&decide (j<2 ^ 62)then some (qbK 0 j.toNat)else none
 |_=>none
def yX(f:M (List D)):M (List D):=bnd f λds=>lift (qnz ds)
theorem jr {f:M (List D)} {p:Pos} (hg:Gl X "range") (hm:X.mg "range"=none) (ha:DA X c [a] f) (hs:yam [a] X.env=[(false,eval a X.env)]:=by rfl):DI X c tg (.Call (.Name "range" p) [a] [] pos) (yX f):=by
 obtain⟨t,p,w⟩:=ha
 refine⟨_,qi6 hg hm p hs,λρ σ H Q r h=>w ρ σ H _ r (WpL.bndI h λds ρ1 vs H1 r1 i1 g1 h1=>?_)⟩
 obtain⟨es,e,h2⟩:=wz h1
 unfold qnz at e
 split at e
 ·rename_i j
  obtain⟨v,rfl,e2⟩:=IsL.inv1 i1
  cases e2
  by_cases hb:(decide (-(2 ^ 62)<=j)&&decide (j<2 ^ 62))=true
  ·rw[if_pos hb]at e
   cases e
   rw[yan]at hb
   exact⟨j,rfl,of_decide_eq_true hb.1,of_decide_eq_true hb.2,h2 _ H1 r1 (qny 0 _) .refl⟩
  ·rw[if_neg hb]at e
   cases e
 ·cases e
def uH (g:D->Env->Option Env) (b:MS):List D->MS
 | [],ρ => .ok (.nx ρ)
 | d::ds,ρ=>match g d ρ with
  |none => .bad
  |some ρ1=>match b ρ1 with
   |.ok (.nx ρ2)=>uH g b ds ρ2
   |.ok (.ct ρ2)=>uH g b ds ρ2
   |.ok (.bk ρ2) => .ok (.nx ρ2)
   |.ok (.rt r ρ2) => .ok (.rt r ρ2)
   |.exc x ρ2 => .exc x ρ2
   |.bad => .bad
def qgo(f:M (List D))(g:D->Env->Option Env)(b:MS):MS:=sbnd f λds=>uH g b ds
theorem WpI.sbnd {K:Fr0} {σ:St} {H:Hp} {D':qlc} {f:M (List D)} {k:List D->MS} {ρ:Env} {Q':It->Hp->Prop} (h:WpS K c σ H D' (Sk.sbnd f k ρ))
  (hQ:∀ds ρ' J H',Rep K c ρ' σ H'->qi1 K (CnT c σ H') H' ds J->Gr c.O σ H H'->WpS K c σ H' D' (k ds ρ')->Q' J H'):WpI K c σ H Q' (f ρ):=by
 unfold Sk.sbnd at h
 cases e:f ρ with
 |ok p=>rw[e]at h;exact λv H' hr hi hg=>hQ p.1 p.2 v H' hr hi hg (h.gr hg.s)
 |exc x ρ'=>rw[e]at h;exact λH' hr hg=>h σ H' hr hg.s
 |bad=>rw[e]at h;exact h
theorem GrS.extT{σ σ':St}{H H':Hp}(g:GrS c.O σ H σ' H'):Ext (CnT c σ H) H H':=⟨g.ext.tup,g.ext.frz,λb o hb h=>g.ext.at_ b o hb.1.2 h⟩
theorem GrS.cnT{σ σ':St}{H H':Hp}(g:GrS c.O σ H σ' H'){a:Addr}(h:CnT c σ H a):Cn c σ' a:=⟨h.1.1,g.cl a h.1.2 h.2⟩
theorem qaI{α:Type}{l:List α}{i:Nat}(h:i<l.length):l.drop i=l[i]::l.drop (i+1):=List.drop_eq_getElem_cons h
theorem v0 {it:Expr} {body:List Stmt} {f:M (List D)} {g:D->Env->Option Env} {b:MS} (hp:yf3 (model X.prog X.w) X.A X.env X.xe) (hc:X.calm=true) (hi:DI X c tg it f) (hg:DG X c tg g) (hb:DSs X c body b)
  (hs:∀x,yb2 it X.env x=pure x:=by intro _;rfl):DS X c (.For tg it body [] pos) (qgo f g b):=by
 obtain⟨wi,pi,wI⟩:=hi
 obtain⟨tg',pg,wg⟩:=hg
 obtain⟨tb,pb,wb⟩:=hb
 refine⟨_,qqn hp hc pi pg pb hs,λρ σ H D' r h=>wI ρ σ H _ r (WpI.sbnd h λds ρ1 J H1 r1 iok g1 h1=>?_)⟩
 refine⟨λi m σ' H'=>m=ds.length-i/\i<=ds.length/\∃ρ',Rep X.K c ρ' σ' H'/\GrS c.O σ H1 σ' H'/\WpS X.K c σ' H' D' (uH g b (ds.drop i) ρ'),⟨ds.length,by simp,ybB _,ρ1,r1,.refl,by simpa using h1⟩,?_⟩
 rintro i m σ' H' ⟨rfl,hi,ρ',r',gs,w⟩
 by_cases hlt:i<ds.length
 ·refine .inr ⟨iok.go H' i ds[i] gs.extT (by simp[hlt]),λσ2 H2=>∃ρ2,Rep X.K c ρ2 σ2 H2/\GrS c.O σ H1 σ2 H2/\WpS X.K c σ2 H2 D' (uH g b (ds.drop (i+1)) ρ2),λσ2 H2 n=>⟨ds.length-(i+1),by omega,rfl,hlt,n⟩,λx H'' y=>?_⟩
  obtain⟨sm,ix⟩:=iok.yl H' i ds[i] x H'' gs.extT (by simp[hlt]) y
  rw[qaI hlt]at w
  unfold uH at w
  have gs2:GrS c.O σ H1 σ' H'':=gs.trans (Gr.of_same sm).s
  have ix2:Is X.K (Cn c σ') H'' ds[i] x:=Is.ext Ext.refl (λa ha _=>gs2.cnT ha) ix
  cases e1:g ds[i] ρ' with
  |none=>simp only[e1]at w;exact w.elim
  | some ρ2=>
   simp only[e1]at w
   refine wg ρ' σ' H'' ds[i] x ρ2 _ (r'.same sm) ix2 e1 λσ2 r2 g2 _=>wb ρ2 σ2 H'' _ r2 ?_
   have w2:=w.gr ((Gr.of_same sm).s.trans g2)
   have gs3:GrS c.O σ H1 σ2 H'':=gs2.trans g2
   cases e2:b ρ2 with
   |ok fl=>
    cases fl with
    |nx ρ3=>simp only[e2]at w2;exact λσ3 H3 r3 g3=>⟨ρ3,r3,gs3.trans g3,w2.gr g3⟩
    |ct ρ3=>simp only[e2]at w2;exact λσ3 H3 r3 g3=>⟨ρ3,r3,gs3.trans g3,w2.gr g3⟩
    |bk ρ3=>simp only[e2]at w2;exact w2
    |rt d ρ3=>simp only[e2]at w2;exact w2
   |exc x ρ3=>simp only[e2]at w2;exact w2
   |bad=>simp only[e2]at w2;exact w2
 ·have hie:i=ds.length:=by omega
  subst hie
  rw[ycH (yah _)]at w
  exact .inl ⟨iok.stop H' gs.extT,w σ' H' r' .refl⟩
end
def cin (B0:Addr->Prop) (H1:Hp) (O':List Nat) (Io':Addr->Prop) (acc:Addr) (S':Nat->Option (Option V)):Fc where
 O:=O'
 P:=O'
 B:=λa=>B0 a/\a≠acc
 H0:=upd H1 acc (.lst [])
 Io:=λa=>Io' a\/a=acc
 E:=λ_ _=>False
 S:=S'
def zh (g:D->Env->Option Env) (t:M Bool) (e:M D):List D->List D->Env->R (List D×Env)
 | [],acc,ρ => .ok (acc,ρ)
 | d :: ds,acc,ρ=>match g d ρ with
  |none => .bad
  | some ρ1=>match t ρ1 with
   |.ok (true,ρ2)=>match e ρ2 with
    |.ok (y,ρ3)=>if qY (acc.length+1)then zh g t e ds (acc++[y]) ρ3 else .bad
    |_ => .bad
   |.ok (false,ρ2)=>zh g t e ds acc ρ2
   |_ => .bad
def jJ(nt:Nat)(fr:List Nat)(ρ:Env):Env:=yap nt none++fr.map λj=>(ρ[j]?).join
def qlM (fo:Option (Nat×Nat)) (ρe ρ:Env):Env:=match fo with
 |none=>ρ
 |some (i,j)=>ρ.set j (ρe[i]?).join
def qZ (nt:Nat) (fr:List Nat) (fo:Option (Nat×Nat)) (f:M (List D)) (g:D->Env->Option Env) (t:M Bool) (e:M D):M D:=bnd f λds ρ=>match zh g t e ds [] (jJ nt fr ρ) with
 |.ok (ys,ρe) => .ok (.lst ys,qlM fo ρe ρ)
 |_ => .bad
def DF(X:Cx)(c:Fc)(ifs:List Expr)(f:M Bool):Prop:=∃t,PF X ifs t/\∀ρ σ H Q,Rep X.K c ρ σ H->WpB X.K c σ H Q (f ρ)->t σ H Q
def foO (fo:Option (Nat×Nat)):List Nat:=match fo with
 |none=>[]
 |some (i,_)=>[i]
section
variable{X:Cx}{c:Fc}{tg a b e:Expr}{pos:Pos}
theorem yS:DF X c [] (ret true):=⟨_,qqS,λρ σ H Q r h=>h H r .refl⟩
theorem qcd {f:M Bool} (h:DT X c e f):DF X c [e] f:=by
 obtain⟨t,p,w⟩:=h
 exact⟨_,qqT p,w⟩
theorem WpI.bnd {K:Fr0} {σ:St} {H:Hp} {Q:VK} {f:M (List D)} {k:List D->M D} {ρ:Env} {Q':It->Hp->Prop} (h:Wp K c σ H Q (Sk.bnd f k ρ))
  (hQ:∀ds ρ' J H',Rep K c ρ' σ H'->qi1 K (CnT c σ H') H' ds J->Gr c.O σ H H'->Wp K c σ H' Q (k ds ρ')->Q' J H'):WpI K c σ H Q' (f ρ):=by
 unfold Sk.bnd at h
 cases e:f ρ with
 |ok p=>rw[e]at h;exact λv H' hr hi hg=>hQ p.1 p.2 v H' hr hi hg (h.gr hg)
 |exc x ρ'=>rw[e]at h;exact h
 |bad=>rw[e]at h;exact h
theorem Rep.grow {K:Fr0} {B0:Addr->Prop} {H1:Hp} {O':List Nat} {Io':Addr->Prop} {acc:Addr} {S':Nat->Option (Option V)} {ρ:Env} {σ:St} {H:Hp} {xs ys:List V} (r:Rep K (cin B0 H1 O' Io' acc S') ρ σ H) (h:H acc=some (.lst xs)) (ho:∀j∈O',σ[j]? ≠ some (some (.ref acc))) :
  Rep K (cin B0 H1 O' Io' acc S') ρ σ (upd H acc (.lst ys)):=by
 have ext:Ext (λa=>a≠acc) H (upd H acc (.lst ys)):=⟨λb zs hb=>by rw[qx (qaU hb h (by intro z;cases z))];exact hb,λb o u hb=>by rw[qx (qaU hb h (by intro z;cases z))];exact hb,λb o hb hq=>by rw[qx hb];exact hq⟩
 have cnext:Ext (Cn (cin B0 H1 O' Io' acc S') σ) H (upd H acc (.lst ys)):=⟨ext.tup,ext.frz,λb o hb hq=>ext.at_ b o hb.1.2 hq⟩
 refine⟨r.len,λi d hd=>?_,λj hj v hv=>?_,r.inj,r.b0,λb o hb hio=>?_,λb hb=>?_,r.pO,r.ps⟩
 ·obtain ⟨v,h1,h2⟩:=r.val i d hd
  refine⟨v,h1,?_⟩
  rcases h2 with⟨hi,ds,a,zs,h3,h5,h6,h7⟩|⟨hi,h3⟩
  ·subst h5
   have ne:a≠acc:=λe=>ho i hi (by rw[h1,e])
   exact .inl ⟨hi,ds,a,zs,h3,rfl,by rw[qx ne];exact h6,IsL.ext cnext (λ_ h _=>h) h7⟩
  ·exact .inr ⟨hi,Is.ext cnext (λ_ h _=>h) h3⟩
 ·obtain⟨a,zs,h1,h2,h3⟩:=r.own j hj v hv
  subst h1
  have ne:a≠acc:=λe=>ho j hj (by rw[hv,e])
  exact⟨a,zs,rfl,by rw[qx ne];exact h2,h3⟩
 ·have ne:b≠acc:=λe=>hio (.inr e)
  rw[qx ne]
  exact r.kp b o hb hio
 ·by_cases e:b=acc
  ·subst e;rw[qz]at hb;cases hb
  ·rw[qx e]at hb;exact r.dm b hb
theorem qbq {α:Type} {o:Option (Option α)} {a:α} (h:o.join=some a):o=some (some a):=by
 cases o with
 |none=>cases h
 |some x=>have:x=some a:=h;rw[this]
def qlN (c:Fc) (nt:Nat) (fr:List Nat) (fo:Option (Nat×Nat)):Prop:=match fo with
 |none=>∀j∈fr,j ∉ c.O
 |some (i,j)=>j∈c.O/\nt<=i/\fr[i-nt]? = some j/\∀k j',fr[k]? = some j'->nt+k≠i->j' ∉ c.O
def qcr (σ:St) (fo:Option (Nat×Nat)) (a:Addr):Prop:=match fo with
 |none=>False
 |some (_,j)=>σ[j]? = some (some (.ref a))
theorem qbL {nt:Nat} {fr:List Nat} {σ:St} {k j:Nat} (h:fr[k]? = some j):(qF nt fr σ)[nt+k]? = some (σ[j]?).join:=by
 unfold qF
 rw[List.getElem?_append_right (by simp),ybR,gM_,show nt+k-nt=k by omega,h]
 rfl
theorem qio {nt:Nat} {fr:List Nat} {ρ:Env} {i:Nat} {d:D} (hd:(jJ nt fr ρ)[i]? = some (some d)):∃k j,i=nt+k/\fr[k]? = some j/\ρ[j]? = some (some d):=by
 have hi:nt<=i:=by
  apply ybQ
  intro hlt
  unfold jJ at hd
  rw[List.getElem?_append_left (by simpa using hlt),List.getElem?_replicate]at hd
  split at hd<;>cases hd
 unfold jJ at hd
 rw[List.getElem?_append_right (by simpa using hi),ybR,gM_]at hd
 cases ej:fr[i-nt]? with
 |none=>rw[ej]at hd;cases hd
 |some j=>
  rw[ej]at hd
  exact⟨i-nt,j,by omega,ej,qbq (by simpa using hd)⟩
theorem yh {nt:Nat} {fr:List Nat} {σ:St} {i:Nat} {d:V} (hd:(qF nt fr σ)[i]? = some (some d)):∃k j,i=nt+k/\fr[k]? = some j/\σ[j]? = some (some d):=by
 have hi:nt<=i:=by
  apply ybQ
  intro hlt
  unfold qF at hd
  rw[List.getElem?_append_left (by simpa using hlt),List.getElem?_replicate]at hd
  split at hd<;>cases hd
 unfold qF at hd
 rw[List.getElem?_append_right (by simpa using hi),ybR,gM_]at hd
 cases ej:fr[i-nt]? with
 |none=>rw[ej]at hd;cases hd
 |some j=>
  rw[ej]at hd
  exact⟨i-nt,j,by omega,ej,qbq (by simpa using hd)⟩
theorem Rep.entry {K:Fr0} {nt:Nat} {fr:List Nat} {fo:Option (Nat×Nat)} {acc:Addr} {ρ:Env} {σ:St} {H:Hp} (r:Rep K c ρ σ H) (hn:H acc=none) (hfo:qlN c nt fr fo) :
  Rep K (cin (Cn c σ) H (foO fo) (qcr σ fo) acc λj=>(qF nt fr σ)[j]?) (jJ nt fr ρ) (qF nt fr σ) (upd H acc (.lst [])):=by
 have sm:yA H (upd H acc (.lst [])):=qC hn _
 have ownI:∀i∈foO fo,∀v,(qF nt fr σ)[i]? = some (some v)->∃j,fo=some (i,j)/\j∈c.O/\σ[j]? = some (some v):=λi hi v hv=>by
  cases fo with
  |none=>cases hi
  |some p=>
   obtain⟨i',j'⟩:=p
   have e:i=i':=by simpa [foO] using hi
   subst e
   obtain⟨h1,h2,h3,h4⟩:=hfo
   obtain⟨k,j,e1,e2,e3⟩:=yh hv
   have hk:k=i-nt:=by omega
   subst hk
   rw[h3]at e2
   cases e2
   exact⟨j',rfl,h1,e3⟩
 have clI:∀a,Cl c.O σ a->Cl (foO fo) (qF nt fr σ) a:=λa ha i hi e=>by
  obtain⟨j,_,hj,e2⟩:=ownI i hi _ e
  exact ha j hj e2
 refine⟨by simp[jJ,qF],λi d hd=>?_,λi hi v hv=>?_,λi j a hi hj h1 h2=>?_,⟨λa ha=>?_,λq P pos eP=>?_⟩,λb o hb hio=>?_,λb hb=>?_,λ_ h=>h,λ_ _=>rfl⟩
 ·obtain ⟨k,j,e1,e2,e3⟩:=qio hd
  subst e1
  by_cases hO:nt+k∈foO fo
  ·obtain ⟨v,hv⟩:∃v,σ[j]? = some (some v):=by
    obtain⟨v,h1,_⟩:=r.val j d e3
    exact⟨v,h1⟩
   have hc:(qF nt fr σ)[nt+k]? = some (some v):=by rw[qbL e2,hv];rfl
   obtain⟨j',f1,f2,f3⟩:=ownI _ hO v hc
   subst f1
   obtain⟨g1,g2,g3,g4⟩:=hfo
   rw[show nt+k-nt=k by omega,e2]at g3
   cases g3
   obtain⟨ds,a,xs,h1,h3,h4,h5⟩:=r.getO g1 e3
   rw[hv]at h3
   cases h3
   exact⟨.ref a,hc,.inl ⟨hO,ds,a,xs,h1,rfl,sm _ _ h4,IsL.ext (Ext.of_same sm) (λb hb hs=>⟨⟨hb,λe=>by subst e;rw[hn]at hs;cases hs⟩,clI b hb.2⟩) h5⟩⟩
  ·have hj:j ∉ c.O:=by
    cases fo with
    |none=>exact hfo j (ybt e2)
    |some p=>
     obtain⟨i',j'⟩:=p
     exact hfo.2.2.2 k j e2 (λe=>hO (by simp[foO,e]))
   obtain⟨v,h1,h2⟩:=r.get hj e3
   refine⟨v,by rw[qbL e2,h1];rfl,.inr ⟨hO,?_⟩⟩
   refine Is.ext (Ext.of_same sm) (λa ha hs=>⟨⟨ha,λe=>?_⟩,clI a ha.2⟩) h2
   subst e;rw[hn]at hs;cases hs
 ·obtain⟨j,f1,f2,f3⟩:=ownI i hi v hv
  obtain⟨a,xs,h1,h2,h3⟩:=r.own j f2 v f3
  subst h1 f1
  exact⟨a,xs,rfl,sm _ _ h2,.inr ⟨hi,.inl f3⟩⟩
 ·cases fo with
  |none=>cases hi
  |some p=>
   obtain⟨i',j'⟩:=p
   have e:i=i':=by simpa [foO,cin] using hi
   have e2:j=i':=by simpa [foO,cin] using hj
   rw[e,e2]
 ·have ha':upd H acc (.lst []) a=none:=ha
  by_cases e:a=acc
  ·subst e;rw[qz]at ha';cases ha'
  ·rw[qx e]at ha';exact⟨r.new ha',e⟩
 ·have hP:=(r.tb q P pos eP).1
  refine⟨sm _ _ hP,λz=>?_⟩
  rcases z with z|z
  ·cases fo with
   |none=>exact z
   |some p=>
    obtain⟨b,xs,e1,e2,_⟩:=r.own _ hfo.1 _ z
    cases e1
    rw[hP]at e2;cases e2
  ·rw[z,hn]at hP;cases hP
 ·exact hb
 ·exact hb
theorem Rep.leave {K:Fr0} {nt:Nat} {fr:List Nat} {fo:Option (Nat×Nat)} {acc:Addr} {ρ ρe:Env} {σ σe:St} {H H':Hp} (r:Rep K c ρ σ H) (hn:H acc=none) (hfo:qlN c nt fr fo) (hf:∀i j,fo=some (i,j)->σe[i]? = (qF nt fr σ)[i]?)
  (q:Rep K (cin (Cn c σ) H (foO fo) (qcr σ fo) acc λj=>(qF nt fr σ)[j]?) ρe σe H'):Rep K c (qlM fo ρe ρ) σ H'/\Gr c.O σ H H':=by
 have kp:∀b o,H b=some o->¬qcr σ fo b->H' b=some o:=λb o hb hio=>q.kp b o (by show upd H acc (.lst []) b=some o;rw[qx (qJ hb hn)];exact hb) λz=>z.elim hio λe=>absurd e (qJ hb hn)
 have clean:∀b,Cl c.O σ b->¬qcr σ fo b:=λb hb hio=>by
  cases fo with
  |none=>exact hio
  |some p=>exact hb p.2 hfo.1 hio
 have dom:∀b,H' b=none->H b=none:=λb hb=>by
  have:=q.dm b hb
  by_cases e:b=acc
  ·subst e;exact hn
  ·have this:upd H acc (.lst []) b=none:=this
   rw[qx e]at this;exact this
 have notT:∀b xs,H b=some (.tup xs)->¬qcr σ fo b:=λb xs hb hio=>by
  cases fo with
  |none=>exact hio
  |some p=>
   obtain⟨a,ys,e1,e2,_⟩:=r.own p.2 hfo.1 _ hio
   cases e1;rw[hb]at e2;cases e2
 have notF:∀b o u,H b=some (.frz o u)->¬qcr σ fo b:=λb o u hb hio=>by
  cases fo with
  |none=>exact hio
  |some p=>
   obtain⟨a,ys,e1,e2,_⟩:=r.own p.2 hfo.1 _ hio
   cases e1;rw[hb]at e2;cases e2
 have gr:Gr c.O σ H H':=⟨⟨λb xs hb=>kp b _ hb (notT b xs hb),λb o u hb=>kp b _ hb (notF b o u hb),λb o hc hb=>kp b o hb (clean b hc)⟩,dom⟩
 refine⟨⟨?_,λk d hd=>?_,λj hj v hv=>?_,r.inj,r.b0,λb o hb hio=>?_,λb hb=>r.dm b (dom b hb),r.pO,r.ps⟩,gr⟩
 ·cases fo with
  |none=>exact r.len
  |some p=>show(ρ.set _ _).length=_;rw[lS_];exact r.len
 ·-- an old slot,or the one that came qlM
  have oldSlot:ρ[k]? = some (some d)->(∀i,fo≠some (i,k))->∃v,σ[k]? = some (some v)/\((k∈c.O/\∃ds a xs,d=.lst ds/\v=.ref a/\H' a=some (.lst xs)/\IsL K (Cn c σ) H' ds xs)\/(k ∉ c.O/\Is K (Cn c σ) H' d v)):=λhk hne=>by
   obtain⟨v,h1,h2⟩:=r.val k d hk
   refine⟨v,h1,?_⟩
   rcases h2 with⟨hi,ds,a,xs,h3,h5,h6,h7⟩|⟨hi,h3⟩
   ·subst h5
    refine .inl ⟨hi,ds,a,xs,h3,rfl,kp a _ h6 (λhio=>?_),gr.isL h7⟩
    cases fo with
    |none=>exact hio
    |some p=>
     obtain⟨i',j'⟩:=p
     have e:=r.inj k j' a hi hfo.1 h1 hio
     exact hne i' (by rw[e])
   ·exact .inr ⟨hi,gr.is h3⟩
  cases fo with
  |none=>exact oldSlot hd (λi e=>by cases e)
  | some p=>
   obtain⟨i',j'⟩:=p
   have hd':(ρ.set j' (ρe[i']?).join)[k]? = some (some d):=hd
   by_cases e:k=j'
   ·subst e
    have hl:k<ρ.length:=by
     have:=(gI_.mp hd').1
     rwa [lS_]at this
    rw[List.getElem?_set_self hl]at hd'
    have he:ρe[i']? = some (some d):=qbq (yaw hd')
    obtain⟨ds,a,xs,h1,h3,h4,h5⟩:=q.getO (show i'∈foO (some (i',k)) by simp[foO]) he
    have h3':=hf i' k rfl
    rw[h3]at h3'
    obtain⟨k2,j2,e1,e2,e3⟩:=yh h3'.symm
    have hk2:k2=i'-nt:=by omega
    subst hk2
    rw[hfo.2.2.1]at e2
    cases e2
    exact⟨.ref a,e3,.inl ⟨hfo.1,ds,a,xs,h1,rfl,h4,IsL.ext Ext.refl (λb hb _=>hb.1.1) h5⟩⟩
   ·rw[zS e]at hd'
    exact oldSlot hd' (λi e2=>e (by cases e2;rfl))
 ·obtain ⟨a,xs,h1,h2,h3⟩:=r.own j hj v hv
  subst h1
  by_cases hio:qcr σ fo a
  ·cases fo with
   |none=>exact hio.elim
   | some p=>
    obtain⟨i',j'⟩:=p
    have hc:(qF nt fr σ)[i']? = some (some (.ref a)):=by
     have:=qbL (σ:=σ) (nt:=nt) hfo.2.2.1
     rw[show nt+(i'-nt)=i' by have:=hfo.2.1;omega]at this
     rw[this]
     have hio':σ[j']? = some (some (.ref a)):=hio
     rw[hio'];rfl
    have h3':=hf i' j' rfl
    rw[hc]at h3'
    obtain⟨a',ys,e1,e2,_⟩:=q.own i' (by simp[foO,cin]) _ h3'
    cases e1
    exact⟨a,ys,rfl,e2,h3⟩
  ·exact⟨a,xs,rfl,kp a _ h2 hio,h3⟩
 ·by_cases hio2:qcr σ fo b
  ·cases fo with
   |none=>exact hio2.elim
   |some p=>
    obtain⟨a,ys,e1,e2,e3⟩:=r.own p.2 hfo.1 _ hio2
    cases e1
    rcases e3 with e3|e3
    ·rw[hb]at e3;cases e3
    ·exact absurd e3.2 hio
  ·exact kp b o (r.kp b o hb hio) hio2
theorem zH {it elt:Expr} {ifs:List Expr} {scope:Scope} {N':List Str} {nt:Nat} {fr:List Nat} {fo:Option (Nat×Nat)} {f:M (List D)} {g:D->Env->Option Env} {t:M Bool} {k:M D} (hc:X.calm=true) (hi:DI X c tg it f) (S:jZ X scope N' nt fr)
  (hfo:qlN c nt fr fo)
  (hb:∀fp cl C s₀ H₀ pn B0 H1 Io' acc S',DG (z6 X scope N' fp cl C s₀ H₀ pn) (cin B0 H1 (foO fo) Io' acc S') tg g/\DF (z6 X scope N' fp cl C s₀ H₀ pn) (cin B0 H1 (foO fo) Io' acc S') ifs t/\DE (z6 X scope N' fp cl C s₀ H₀ pn) (cin B0 H1 (foO fo) Io' acc S') elt k)
  (hs:∀x,yb2 it X.env x=pure x:=by intro _;rfl):DE X c (.ListComp elt [⟨tg,it,ifs,0⟩] scope pos) (qZ nt fr fo f g t k):=by
 obtain⟨wi,pi,wI⟩:=hi
 refine⟨_,qjv hc pi S hs,λρ σ H Q r h=>wI ρ σ H _ r (WpI.bnd h λds ρ1 J H1 r1 iok g1 h1=>?_)⟩
 intro acc fp cl C s₀ H₀ pn hn
 obtain⟨⟨tg',pg,wg⟩,⟨tt,pt,wt⟩,⟨te,pe,we⟩⟩:=hb fp cl C s₀ H₀ pn (Cn c σ) H1 (qcr σ fo) acc λj=>(qF nt fr σ)[j]?
 refine⟨tg',tt,te,pg,pt,pe,?_⟩
 cases ew:zh g t k ds [] (jJ nt fr ρ1) with
 |exc x ρ'=>rw[ew]at h1;exact h1.elim
 |bad=>rw[ew]at h1;exact h1.elim
 | ok p =>
  rw[ew]at h1
  obtain⟨ys,ρe⟩:=p
  have h1:∀v H',Rep X.K c (qlM fo ρe ρ1) σ H'->Is X.K (Cn c σ) H' (.lst ys) v->Gr c.O σ H1 H'->Q v H':=h1
  have accO:∀j∈foO fo,(qF nt fr σ)[j]? ≠ some (some (.ref acc)):=λj hj e=>by
   have r0:=r1.entry (acc:=acc) hn hfo
   cases fo with
   |none=>cases hj
   |some p=>
    obtain⟨i',j'⟩:=p
    have e2:j=i':=by simpa [foO] using hj
    subst e2
    obtain⟨k2,j2,e1,e2,e3⟩:=yh e
    have hk2:k2=j-nt:=by omega
    subst hk2
    rw[hfo.2.2.1]at e2
    cases e2
    obtain⟨a,us,e4,e5,_⟩:=r1.own j' hfo.1 _ e3
    cases e4;rw[hn]at e5;cases e5
  refine ⟨λi m σ' H'=>m=ds.length-i/\i<=ds.length/\∃ρ' zs xs,Rep X.K (cin (Cn c σ) H1 (foO fo) (qcr σ fo) acc λj=>(qF nt fr σ)[j]?) ρ' σ' H'/\(∀j∈foO fo,σ'[j]? = (qF nt fr σ)[j]?)/\H' acc=some (.lst xs)/\IsL X.K (Cn (cin (Cn c σ) H1 (foO fo) (qcr σ fo) acc λj=>(qF nt fr σ)[j]?) σ') H' zs xs/\zh g t k (ds.drop i) zs ρ'=.ok (ys,ρe),
   ⟨ds.length,by simp,ybB _,jJ nt fr ρ1,[],[],r1.entry hn hfo,λ_ _=>rfl,qz,rfl,by simpa using ew⟩,?_⟩
  rintro i m σ' H' ⟨rfl,hi,ρ',zs,xs,r',so,ha,iz,w⟩
  obtain⟨_,gr⟩:=r1.leave hn hfo (λi j e=>so i (by rw[e];simp[foO])) r'
  have ex:Ext (CnT c σ H1) H1 H':=⟨gr.ext.tup,gr.ext.frz,λb o hb hq=>gr.ext.at_ b o hb.1.2 hq⟩
  have accC:∀τ:St,(∀j∈foO fo,τ[j]? = (qF nt fr σ)[j]?)->Cl (foO fo) τ acc:=λτ hτ j hj e=>accO j hj (by rw[<-hτ j hj];exact e)
  by_cases hlt:i<ds.length
  ·refine .inr ⟨iok.go H' i ds[i] ex (by simp[hlt]),λx H'' y=>?_⟩
   obtain⟨sm,ix⟩:=iok.yl H' i ds[i] x H'' ex (by simp[hlt]) y
   rw[qaI hlt]at w
   unfold zh at w
   have ix2:Is X.K (Cn (cin (Cn c σ) H1 (foO fo) (qcr σ fo) acc λj=>(qF nt fr σ)[j]?) σ') H'' ds[i] x:=Is.ext Ext.refl (λa ha _=>⟨⟨ha.1,λe=>by
    have:=ha.2
    rw [e,hn]at this;cases this⟩,λj hj e=>by
     rw[so j hj]at e
     cases fo with
     |none=>cases hj
     |some p=>
      obtain⟨i',j'⟩:=p
      have e2:j=i':=by simpa [foO,cin] using hj
      subst e2
      obtain⟨k2,j2,e1,e2,e3⟩:=yh e
      have hk2:k2=j-nt:=by omega
      subst hk2
      rw[hfo.2.2.1]at e2
      cases e2
      exact ha.1.2 j' hfo.1 e3⟩) ix
   cases e1:g ds[i] ρ' with
   |none=>simp only[e1]at w;cases w
   | some ρ2=>
    simp only[e1]at w
    refine wg ρ' σ' H'' ds[i] x ρ2 _ (r'.same sm) ix2 e1 λσ2 r2 g2 o2=>?_
    have so2:∀j∈foO fo,σ2[j]? = (qF nt fr σ)[j]? := λj hj=>(o2 j hj).trans (so j hj)
    have ha2:H'' acc=some (.lst xs):=sm _ _ ha
    have iz2:=g2.isL (IsL.ext (Ext.of_same sm) (λ_ h _=>h) iz)
    cases e2:t ρ2 with
    |exc x ρ3=>simp only[e2]at w;cases w
    |bad=>simp only[e2]at w;cases w
    | ok p2=>
     obtain⟨bb,ρ3⟩:=p2
     refine wt ρ2 σ2 H'' _ r2 ?_
     rw[e2]
     intro H3 r3 g3
     have ha3:H3 acc=some (.lst xs):=g3.ext.at_ _ _ (accC σ2 so2) ha2
     have iz3:=g3.isL iz2
     cases bb with
     |false=>
      rw[if_neg yaq]
      simp only[e2]at w
      exact⟨ds.length-(i+1),by omega,rfl,hlt,ρ3,zs,xs,r3,so2,ha3,iz3,w⟩
     | true=>
      rw[if_pos rfl]
      simp only[e2]at w
      cases e3:k ρ3 with
      |exc x ρ4=>simp only[e3]at w;cases w
      |bad=>simp only[e3]at w;cases w
      | ok p3=>
       obtain⟨d4,ρ4⟩:=p3
       simp only[e3]at w
       refine we ρ3 σ2 H3 _ r3 ?_
       rw[e3]
       intro y4 H4 r4 i4 g4
       have ha4:H4 acc=some (.lst xs):=g4.ext.at_ _ _ (accC σ2 so2) ha3
       have hsz:qY (zs.length+1)=true:=by
        cases e5:qY (zs.length+1) with
        |true=>rfl
        |false=>rw[e5]at w;simp at w
       rw[if_pos hsz]at w
       have hsz':zs.length+1<=yav:=of_decide_eq_true hsz
       have r5:=r4.grow (ys:=xs++[y4]) ha4 (λj hj e=>accC σ2 so2 j hj e)
       have ext5:Ext (Cn (cin (Cn c σ) H1 (foO fo) (qcr σ fo) acc λj=>(qF nt fr σ)[j]?) σ2) H4 (upd H4 acc (.lst (xs++[y4]))):=⟨λb us hb=>by rw[qx (qaU hb ha4 (by intro z;cases z))];exact hb,λb o u hb=>by rw[qx (qaU hb ha4 (by intro z;cases z))];exact hb,λb o hb hq=>by rw[qx hb.1.2];exact hq⟩
       refine⟨xs,ha4,by rw[iz3.length];omega,ds.length-(i+1),by omega,rfl,hlt,ρ4,zs++[d4],xs++[y4],r5,so2,qz,?_,w⟩
       exact IsL.append (IsL.ext ext5 (λ_ h _=>h) (g4.isL iz3)) (IsL.one (Is.ext ext5 (λ_ h _=>h) i4))
  ·have hie:i=ds.length:=by omega
   subst hie
   rw[ycH (yah _)]at w
   unfold zh at w
   cases w
   obtain⟨r6,g6⟩:=r1.leave hn hfo (λi j e=>so i (by rw[e];simp[foO])) r'
   exact .inl ⟨iok.stop H' ex,h1 _ H' r6 ⟨acc,xs,rfl,r1.new hn,ha,IsL.ext Ext.refl (λa ha hs=>ha.1.1) iz⟩ g6⟩
end
theorem Rep.io {K:Fr0} {c:Fc} {ρ:Env} {σ:St} {H H':Hp} {i:Nat} {a:Addr} {bs:List D} {xs:List V} (r:Rep K c ρ σ H) (hi:i∈c.O) (hs:σ[i]? = some (some (.ref a))) (kp:∀b o,b≠a->H b=some o->H' b=some o)
  (ha:H' a=some (.lst xs)) (him:True) (il:IsL K (Cn c σ) H' bs xs) (dm:∀b,H' b=none->H b=none):Rep K c (ρ.set i (some (.lst bs))) σ H'/\Gr c.O σ H H':=by
 obtain⟨a',xs0,e0,h0,hown⟩:=r.own i hi _ hs
 cases e0
 have gr:Gr c.O σ H H':=⟨⟨λb us hb=>kp b _ (qaU hb h0 (by intro z;cases z)) hb,λb o u hb=>kp b _ (qaU hb h0 (by intro z;cases z)) hb,λb o hc hb=>kp b o (λe=>hc i hi (by rw[hs,e])) hb⟩,dm⟩
 refine⟨⟨by rw[lS_];exact r.len,λk d hk=>?_,λj hj v hv=>?_,r.inj,r.b0,λb o hb hio=>?_,λb hb=>r.dm b (dm b hb),r.pO,r.ps⟩,gr⟩
 ·by_cases e:k=i
  ·subst e
   have hl:k<ρ.length:=by
    have:=(gI_.mp hk).1
    rwa [lS_]at this
   rw[List.getElem?_set_self hl]at hk
   cases hk
   exact⟨.ref a,hs,.inl ⟨hi,bs,a,xs,rfl,rfl,ha,il⟩⟩
  ·rw [zS e]at hk
   obtain⟨v,h1,h2⟩:=r.val k d hk
   refine⟨v,h1,?_⟩
   rcases h2 with⟨hk2,ds,b,ys,h3,h5,h6,h7⟩|⟨hk2,h3⟩
   ·subst h5
    have ne:b≠a:=λe2=>e (r.inj k i a hk2 hi (by rw[h1,e2]) hs)
    exact .inl ⟨hk2,ds,b,ys,h3,rfl,kp b _ ne h6,gr.isL h7⟩
   ·exact .inr ⟨hk2,gr.is h3⟩
 ·obtain⟨b,ys,h1,h2,h3⟩:=r.own j hj v hv
  subst h1
  by_cases e:b=a
  ·subst e;exact⟨b,xs,rfl,ha,h3⟩
  ·exact⟨b,ys,rfl,kp b _ e h2,h3⟩
 ·have ne:b≠a:=λe=>by
   subst e
   rcases hown with z|z
   ·rw[hb]at z;cases z
   ·exact hio z.2
  exact kp b o ne (r.kp b o hb hio)
def yz (i:Nat) (ρ:Env):Option (List D):=match ρ[i]? with
 |some (some (.lst ds))=>some ds
 |_=>none
theorem qjx {i:Nat} {ρ:Env} {ds:List D} (h:yz i ρ=some ds):ρ[i]? = some (some (.lst ds)):=by
 unfold yz at h
 split at h
 ·rename_i e;cases h;exact e
 ·cases h
theorem Rep.getLO {K:Fr0} {c:Fc} {ρ:Env} {σ:St} {H:Hp} (r:Rep K c ρ σ H) {i:Nat} {ds:List D} (hi:i∈c.O) (h:yz i ρ=some ds) :
  ∃a xs,True/\σ[i]? = some (some (.ref a))/\H a=some (.lst xs)/\IsL K (Cn c σ) H ds xs:=by
 obtain⟨ds',a,xs,h1,h3,h4,h5⟩:=r.getO hi (qjx h)
 cases h1
 exact⟨a,xs,trivial,h3,h4,h5⟩
theorem js{H:Hp}{a b:Addr}{o u:HO}(h:b≠a)(hb:H b=some o):upd H a u b=some o:=by rw[qx h];exact hb
theorem qgz {H:Hp} {a b:Addr} {u:HO} (h:upd H a u b=none):H b=none:=by
 by_cases e:b=a
 ·subst e;rw[qz]at h;cases h
 ·rw[qx e]at h;exact h
section
variable{X:Cx}{c:Fc}{a b e:Expr}{pos:Pos}
def jg (i:Nat) (f:M D):M D:=λρ=>match yz i ρ with
 |none => .bad
 |some _=>(bnd f λd ρ=>match yz i ρ with
  |some ds=>if imm d&&qY (ds.length+1)then .ok (.non,ρ.set i (some (.lst (ds++[d]))))else .bad
  |none => .bad) ρ
theorem qag {i:Nat} {x:Str} {p1 apos:Pos} {f:M D} (he:DE X c e f) (ho:i∈c.O:=by exact of_decide_eq_true rfl) (hN:X.N[i]? = some x:=by rfl) (hv:Vis X.env.scope x:=by first|exact yby rfl|exact ya3 (yby rfl)|exact ya3 (ya3 rfl)) (hd:(x==("__debug__":Str))=false:=by decide) (hcd:(x==("__classdict__":Str))=false:=by decide)
  (hbase:yet (.Name x p1) "append" X.env (eval (.Name x p1) X.env)=eval (.Name x p1) X.env:=by rfl)
  (hfew:((ybb pos (yam [e] X.env)).all (λx => !x.1)&&(ycs pos (ybM [] X.env)).all (λx=>x.1.isSome)
   && decide ([e].length+([]:List ycq).length+(if([]:List ycq).isEmpty then 0 else 1)<30))=true:=by rfl)
  (hline:(apos.endLine==pos.line)=true:=by rfl) (hs:yam [e] X.env=(false,eval e X.env)::yam [] X.env:=by rfl) (hplain:(ybb pos (yam [] X.env)).any (·.1)=false:=by rfl) :
  DE X c (.Call (.Attribute (.Name x p1) "append" apos) [e] [] pos) (jg i f):=by
 obtain⟨t,p,w⟩:=he
 refine⟨_,qos ydn PySem.F.slot_list_append PySem.F.type_list_append qcF (qb7 hN hv hd hcd) (wy p qdH hs) hbase hfew hline hs hplain,λρ σ H Q r h=>?_⟩
 unfold jg at h
 cases e0:yz i ρ with
 |none=>rw[e0]at h;exact h.elim
 | some ds0=>
  simp only[e0]at h
  obtain⟨l,xs0,_,hl,hH,_⟩:=r.getLO ho e0
  refine⟨.ref l,hl,.inl ⟨rfl,xs0,.inl (.inl hH)⟩,w ρ σ H _ r (Wp.bnd h λd ρ1 v H1 r1 i1 g1 h1=>?_)⟩
  cases e1:yz i ρ1 with
  |none=>simp only[e1]at h1;exact h1.elim
  | some ds=>
   simp only[e1]at h1
   by_cases hb:(imm d&&qY (ds.length+1))=true
   ·rw [if_pos hb]at h1
    rw[yan]at hb
    obtain⟨l',xs,him,hl',hH',il⟩:=r1.getLO ho e1
    rw[hl]at hl'
    cases hl'
    have hsz:ds.length+1<=yav:=of_decide_eq_true hb.2
    have ext:Ext (Cn c σ) H1 (upd H1 l (.lst (xs++[v]))):=⟨λb us hb=>js (qaU hb hH' (by intro z;cases z)) hb,λb o u hb=>js (qaU hb hH' (by intro z;cases z)) hb,λb o hb hq=>js (λe=>hb.2 i ho (by rw[hl,e])) hq⟩
    obtain ⟨r2,g2⟩:=r1.io (H':=upd H1 l (.lst (xs++[v]))) (bs:=ds++[d]) ho hl (λb o hb ho=>js hb ho) qz trivial
     (IsL.append (IsL.ext ext (λ_ h _=>h) il) (IsL.one (Is.ext ext (λ_ h _=>h) i1))) (λb hb=>qgz hb)
    exact⟨l,xs,v,rfl,rfl,hH',by rw[il.length];omega,h1 _ _ r2 rfl g2⟩
   ·rw[if_neg hb]at h1;exact h1.elim
def qlO (i:Nat) (k f:M D):MS:=sbnd f λd ρ=>match yz i ρ with
 |none => .bad
 | some _=>(sbnd k λj ρ=>match j,yz i ρ with
  |.int n,some ds=>match ixN ds.length n with
   |some q=>if imm d then .ok (.nx (ρ.set i (some (.lst (ds.set q d)))))else .bad
   |none => .bad
  |_,_ => .bad) ρ
theorem qoH {i:Nat} {x:Str} {p1 p2:Pos} {ke:Expr} {f k:M D} (he:DE X c e f) (hk:DE X c ke k) (ho:i∈c.O:=by exact of_decide_eq_true rfl) (hN:X.N[i]? = some x:=by rfl) (hv:Vis X.env.scope x:=by first|exact yby rfl|exact ya3 (yby rfl)|exact ya3 (ya3 rfl)) (hd:(x==("__debug__":Str))=false:=by decide) (hcd:(x==("__classdict__":Str))=false:=by decide)
  (ha:∀v,yc0 (.Subscript (.Name x p1) ke p2) X.env v=(do
   let ov <-ydJ [v] (eval (.Name x p1) X.env)
   let iv <-ydJ [v,ov] (eval ke X.env)
   ygp p2
   ydJ [v,ov,iv] (setItem ov iv v)
   release [v,ov,iv] []):=by intro _;rfl)
  (hs:ydz [.Subscript (.Name x p1) ke p2] e pos.line X.env=pure false:=by rfl) (hw:ydA [.Subscript (.Name x p1) ke p2] e X.env=pure none:=by rfl) (h1:(ybU [.Subscript (.Name x p1) ke p2] X.env).map (·.2)=[yc0 (.Subscript (.Name x p1) ke p2) X.env]:=by rfl) :
  DS X c (.Assign [.Subscript (.Name x p1) ke p2] e pos) (qlO i k f):=by
 obtain⟨t,p,w⟩:=he
 obtain⟨tk,pk,wk⟩:=hk
 refine⟨_,qni p (qqk (qb7 hN hv hd hcd) pk qlw ha) hs hw h1,λρ σ H D r h=>w ρ σ H _ r (Wp.sbnd h λd ρ1 v H1 r1 i1 g1 h1=>?_)⟩
 cases e0:yz i ρ1 with
 |none=>simp only[e0]at h1;exact h1.elim
 | some ds0=>
  simp only[e0]at h1
  obtain⟨l,xs0,_,hl,hH,_⟩:=r1.getLO ho e0
  refine⟨.ref l,hl,wk ρ1 σ H1 _ r1 (Wp.sbnd h1 λj ρ2 u H2 r2 i2 g2 h2=>?_)⟩
  cases j with
  | int n=>
   cases e1:yz i ρ2 with
   |none=>simp only[e1]at h2;exact h2.elim
   | some ds=>
    simp only[e1]at h2
    cases e2:ixN ds.length n with
    |none=>simp only[e2]at h2;exact h2.elim
    | some q=>
     simp only[e2]at h2
     by_cases hb:imm d=true
     ·rw [if_pos hb]at h2
      obtain⟨l',xs,him,hl',hH',il⟩:=r2.getLO ho e1
      rw[hl]at hl'
      cases hl'
      cases i2
      have i3:=g2.is i1
      have ext:Ext (Cn c σ) H2 (upd H2 l (.lst (xs.set q v))):=⟨λb us hb=>js (qaU hb hH' (by intro z;cases z)) hb,λb o u hb=>js (qaU hb hH' (by intro z;cases z)) hb,λb o hb hq=>js (λe=>hb.2 i ho (by rw[hl,e])) hq⟩
      obtain ⟨r3,g3⟩:=r2.io (H':=upd H2 l (.lst (xs.set q v))) (bs:=ds.set q d) ho hl (λb o hb ho=>js hb ho) qz trivial
       (IsL.set (Is.ext ext (λ_ h _=>h) i3) q (IsL.ext ext (λ_ h _=>h) il)) (λb hb=>qgz hb)
      exact⟨l,xs,n,q,rfl,rfl,hH',by rw[il.length];exact e2,h2 σ _ r3 g3.s⟩
     ·rw[if_neg hb]at h2;exact h2.elim
  |_=>exact h2.elim
structure qjy (K:Fr0) (c:Fc) (ρ:Env) (σ:St) (H:Hp) (a:Addr):Prop where
 val:∀i d v,ρ[i]? = some (some d)->i ∉ c.O->σ[i]? = some (some v)->Is K (λb=>Cn c σ b/\b≠a) H d v
 cont:∀i ds b xs,ρ[i]? = some (some (.lst ds))->i∈c.O->σ[i]? = some (some (.ref b))->H b=some (.lst xs)->IsL K (Cn c σ) H ds xs->IsL K (λb=>Cn c σ b/\b≠a) H ds xs
 own:∀j∈c.O,σ[j]? ≠ some (some (.ref a))
 new:c.H0 a=none
theorem Is.fresh{K:Fr0}{A:Addr->Prop}{H:Hp}{d:D}{v:V}{a:Addr}(h:Is K A H d v)(hn:H a=none):Is K (λb=>A b/\b≠a) H d v:=Is.ext Ext.refl (λb h1 h2=>⟨h1,λe=>by rw[e,hn]at h2;cases h2⟩) h
theorem Rep.apart {K:Fr0} {ρ:Env} {σ:St} {H:Hp} {a:Addr} {o:HO} (r:Rep K c ρ σ H) (hn:H a=none):qjy K c ρ σ (upd H a o) a where
 val:=λi d v h1 h2 h3=>by
  obtain⟨w,h4,h5⟩:=r.get h2 h1
  rw[h3]at h4
  cases h4
  exact Is.ext (Ext.of_same (qC hn _)) (λ_ h _=>h) (h5.fresh hn)
 cont:=λi ds b xs h1 h2 h3 h4 _=>by
  obtain⟨ds',a',ys,e1,e2,e3,e4⟩:=r.getO h2 h1
  cases e1
  rw[h3]at e2
  cases e2
  have:=qC hn o _ _ e3
  rw[h4]at this
  cases this
  exact IsL.ext (Ext.of_same (qC hn _)) (λb hb hs=>⟨hb,λe=>by rw[e,hn]at hs;cases hs⟩) e4
 own:=λj hj e=>(r.new hn).2 j hj e
 new:=r.dm a hn
theorem Rep.apart_same {K:Fr0} {ρ:Env} {σ:St} {H H':Hp} {a:Addr} (r:Rep K c ρ σ H) (hn:H a=none) (sm:yA H H'):qjy K c ρ σ H' a where
 val:=λi d v h1 h2 h3=>by
  obtain⟨w,h4,h5⟩:=r.get h2 h1
  rw[h3]at h4
  cases h4
  exact Is.ext (Ext.of_same sm) (λ_ h _=>h) (h5.fresh hn)
 cont:=λi ds b xs h1 h2 h3 h4 _=>by
  obtain⟨ds',a',ys,e1,e2,e3,e4⟩:=r.getO h2 h1
  cases e1
  rw[h3]at e2
  cases e2
  have:=sm _ _ e3
  rw[h4]at this
  cases this
  exact IsL.ext (Ext.of_same sm) (λb hb hs=>⟨hb,λe=>by rw[e,hn]at hs;cases hs⟩) e4
 own:=λj hj e=>(r.new hn).2 j hj e
 new:=r.dm a hn
def WpN (K:Fr0) (c:Fc) (σ:St) (H:Hp) (Q:VK):R (List D×Env)->Prop
 |.ok (ds,ρ)=>∀a xs H',H a=none->Rep K c ρ σ H'->qjy K c ρ σ H' a->H' a=some (.lst xs)->True->IsL K (λb=>Cn c σ b/\b≠a) H' ds xs->Gr c.O σ H H'->Q (.ref a) H'
 |.exc x ρ=>∀H',Rep K c ρ σ H'->Gr c.O σ H H'->c.E x H'
 |.bad=>False
def DN(X:Cx)(c:Fc)(e:Expr)(f:M (List D)):Prop:=∃t,PE X e t/\∀ρ σ H Q,Rep X.K c ρ σ H->WpN X.K c σ H Q (f ρ)->t σ H Q
theorem WpN.gr {K:Fr0} {σ:St} {H H1:Hp} {Q:VK}:∀{r:R (List D×Env)},WpN K c σ H Q r->Gr c.O σ H H1->WpN K c σ H1 Q r
 |.ok (d,ρ),h,g=>λa xs H' hn h1 h2 h3 h4 h5 hg=>h a xs H' (g.dom a hn) h1 h2 h3 h4 h5 (g.trans hg)
 |.exc x ρ,h,g=>λH' hr hg=>h H' hr (g.trans hg)
 |.bad,h,_=>h
theorem WpL.bndN {K:Fr0} {σ:St} {H:Hp} {Q:VK} {f:M (List D)} {k:List D->M (List D)} {ρ:Env} {Q':List V->Hp->Prop} (h:WpN K c σ H Q (Sk.bnd f k ρ)) (hQ:∀d ρ' v H',Rep K c ρ' σ H'->IsL K (Cn c σ) H' d v->Gr c.O σ H H'->WpN K c σ H' Q (k d ρ')->Q' v H'):WpL K c σ H Q' (f ρ):=by
 unfold Sk.bnd at h
 cases e:f ρ with
 |ok p=>rw[e]at h;exact λv H' hr hi hg=>hQ p.1 p.2 v H' hr hi hg (h.gr hg)
 |exc x ρ'=>rw[e]at h;exact h
 |bad=>rw[e]at h;exact h
def qnA(f:M (List D)):M (List D):=bnd f λds=>lift (if immL ds&&qY ds.length then some ds else none)
theorem qfs {es:List Expr} {f:M (List D)} (h:DA X c es f):DN X c (.List es pos) (qnA f):=by
 obtain⟨t,p,w⟩:=h
 refine⟨_,qjf p,λρ σ H Q r h=>w ρ σ H _ r (WpL.bndN h λds ρ1 vs H1 r1 i1 g1 h1=>?_)⟩
 by_cases hb:(immL ds&&qY ds.length)=true
 ·rw[if_pos hb]at h1
  rw[yan]at hb
  refine⟨by rw[i1.length];exact of_decide_eq_true hb.2,λp hp=>?_⟩
  exact h1 p vs _ hp (r1.laid hp _) (r1.apart hp) qz trivial (IsL.ext (Ext.of_same (qC hp _)) (λb h hs=>⟨h,λe=>by rw[e,hp]at hs;cases hs⟩) i1) (.of_same (qC hp _))
 ·rw[if_neg hb]at h1;exact h1.elim
theorem Cl.setO {O:List Nat} {σ:St} {i:Nat} {a b:Addr} (h:Cl O σ b) (hb:b≠a):Cl O (σ.set i (some (.ref a))) b:=λj hj e=>by
 by_cases hji:j=i
 ·subst hji
  have hl:j<σ.length:=by
   have:=(gI_.mp e).1
   rwa [lS_]at this
  rw[List.getElem?_set_self hl]at e
  cases e
  exact hb rfl
 ·rw[zS hji]at e
  exact h j hj e
theorem Rep.setO {K:Fr0} {ρ:Env} {σ:St} {H:Hp} {i:Nat} {a:Addr} {ds:List D} {xs:List V} (r:Rep K c ρ σ H) (hi:i∈c.O) (hP:i ∉ c.P) (ap:qjy K c ρ σ H a) (ha:H a=some (.lst xs)) (him:True) (il:IsL K (λb=>Cn c σ b/\b≠a) H ds xs) :
  Rep K c (ρ.set i (some (.lst ds))) (σ.set i (some (.ref a))) H where
 len:=by rw[lS_,lS_];exact r.len
 val := λj e hj=>by
  by_cases e1:j=i
  ·subst e1
   have hl:j<ρ.length:=by
    have:=(gI_.mp hj).1
    rwa [lS_]at this
   rw[List.getElem?_set_self hl]at hj
   cases hj
   exact⟨.ref a,List.getElem?_set_self (by rw[<-r.len];exact hl),.inl ⟨hi,ds,a,xs,rfl,rfl,ha,IsL.ext Ext.refl (λb hb _=>⟨hb.1.1,hb.1.2.setO hb.2⟩) il⟩⟩
  ·rw [zS e1]at hj
   obtain⟨w,h1,h2⟩:=r.val j e hj
   refine⟨w,by rw[zS e1];exact h1,?_⟩
   rcases h2 with⟨g1,ds',b',xs',g3,g5,g6,g7⟩|⟨h3,h4⟩
   ·subst g3 g5
    exact .inl ⟨g1,ds',b',xs',rfl,rfl,g6,IsL.ext Ext.refl (λb hb _=>⟨hb.1.1,hb.1.2.setO hb.2⟩) (ap.cont j ds' b' xs' hj g1 h1 g6 g7)⟩
   ·exact .inr ⟨h3,Is.ext Ext.refl (λb hb _=>⟨hb.1.1,hb.1.2.setO hb.2⟩) (ap.val j e w hj h3 h1)⟩
 own := λj hj w h=>by
  by_cases e1:j=i
  ·subst e1
   have hl:j<σ.length:=by
    have:=(gI_.mp h).1
    rwa [lS_]at this
   rw[List.getElem?_set_self hl]at h
   cases h
   exact⟨a,xs,rfl,ha,.inl ap.new⟩
  ·rw[zS e1]at h
   exact r.own j hj w h
 inj := λj k b hj hk h1 h2=>by
  by_cases e1:j=i
  ·by_cases e2:k=i
   ·rw[e1,e2]
   ·subst e1
    have hl:j<σ.length:=by
     have:=(gI_.mp h1).1
     rwa [lS_]at this
    rw[List.getElem?_set_self hl]at h1
    cases h1
    rw[zS e2]at h2
    exact absurd h2 (ap.own k hk)
  ·by_cases e2:k=i
   ·subst e2
    have hl:k<σ.length:=by
     have:=(gI_.mp h2).1
     rwa [lS_]at this
    rw[List.getElem?_set_self hl]at h2
    cases h2
    rw[zS e1]at h1
    exact absurd h1 (ap.own j hj)
   ·rw[zS e1]at h1
    rw[zS e2]at h2
    exact r.inj j k b hj hk h1 h2
 b0:=r.b0
 kp:=r.kp
 dm:=r.dm
 pO:=r.pO
 ps:=λj hj=>by
  have e:j≠i:=λe=>hP (e▸hj)
  rw[zS e];exact r.ps j hj
def qah(i:Nat)(f:M (List D)):MS:=sbnd f λds ρ => .ok (.nx (ρ.set i (some (.lst ds))))
theorem qai {i:Nat} {x:Str} {pos':Pos} {f:M (List D)} (hN:X.N.Nodup) (he:DN X c e f) (ho:i∈c.O:=by exact of_decide_eq_true rfl) (hP:i ∉ c.P:=by exact of_decide_eq_false rfl) (hi:X.N[i]? = some x:=by rfl) (hx:Loc X.env.scope x:=by first|exact yby rfl|exact ya3 rfl) (hs:ydK e (some (.Name x pos')) pos.line X.env=pure false:=by rfl) (hf:X.fn x=true\/X.env.scope.names.lookup x=some .local:=by first|exact .inl rfl|exact .inr rfl|assumption) :
  DS X c (.Assign [.Name x pos'] e pos) (qah i f):=by
 obtain⟨t,p,w⟩:=he
 refine⟨_,qnj hN hi hx p hs hf,λρ σ H D r h=>w ρ σ H _ r ?_⟩
 unfold qah sbnd at h
 cases ef:f ρ with
 |bad=>rw[ef]at h;exact h
 |exc z ρ'=>rw[ef]at h;exact λH' hr hg=>h σ H' hr hg.s
 |ok q=>
  rw[ef]at h
  intro a xs H' hn r' ap ha him il g'
  exact h _ H' (r'.setO ho hP ap ha him il) ⟨g'.ext,λb hb hs=>hb.setO (λe=>by rw[e,hn]at hs;exact absurd hs (by simp)),g'.dom⟩
def qgA (i:Nat):M D:=λρ=>match yz i ρ with
 |some ds => .ok (.tup ds,ρ)
 |none => .bad
theorem qgB {i:Nat} {x:Str} {p p1:Pos} (hg:Gl X "tuple") (hm:X.mg "tuple"=none) (hb:yaF "tuple"=some (.type "tuple"):=by first|rfl|exact PySem.boot_tuple) (ho:i∈c.O:=by exact of_decide_eq_true rfl) (hN:X.N[i]? = some x:=by rfl) (hv:Vis X.env.scope x:=by first|exact yby rfl|exact ya3 (yby rfl)|exact ya3 (ya3 rfl)) (hd:(x==("__debug__":Str))=false:=by decide) (hcd:(x==("__classdict__":Str))=false:=by decide) :
  DE X c (.Call (.Name "tuple" p) [.Name x p1] [] pos) (qgA i):=by
 refine⟨_,qfc qbk hg hm hb (wy (qb7 hN hv hd hcd) qdH),λρ σ H Q r h=>?_⟩
 unfold qgA at h
 cases e0:yz i ρ with
 |none=>simp only[e0]at h;exact h.elim
 |some ds=>
  simp only[e0]at h
  obtain⟨l,xs,him,hl,hH,il⟩:=r.getLO ho e0
  refine⟨.ref l,hl,l,xs,rfl,.inl ⟨.inl (.inl hH),λp hp=>h _ _ (r.laid hp _) ⟨p,xs,rfl,.inl qz,?_⟩ (.of_same (qC hp _))⟩⟩
  exact IsL.ext (Ext.of_same (qC hp _)) (λ_ h _=>h) il
def qce (i:Nat) (g:M D):M D:=λρ=>match yz i ρ with
 |none => .bad
 | some _=>(bnd g λk ρ=>match k,yz i ρ with
  |.int n,some ds=>match atI ds n with
   |some d => .ok (d,ρ)
   |none => .bad
  |_,_ => .bad) ρ
theorem qft {i:Nat} {x:Str} {p1:Pos} {g:M D} (hb:DE X c b g) (hs:qgs b:=by intro _ _;rfl) (ho:i∈c.O:=by exact of_decide_eq_true rfl) (hN:X.N[i]? = some x:=by rfl) (hv:Vis X.env.scope x:=by first|exact yby rfl|exact ya3 (yby rfl)|exact ya3 (ya3 rfl)) (hd:(x==("__debug__":Str))=false:=by decide) (hcd:(x==("__classdict__":Str))=false:=by decide) :
  DE X c (.Subscript (.Name x p1) b pos) (qce i g):=by
 obtain⟨tb,pb,wb⟩:=hb
 refine⟨_,qqD qjl (qb7 hN hv hd hcd) pb hs,λρ σ H Q r h=>?_⟩
 unfold qce at h
 cases e0:yz i ρ with
 |none=>simp only[e0]at h;exact h.elim
 | some ds0=>
  simp only[e0]at h
  obtain⟨l,xs0,_,hl,hH,_⟩:=r.getLO ho e0
  refine⟨.ref l,hl,wb ρ σ H _ r (Wp.bnd h λk ρ1 v H1 r1 i1 g1 h1=>?_)⟩
  cases k with
  | int n=>
   cases e1:yz i ρ1 with
   |none=>simp only[e1]at h1;exact h1.elim
   | some ds=>
    simp only[e1]at h1
    cases e2:atI ds n with
    |none=>simp only[e2]at h1;exact h1.elim
    |some d=>
     simp only[e2]at h1
     obtain⟨l',xs,him,hl',hH',il⟩:=r1.getLO ho e1
     rw[hl]at hl'
     cases hl'
     cases i1
     obtain⟨w,h3,h4⟩:=il.atI e2
     exact⟨l,xs,n,w,rfl,rfl,.inl (.inl hH'),h3,h1 w H1 r1 h4 .refl⟩
  |_=>exact h1.elim
def qjz (i:Nat):MS:=λρ=>match yz i ρ with
 |some ds => .ok (.rt (.lst ds) ρ)
 |none => .bad
theorem qgC {i:Nat} {x:Str} {p1:Pos} (ho:i∈c.O:=by exact of_decide_eq_true rfl) (hP:i ∉ c.P:=by exact of_decide_eq_false rfl) (hN:X.N[i]? = some x:=by rfl) (hv:Vis X.env.scope x:=by first|exact yby rfl|exact ya3 (yby rfl)|exact ya3 (ya3 rfl)) (hd:(x==("__debug__":Str))=false:=by decide) (hcd:(x==("__classdict__":Str))=false:=by decide) :
  DS X c (.Return (some (.Name x p1)) pos) (qjz i):=by
 refine⟨_,qnh (qb7 hN hv hd hcd),λρ σ H D r h=>?_⟩
 unfold qjz at h
 cases e0:yz i ρ with
 |none=>simp only[e0]at h;exact h.elim
 | some ds=>
  simp only[e0]at h
  obtain⟨l,xs,him,hl,hH,il⟩:=r.getLO ho e0
  obtain⟨a,ys,e1,e2,e3⟩:=r.own i ho _ hl
  cases e1
  have hB:c.B l:=by
   rcases e3 with z|z
   ·exact r.b0.1 l z
   ·exact absurd z.1 hP
  exact⟨.ref l,hl,h (.ref l) σ H r ⟨l,xs,rfl,hB,hH,IsL.ext Ext.refl (λ_ h _=>h.1) il⟩ .refl⟩
end
def cfn (O P:List Nat) (A:Addr->Prop) (H:Hp) (Io:Addr->Prop) (E:Exn->Hp->Prop) (S:Nat->Option (Option V)):Fc where
 O:=O
 P:=P
 B:=λa=>A a\/H a=none
 H0:=H
 Io:=Io
 E:=E
 S:=S
def qaW(n:Nat)(ds:List D):Env:=ds.map some++yap (n-ds.length) none
def spD (K:Fr0) (F:List D->R D):Sp:=λvs H Q _=>∃ds A,IsL K A H ds vs/\qjo K H/\match F ds with
 |.ok d=>∀v H',yA H H'->Is K (λa=>A a\/H a=none) H' d v->Q v H'
 |_=>False
def qlf (K:Fr0) (F:List D->List D->R (D×List D)):Sp:=λvs H Q _=>∃(bs ds:List D)(A:Addr->Prop)(a:Addr)(xs vs':List V),vs=.ref a::vs'/\H a=some (.lst xs)/\qjo K H/\IsL K A H bs xs/\¬A a/\IsL K A H ds vs'/\match F bs ds with
 |.ok (d,bs')=>∀v H' xs',(∀b o,b≠a->H b=some o->H' b=some o)->(∀b,H' b=none->H b=none)->H' a=some (.lst xs')->True->IsL K (λb=>A b\/H b=none) H' bs' xs'->Is K (λb=>A b\/H b=none) H' d v->Q v H'
 |_=>False
def dfn (n p:Nat) (body:MS) (ds:List D):R D:=if ds.length=p then match body (qaW n ds) with
 |.ok (.rt d _) => .ok d
 |.ok (.nx _) => .ok .non
 |_ => .bad else .bad
def qcP (n p:Nat) (body:MS) (bs ds:List D):R (D×List D):=if ds.length+1=p then match body (qaW n (.lst bs::ds)) with
 |.ok (.rt d ρ)=>match yz 0 ρ with
  |some bs' => .ok (d,bs')
  |none => .bad
 |.ok (.nx ρ)=>match yz 0 ρ with
  |some bs' => .ok (.non,bs')
  |none => .bad
 |_ => .bad else .bad
theorem qbr {N:List Str} {vs:List V} {i:Nat} {v:V} (h:(yU N vs)[i]? = some (some v)):vs[i]? = some v:=by
 unfold yU at h
 by_cases hi:i<vs.length
 ·rw[List.getElem?_append_left (by simpa using hi),gM_]at h
  cases e:vs[i]? with
  |none=>rw[e]at h;cases h
  |some w=>rw[e]at h;cases h;rfl
 ·rw[List.getElem?_append_right (by simpa using hi),List.getElem?_replicate]at h
  split at h<;>cases h
theorem qcs {N:List Str} {vs:List V} {i:Nat} {v:V} (h:vs[i]? = some v):(yU N vs)[i]? = some (some v):=by
 unfold yU
 have hi:i<vs.length:=(gI_.mp h).1
 rw[List.getElem?_append_left (by simpa using hi),gM_,h];rfl
theorem qfu {n:Nat} {ds:List D} {i:Nat} {d:D} (h:(qaW n ds)[i]? = some (some d)):ds[i]? = some d:=by
 unfold qaW at h
 by_cases hi:i<ds.length
 ·rw[List.getElem?_append_left (by simpa using hi),gM_]at h
  cases e:ds[i]? with
  |none=>rw[e]at h;cases h
  |some w=>rw[e]at h;cases h;rfl
 ·rw[List.getElem?_append_right (by simpa using hi),List.getElem?_replicate]at h
  split at h<;>cases h
theorem qjA {K:Fr0} {N:List Str} {O:List Nat} {A:Addr->Prop} {H:Hp} {E:Exn->Hp->Prop} {ds:List D} {vs:List V} (il:IsL K A H ds vs) (tb:qjo K H) (hO:∀i∈O,ds.length<=i) :
  Rep K (cfn O [] A H (λ_=>False) E λ_=>none) (qaW N.length ds) (yU N vs) H where
 len:=by unfold qaW yU;simp[il.length]
 val:=λi d h=>by
  have h1:=qfu h
  obtain⟨v,h2,h3⟩:=il.get h1
  have hi:i ∉ O:=λz=>by
   have:=(gI_.mp h1).1
   have:=hO i z
   omega
  refine⟨v,qcs h2,.inr ⟨hi,Is.ext Ext.refl (λa ha _=>⟨.inl ha,λj hj e=>?_⟩) h3⟩⟩
  have:=(gI_.mp (qbr e)).1
  have:=hO j hj
  rw[il.length]at *
  omega
 own:=λj hj v h=>by
  have:=(gI_.mp (qbr h)).1
  have:=hO j hj
  rw[il.length]at *
  omega
 inj:=λi j a hi hj h1 h2=>by
  have:=(gI_.mp (qbr h1)).1
  have:=hO i hi
  rw[il.length]at *
  omega
 b0:=⟨λa h => .inr h,tb⟩
 kp:=λb o h _=>h
 dm:=λb h=>h
 pO:=λj hj=>by cases hj
 ps:=λj hj=>by cases hj
section
variable{P:yar}{w:World}{K:yas}{mg:Str->Option Value}{base:Heap}
theorem qs {x qual:Str} {st:Stmt} {f:Addr} {fd:ybn} {N ps:List Str} {k:Nat} {O:List Nat} {body:MS} (F:Fun K x qual st f fd) (S:qm N ps (qd st)) (hO:∀i∈O,ps.length<=i)
  (hb:∀(cdv:Value)(A:yau)(outer:List ydO)(s:yab)(H:Hp)(E:XK)(B:Addr->Prop),qac k (A.deeper (ydt qual (qd st) s.heap.objs.size f cdv)) ->
   DSs (qnn CX0 P w K mg base N qual (qd st) f cdv A outer s H E).nox (cfn O [] B H (λ_=>False) (λ_ _=>False) λ_=>none) (ql st) body) :
  qe5 P w K mg base CX0 (k+1) f fd ps (spD K (dfn N.length ps.length body)):=by
 refine F.ok S (λvs H Q E h=>?_) (λcdv A outer s H vs Q E hr h=>?_)
 ·obtain⟨ds,B,il,_,h⟩:=h
  unfold dfn at h
  by_cases e:ds.length=ps.length
  ·rw[il.length];exact e
  ·rw[if_neg e]at h;exact h.elim
 ·obtain ⟨ds,B,il,tb,h⟩:=h
  obtain⟨t,p,wt⟩:=hb cdv A outer s H E B hr
  refine⟨t,p,?_⟩
  unfold dfn at h
  by_cases e:ds.length=ps.length
  ·rw [if_pos e]at h
   refine wt (qaW N.length ds) (yU N vs) H _ (qjA il tb (λi hi=>by rw[e];exact hO i hi)) ?_
   have same:∀{ρ:Env}{σ:St}{H':Hp},Rep K (cfn O [] B H (λ_=>False) (λ_ _=>False) λ_=>none) ρ σ H'->yA H H':=λr b o hb=>r.kp b o hb λz=>z
   cases eb:body (qaW N.length ds) with
   |bad=>rw[eb]at h;exact h.elim
   |exc z ρ=>rw[eb]at h;exact h.elim
   |ok fl=>
    rw[eb]at h
    cases fl with
    |nx ρ=>exact λσ' H' r' _=>h .non H' (same r') rfl
    |rt d ρ=>exact λv σ' H' r' i' _=>h v H' (same r') i'
    |bk ρ=>exact h.elim
    |ct ρ=>exact h.elim
  ·rw[if_neg e]at h;exact h.elim
theorem qoI {x qual:Str} {st:Stmt} {f:Addr} {fd:ybn} {N ps:List Str} {k:Nat} {O:List Nat} {body:MS} (F:Fun K x qual st f fd) (S:qm N ps (qd st)) (hO:∀i∈O,i=0\/ps.length<=i) (h0:0∈O)
  (hb:∀(cdv:Value)(A:yau)(outer:List ydO)(s:yab)(H:Hp)(E:XK)(B Io:Addr->Prop)(S:Nat->Option (Option V)),qac k (A.deeper (ydt qual (qd st) s.heap.objs.size f cdv)) ->
   DSs (qnn CX0 P w K mg base N qual (qd st) f cdv A outer s H E).nox (cfn O [0] B H Io (λ_ _=>False) S) (ql st) body) :
  qe5 P w K mg base CX0 (k+1) f fd ps (qlf K (qcP N.length ps.length body)):=by
 refine F.ok S (λvs H Q E h=>?_) (λcdv A outer s H vs Q E hr h=>?_)
 ·obtain⟨bs,ds,B,a,xs,vs',rfl,ha,him,ib,nA,il,h⟩:=h
  unfold qcP at h
  by_cases e:ds.length+1=ps.length
  ·rw[lC_,il.length];exact e
  ·rw[if_neg e]at h;exact h.elim
 ·obtain ⟨bs,ds,B,a,xs,vs',rfl,ha,him,ib,nA,il,h⟩:=h
  obtain⟨t,p,wt⟩:=hb cdv A outer s H E B (λb=>b=a) (λj=>(yU N (.ref a::vs'))[j]?) hr
  refine⟨t,p,?_⟩
  unfold qcP at h
  by_cases e:ds.length+1=ps.length
  ·rw [if_pos e]at h
   have only:∀j∈O,∀v,(yU N (.ref a::vs'))[j]? = some (some v)->j=0/\v=.ref a:=λj hj v hv=>by
    have h1:=qbr hv
    rcases hO j hj with z|z
    ·subst z;cases h1;exact⟨rfl,rfl⟩
    ·have:=(gI_.mp h1).1
     rw[lC_,il.length]at this
     omega
   have r0:Rep K (cfn O [0] B H (λb=>b=a) (λ_ _=>False) λj=>(yU N (.ref a::vs'))[j]?) (qaW N.length (.lst bs::ds)) (yU N (.ref a::vs')) H:=by
    refine⟨by unfold qaW yU;simp[il.length],λi d hd=>?_,λj hj v hv=>?_,λi j b hi hj h1 h2=>?_,⟨λb hb => .inr hb,λq P pos eP=>⟨(him q P pos eP).1,λz=>by have:=(him q P pos eP).1;rw[z,ha]at this;cases this⟩⟩,λb o hb _=>hb,λb hb=>hb,λj hj=>?_,λ_ _=>rfl⟩
    ·have h1:=qfu hd
     cases i with
     |zero=>
      cases h1
      exact⟨.ref a,qcs rfl,.inl ⟨h0,bs,a,xs,rfl,rfl,ha,IsL.ext Ext.refl (λb hb _=>⟨.inl hb,λj hj e2=>by obtain⟨_,e3⟩:=only j hj _ e2;cases e3;exact nA hb⟩) ib⟩⟩
     | succ i=>
      have h1':ds[i]? = some d:=by simpa using h1
      obtain⟨v,h2,h3⟩:=il.get h1'
      have hi:i+1 ∉ O:=λz=>by
       have h4:=(gI_.mp h1').1
       rcases hO _ z with q|q
       ·cases q
       ·omega
      refine⟨v,qcs (by simpa using h2),.inr ⟨hi,Is.ext Ext.refl (λb hb _=>⟨.inl hb,λj hj e2=>?_⟩) h3⟩⟩
      obtain⟨_,e3⟩:=only j hj _ e2
      cases e3
      exact nA hb
    ·obtain⟨rfl,rfl⟩:=only j hj v hv
     exact⟨a,xs,rfl,ha,.inr ⟨by simp[cfn],rfl⟩⟩
    ·rw[(only i hi _ h1).1,(only j hj _ h2).1]
    ·have:j=0:=by simpa [cfn] using hj
     rw[this];exact h0
   refine wt _ _ H _ r0 ?_
   have fin:∀{ρ:Env}{σ:St}{H':Hp}{bs':List D},Rep K (cfn O [0] B H (λb=>b=a) (λ_ _=>False) λj=>(yU N (.ref a::vs'))[j]?) ρ σ H'->yz 0 ρ=some bs' ->
     ∃xs',H' a=some (.lst xs')/\True/\IsL K (λb=>B b\/H b=none) H' bs' xs':=λ{ρ σ H' bs'} r e1=>by
    obtain⟨l,ys,h1,h2,h3,h4⟩:=r.getLO h0 e1
    have h5:=r.ps 0 (by simp[cfn])
    have h6:(cfn O [0] B H (λb=>b=a) (λ_ _=>False) λj=>(yU N (.ref a::vs'))[j]?).S 0=some (some (.ref a)):=qcs rfl
    rw[h2,h6]at h5
    cases h5
    exact⟨ys,h3,h1,IsL.ext Ext.refl (λb hb _=>hb.1) h4⟩
   have kps:∀{ρ:Env}{σ:St}{H':Hp},Rep K (cfn O [0] B H (λb=>b=a) (λ_ _=>False) λj=>(yU N (.ref a::vs'))[j]?) ρ σ H'->∀b o,b≠a->H b=some o->H' b=some o:=λr b o hb ho=>r.kp b o ho hb
   cases eb:body (qaW N.length (.lst bs::ds)) with
   |bad=>rw[eb]at h;exact h.elim
   |exc z ρ=>rw[eb]at h;exact h.elim
   | ok fl=>
    rw[eb]at h
    cases fl with
    | nx ρ=>
     cases eg:yz 0 ρ with
     |none=>simp only[eg]at h
     | some bs'=>
      simp only[eg]at h
      exact λσ' H' r' _=>by
       obtain⟨xs',h1,h2,h3⟩:=fin r' eg
       exact h .non H' xs' (kps r') (λb hb=>r'.dm b hb) h1 h2 h3 rfl
    | rt d ρ=>
     cases eg:yz 0 ρ with
     |none=>simp only[eg]at h
     | some bs'=>
      simp only[eg]at h
      exact λv σ' H' r' i' _=>by
       obtain⟨xs',h1,h2,h3⟩:=fin r' eg
       exact h v H' xs' (kps r') (λb hb=>r'.dm b hb) h1 h2 h3 i'
    |bk ρ=>exact h.elim
    |ct ρ=>exact h.elim
  ·rw[if_neg e]at h;exact h.elim
end
section
variable{X:Cx}{c:Fc}{a b e:Expr}{pos:Pos}
def qg (F:List D->R D) (g:M (List D)):M D:=bnd g λds ρ=>match F ds with
 |.ok d => .ok (d,ρ)
 |_ => .bad
theorem qoJ {k:Nat} {f:Addr} {fd:ybn} {ps:List Str} {F:List D->R D} {x:Str} {p:Pos} {es:List Expr} {g:M (List D)} (G:qe5 X.prog X.w X.K X.mg X.base CX0 k f fd ps (spD X.K F)) (hr:qac k X.A) (hg:Gl X x) (hm:X.mg x=some (.ref f)) (hk:yai X.K (.ref f)=true) (hb:qd7 X.K fd ps [])
  (ha:DA X c (e::es) g) (hd:(x==("__debug__":Str))=false:=by decide) (he:yam (e::es) X.env=(false,eval e X.env)::yam es X.env:=by rfl) (hpl:(ybb pos (yam es X.env)).any (·.1)=false:=by rfl):DE X c (.Call (.Name x p) (e::es) [] pos) (qg F g):=by
 obtain⟨t,pa,w⟩:=ha
 refine⟨_,qgr G hr hg hm hk hb .nil qov pa hd he hpl,λρ σ H Q r h=>w ρ σ H _ r (WpL.bnd h λds ρ1 vs H1 r1 i1 g1 h1=>?_)⟩
 rw[yaR]
 refine⟨ds,Cn c σ,i1,r1.tb,?_⟩
 cases ef:F ds with
 |bad=>simp only[ef]at h1;exact h1.elim
 |exc z ρ'=>simp only[ef]at h1;exact h1.elim
 |ok d=>
  simp only[ef]at h1
  exact λv H' sm i=>h1 v H' (r1.same sm) (Is.ext Ext.refl (λa ha _=>ha.elim id r1.new) i) (.of_same sm)
def qD (F:List D->List D->R (D×List D)) (i:Nat) (g:M (List D)):M D:=λρ=>match yz i ρ with
 |none => .bad
 | some _=>(bnd g λds ρ=>match yz i ρ with
  |none => .bad
  |some bs=>match F bs ds with
   |.ok (d,bs') => .ok (d,ρ.set i (some (.lst bs')))
   |_ => .bad) ρ
theorem qjB {k i:Nat} {f:Addr} {fd:ybn} {ps:List Str} {F:List D->List D->R (D×List D)} {x y:Str} {p p1:Pos} {es:List Expr} {g:M (List D)} (G:qe5 X.prog X.w X.K X.mg X.base CX0 k f fd ps (qlf X.K F)) (hr:qac k X.A) (hg:Gl X x) (hm:X.mg x=some (.ref f)) (hk:yai X.K (.ref f)=true) (hb:qd7 X.K fd ps [])
  (ha:DA X c es g) (ho:i∈c.O:=by exact of_decide_eq_true rfl) (hN:X.N[i]? = some y:=by rfl) (hv:Vis X.env.scope y:=by first|exact yby rfl|exact ya3 (yby rfl)|exact ya3 (ya3 rfl)) (hdy:(y==("__debug__":Str))=false:=by decide) (hcd:(y==("__classdict__":Str))=false:=by decide)
  (hd:(x==("__debug__":Str))=false:=by decide) (he:yam (.Name y p1::es) X.env=(false,eval (.Name y p1) X.env)::yam es X.env:=by rfl) (hpl:(ybb pos (yam es X.env)).any (·.1)=false:=by rfl):DE X c (.Call (.Name x p) (.Name y p1::es) [] pos) (qD F i g):=by
 obtain⟨t,pa,w⟩:=ha
 refine⟨_,qgr G hr hg hm hk hb .nil qov (wy (qb7 hN hv hdy hcd) pa he) hd he hpl,λρ σ H Q r h=>?_⟩
 unfold qD at h
 cases e0:yz i ρ with
 |none=>simp only[e0]at h;exact h.elim
 | some ds0=>
  simp only[e0]at h
  obtain⟨l,xs0,_,hl,hH,_⟩:=r.getLO ho e0
  refine⟨.ref l,hl,w ρ σ H _ r (WpL.bnd h λds ρ1 vs H1 r1 i1 g1 h1=>?_)⟩
  show qlf X.K F (.ref l::vs++[]) H1 Q E0
  rw[yaR]
  cases e1:yz i ρ1 with
  |none=>simp only[e1]at h1;exact h1.elim
  | some bs=>
   simp only[e1]at h1
   obtain⟨l',xs,him,hl',hH',il⟩:=r1.getLO ho e1
   rw[hl]at hl'
   cases hl'
   refine⟨bs,ds,Cn c σ,l,xs,vs,rfl,hH',r1.tb,il,λhc=>hc.2 i ho hl,i1,?_⟩
   cases ef:F bs ds with
   |bad=>simp only[ef]at h1;exact h1.elim
   |exc z ρ'=>simp only[ef]at h1;exact h1.elim
   |ok q=>
    obtain⟨d,bs'⟩:=q
    simp only[ef]at h1
    intro v H' xs' kp dm ha2 him2 il2 i2
    obtain⟨r2,g2⟩:=r1.io (bs:=bs') ho hl kp ha2 him2 (IsL.ext Ext.refl (λa ha _=>ha.elim id r1.new) il2) dm
    exact h1 v H' r2 (Is.ext Ext.refl (λa ha _=>ha.elim id r1.new) i2) g2
end
def qlP:Key->PyData
 |.inl i => .int i
 |.inr x => .str x
mutual
def yQ:D->PyData
 |.non => .none
 |.bl b => .bool b
 |.int i => .int i
 |.str x => .str x
 |.tup ds => .tuple (toPDs ds)
 |.lst ds => .list (toPDs ds)
 |.dic kvs => .dict (kvs.map λp=>(qlP p.1,.int p.2))
 |.fz ns => .list (ns.map .int)
 |.exc _ => .dict [(.int (2 ^ 2000),.none)]
def toPDs:List D->List PyData
 | []=>[]
 |d::ds=>yQ d::toPDs ds
end
mutual
def noL:D->Bool
 |.tup ds=>noLs ds
 |.lst _=>false
 |.fz _=>false
 |_=>true
def noLs:List D->Bool
 | []=>true
 |d::ds=>noL d&&noLs ds
end
mutual
def noX:D->Bool
 |.tup ds=>noXs ds
 |.lst ds=>noXs ds
 |.exc _=>false
 |_=>true
def noXs:List D->Bool
 | []=>true
 |d::ds=>noX d&&noXs ds
end
mutual
theorem qjC:∀{d:D},(yQ d).canLay0=true->noX d=true
 |.non,_=>rfl
 |.bl _,_=>rfl
 |.int _,_=>rfl
 |.str _,_=>rfl
 |.tup ds,h=>by unfold noX;exact noXs_lay (by simpa [yQ,ybo] using h)
 |.lst ds,h=>by unfold noX;exact noXs_lay (by simpa [yQ,ybo] using h)
 |.dic _,_=>rfl
 |.fz _,_=>rfl
 |.exc _,h=>by simp[yQ,ybo]at h
theorem noXs_lay:∀{ds:List D},ybk (toPDs ds)=true->noXs ds=true
 | [],_=>rfl
 |d::ds,h=>by
  have h':(yQ d).canLay0=true/\ybk (toPDs ds)=true:=by simpa [toPDs,ybk] using h
  unfold noXs
  rw[qjC h'.1,noXs_lay h'.2];rfl
end
theorem qbs {h:Heap}:∀{ns:List Int}{us:List Value},zT (ns.map V.int) us->∃as,ygO h us (ns.map .int) as
 | [],us,r=>by
  rw[ycO]at r;cases r;exact⟨[],.nil⟩
 | n::ns,us,r=>by
  rw[mC_]at r
  cases r with
  |cons r1 r2=>
   obtain⟨t,e⟩:=r1
   subst e
   obtain⟨as,q⟩:=qbs (ns:=ns) r2
   exact⟨[]++as,.cons (.int n t) q⟩
theorem qgD{α:Type}{x:α}{l l':List α}(h1:x ∉ l)(h2:x ∉ l'):x ∉ l++l':=λh=>(mA_.mp h).elim h1 h2
theorem qcQ {P:yar} {w:World} {h:Heap}:∀{kvs:List (Key×Int)}{es:List DictEntry}{vs:List (Key×Value)},KV (kvs.map λp=>(p.1,V.int p.2)) vs->Pairs (qd5 P w) es vs ->
  ygO h (es.map (·.key)) ((kvs.map λp=>(qlP p.1,PyData.int p.2)).map (·.1)) []/\ygO h (es.map (·.val)) ((kvs.map λp=>(qlP p.1,PyData.int p.2)).map (·.2)) []
 | [],es,vs,r,p=>by
  have r':KV ([]:List (Key×V)) vs:=r
  unfold KV at r'
  cases r'
  cases p
  exact⟨.nil,.nil⟩
 | (k,i)::kvs,es,vs,r,p=>by
  have r':KV ((k,V.int i)::kvs.map λp=>(p.1,V.int p.2)) vs:=r
  unfold KV at r'
  cases r' with
  | cons r1 r2=>
   cases p with
   | cons p1 p2 p3=>
    obtain⟨q1,q2⟩:=qcQ (h:=h) (kvs:=kvs) r2 p3
    obtain⟨e1,t,e2⟩:=r1
    have hk:∀{e:DictEntry}{kv:Key×Value},k=kv.1->(qd5 P w).is kv.1 e.key=true->Reads h e.key (qlP k) []:=λ{e kv} hk hi=>by
     subst hk
     rcases zX hi with⟨i,t,e1,e2⟩|⟨x,t,e1,e2⟩
     ·rw[e1,e2];exact .int i t
     ·rw[e1,e2];exact .str x t
    refine⟨.cons (as:=[]) (bs:=[]) (hk e1 p1) q1,.cons (as:=[]) (bs:=[]) ?_ q2⟩
    show Reads h _ (.int i) []
    dsimp only
    rw[p2,e2]
    exact .int i t
section
variable{X:Cx}{pins:List (Addr×Obj)}{σ:St}{H:Hp}{s:yab}{A:Addr->Prop}
mutual
theorem yC (I:Inv X pins σ H s):∀{d:D}{v:V}{u:Value},noX d=true->Is X.K A H d v->uk v u->∃as,Reads s.heap u (yQ d) as/\(noL d=true->yeI ∉ as)
 |.non,_,_,_,h,r=>by cases h;cases r;exact⟨[],.none,by simp⟩
 |.bl b,_,_,_,h,r=>by cases h;cases r;exact⟨[],.bool b,by simp⟩
 |.int i,_,_,_,h,r=>by cases h;obtain⟨t,rfl⟩:=r;exact⟨[],.int i t,by simp⟩
 |.str x,_,_,_,h,r=>by cases h;obtain⟨t,rfl⟩:=r;exact⟨[],.str x t,by simp⟩
 |.tup ds,_,_,nx,⟨a,xs,hv,ta,il⟩,r=>by
  subst hv
  cases r
  obtain⟨its,rv,p,_⟩:=I.tuple ta.sq
  obtain⟨o,h1,h2,n,h3⟩:=p
  obtain⟨as,q,nl⟩:=readsL_of I (by simpa [noX] using nx) il rv
  exact⟨as,.tuple h1 h2 h3 (by simpa using q),λz=>nl (by simpa [noL] using z)⟩
 |.lst ds,_,_,nx,⟨a,xs,hv,_,ta,il⟩,r=>by
  subst hv
  cases r
  obtain⟨its,rv,p,_⟩:=I.list (SqL.of ta)
  obtain⟨o,h1,h2,n,h3⟩:=p.isList
  obtain⟨as,q,nl⟩:=readsL_of I (by simpa [noX] using nx) il rv
  exact⟨a::as,.list h1 h2 h3 (by simpa using q),λz=>by simp[noL]at z⟩
 |.dic kvs,_,_,_,⟨a,hv,_,ta⟩,r=>by
  subst hv
  cases r
  obtain⟨hz,hS,vs,rk,o,es,ep,h1,h2,h3,h4,h5,h6⟩:=(show u7 X.prog X.w H s.heap a (.dK _)from I.hok a _ ta)
  obtain⟨q1,q2⟩:=qcQ (h:=s.heap) rk h5
  refine⟨_,Reads.dict (as:=[]) (bs:=[]) h1 h2.1 h3 q1 q2,λ_ hm=>?_⟩
  have:yeI=a:=by simpa using hm
  rw[<-this]at hS
  simp at hS
 |.exc _,_,_,nx,_,_=>by simp[noX]at nx
 |.fz ns,_,_,_,⟨a,hv,ta⟩,r=>by
  subst hv
  cases r
  obtain⟨its,rv,p,_⟩:=I.list ta.sq
  obtain⟨o,h1,h2,n,h3⟩:=p.isList
  obtain⟨as,q⟩:=qbs rv
  exact⟨a::as,.list h1 h2 h3 (by simpa using q),λz=>by simp[noL]at z⟩
theorem readsL_of (I:Inv X pins σ H s):∀{ds:List D}{xs:List V}{us:List Value},noXs ds=true->IsL X.K A H ds xs->zT xs us->∃as,ygO s.heap us (toPDs ds) as/\(noLs ds=true->yeI ∉ as)
 | [],_,_,_,h,r=>by cases h;cases r;exact⟨[],.nil,by simp⟩
 | d :: ds,_,_,nx,⟨x,ys,hx,h1,h2⟩,r=>by
  subst hx
  cases r with
  | cons r1 r2=>
   have nx':noX d=true/\noXs ds=true:=by simpa [noXs] using nx
   obtain⟨as,q1,n1⟩:=yC I nx'.1 h1 r1
   obtain⟨bs,q2,n2⟩:=readsL_of I nx'.2 h2 r2
   exact ⟨as++bs,.cons q1 q2,λz=>by
    have z':noL d=true/\noLs ds=true:=by simpa [noLs] using z
    exact qgD (n1 z'.1) (n2 z'.2)⟩
end
end
def qa8(d:D):Bool:=(yQ d).canLay0&&decide ((yQ d).depth<=50)
def qnB(K:Fr0)(neg:Bool):R2:=λx y H Q=>∃d e A,Is K A H d x/\Is K A H e y/\qa8 d=true/\qa8 e=true/\Q (.bl (if neg then !yaZ (yQ d) (yQ e)else yaZ (yQ d) (yQ e))) H
section
variable{X:Cx}
theorem qeg {d:D} (h:qa8 d=true):SeqAt.shaped (yQ d)=true:=by
 unfold qa8 at h
 unfold SeqAt.shaped
 simp only[yan,decide_eq_true_eq]at h |-
 exact⟨h.1,by omega⟩
theorem qaZ {d:D} (h:qa8 d=true):noX d=true:=by
 unfold qa8 at h
 rw[yan]at h
 exact qjC h.1
theorem qqW {k:Nat} (hr:qac k X.A):OpR X (yaL .Eq) (qnB X.K false):=by
 intro pins s σ H x y v u Q I rx ry h
 obtain⟨d,e,A,h1,h2,o1,o2,q⟩:=h
 obtain⟨as,r1,_⟩:=yC I (qaZ o1) h1 rx
 obtain⟨bs,r2,_⟩:=yC I (qaZ o2) h2 ry
 exact SeqAt.compareEq_shaped r1 r2 (qeg o1) (qeg o2) hr.units ⟨.bl _,H,I,rfl,by simpa using q⟩
theorem qqX {k:Nat} (hr:qac k X.A):OpR X (yaL .NotEq) (qnB X.K true):=by
 intro pins s σ H x y v u Q I rx ry h
 obtain⟨d,e,A,h1,h2,o1,o2,q⟩:=h
 obtain⟨as,r1,_⟩:=yC I (qaZ o1) h1 rx
 obtain⟨bs,r2,_⟩:=yC I (qaZ o2) h2 ry
 exact SeqAt.compareNe_shaped r1 r2 (qeg o1) (qeg o2) hr.units ⟨.bl _,H,I,rfl,by simpa using q⟩
end
def eqA(x y:D):OD:=if qa8 x&&qa8 y then some (.bl (yaZ (yQ x) (yQ y)))else none
def neA(x y:D):OD:=if qa8 x&&qa8 y then some (.bl (!yaZ (yQ x) (yQ y)))else none
theorem qoK {K:Fr0}:OpS K eqA (qnB K false):=by
 intro A H x y d v u Q hn ix iy e k
 obtain⟨e1,e2⟩:=jI e
 rw[yan]at e1
 subst e2
 exact⟨x,y,A,ix,iy,e1.1,e1.2,k _ H (yA.refl H) rfl⟩
theorem qoL {K:Fr0}:OpS K neA (qnB K true):=by
 intro A H x y d v u Q hn ix iy e k
 obtain⟨e1,e2⟩:=jI e
 rw[yan]at e1
 subst e2
 exact⟨x,y,A,ix,iy,e1.1,e1.2,k _ H (yA.refl H) rfl⟩
section
variable{prog:yar}{w:World}{A:yau}{E:Value->yab->Prop}{s:yab}
theorem qoM {it tu:Addr} {k:Nat} {arr:Array Value} {x:Value} {Q:Value->yab->Prop} (hI:s.heap.IsTupleIter it tu k) (hT:s.heap.IsTuple tu arr) (hx:arr[k]? = some x)
  (q:∀h',h'.IsTupleIter it tu (k+1)->ybK it s.heap h'->Q x {s with heap:=h' }):wpAny (model prog w) A (ya5 (.ref it)) Q E s:=by
 obtain⟨ob,e1,e2,e3⟩:=id hI
 obtain⟨ot,f1,_,m,f2⟩:=hT
 unfold ya5
 refine yaa (wpAny_callSpecial?_slot (name:=ybd "__next__") hI.typeIs yci (yaH yci hI.typeIs yel ?_ (yeb _)))
 show wpAny (model prog w) _ (field (yat it) 0 >>= _) _ _ s
 refine yaa (yaV e1 e3 (x:=yat tu) rfl ?_)
 show wpAny (model prog w) _ (if(yat tu==yaM)=true then _ else _) _ _ s
 rw[if_neg (show ¬((yat tu==yaM)=true)from yaq)]
 show wpAny (model prog w) _ (field (yat it) 1 >>= _) _ _ s
 refine yaa (yaV e1 e3 (x:=yej k 0) rfl ?_)
 show wpAny (model prog w) _ (seqItems? (yat tu) >>= _) _ _ s
 refine yaa (yaE f1 f2 ?_)
 simp only[ybj,hx]
 refine yaa (yb7 e1 e3 (by simp) (yac ⟨x,rfl,yac (q _ ?_ (yaQ ..))⟩))
 exact⟨_,Heap.get?_update_self _ e1 (yfB (yc9 e3 _)),(ygx ..).trans e2,by rw[yc9 e3];simp[ybm]⟩
theorem qoN {it tu:Addr} {k:Nat} {arr:Array Value} {Q:Value->yab->Prop} (hh:A.handled=none) (hI:s.heap.IsTupleIter it tu k) (hT:s.heap.IsTuple tu arr) (hx:arr[k]? = none)
  (q:∀h' e,Heap.ExtBut it s.heap h'->(∃o,h'.get? e=some o/\o.cls=.type "StopIteration")->E (.ref e) {s with heap:=h' }):wpAny (model prog w) A (ya5 (.ref it)) Q E s:=by
 obtain⟨ob,e1,e2,e3⟩:=id hI
 obtain⟨ot,f1,_,m,f2⟩:=hT
 unfold ya5
 refine yaa (wpAny_callSpecial?_slot (name:=ybd "__next__") hI.typeIs yci (yaH yci hI.typeIs yel ?_ (yeb _)))
 show wpAny (model prog w) _ (field (yat it) 0 >>= _) _ _ s
 refine yaa (yaV e1 e3 (x:=yat tu) rfl ?_)
 show wpAny (model prog w) _ (if(yat tu==yaM)=true then _ else _) _ _ s
 rw[if_neg (show ¬((yat tu==yaM)=true)from yaq)]
 show wpAny (model prog w) _ (field (yat it) 1 >>= _) _ _ s
 refine yaa (yaV e1 e3 (x:=yej k 0) rfl ?_)
 show wpAny (model prog w) _ (seqItems? (yat tu) >>= _) _ _ s
 refine yaa (yaE f1 f2 ?_)
 simp only[ybj,hx]
 refine yaa (yca (yaa (yb7 e1 e3 (by simp) ?_)))
 show wpAny (model prog w) _ (ygg (ycB "StopIteration") [] >>= _) _ _ _
 refine yaa ?_
 simp only[ygg,newTuple]
 refine yaa (yay ?_ (by size_fits))
 refine yaa (m:=ycP _ _) (ybC (a:=yaM) (by first|rfl|(simp only[ycP];rfl)) ?_)
 refine yay ?_ (by size_fits)
 simp only[ygP]
 refine yaa (yfU ?_)
 first|rw[show A.in1.handled=none from hh]|rw[hh]
 exact yaa (yac (ygL (q _ _ (((yaQ ..).extBut.push _).push _) ⟨_,Heap.get?_push_size _ rfl,rfl⟩)))
end
theorem qaJ {prog:yar} {w:World} {A:yau} (hh:A.handled=none) (it tu:Addr) (hne:tu≠it) (arr:Array Value) :
  Draws prog w A it [it,tu] arr.size (λi x=>arr[i]? = some x) (λi h=>h.IsTupleIter it tu i/\h.IsTuple tu arr) where
 live:=λi h st=>by obtain⟨⟨o,e,_⟩,_⟩:=st;exact⟨o,e⟩
 frame:=λi h h' st k=>by
  obtain⟨h1,o,e,r⟩:=st
  exact⟨h1.at λo q=>k it (by simp) o q,o,k tu (by simp) o e,r⟩
 item:=λi s Q E hi st q=>qoM st.1 st.2 (Array.getElem?_eq_getElem hi) λh' h1 sb=>q _ h' s.toks (Array.getElem?_eq_getElem hi) ⟨h1,by
  obtain⟨o,e,r⟩:=st.2
  exact⟨o,sb.extBut _ _ hne e,r⟩⟩ sb
 done:=λs Q E st q=>qoN hh st.1 st.2 (Array.getElem?_eq_none (yah _)) q
structure ZAp (z TI TO i1 i2:Addr) (fp1 fp2:List Addr):Prop where
 zTI:z≠TI
 zTO:z≠TO
 zi1:z≠i1
 zi2:z≠i2
 IO:TI≠TO
 Ii1:TI≠i1
 Ii2:TI≠i2
 Oi1:TO≠i1
 Oi2:TO≠i2
 ii:i1≠i2
 z1:z ∉ fp1
 z2:z ∉ fp2
 O1:TO ∉ fp1
 O2:TO ∉ fp2
 i21:i2 ∉ fp1
 i12:i1 ∉ fp2
section
variable{prog:yar}{w:World}{A:yau}{E:Value->yab->Prop}{s:yab}{z TI TO i1 i2:Addr}{fp1 fp2:List Addr}{n1 n2 k:Nat}{P1 P2:Nat->Value->Prop}{S1 S2:Nat->Heap->Prop}
theorem uI{fp:List Addr}{a:Addr}{h h':Heap}(sb:ybK a h h')(ha:a ∉ fp):∀b∈fp,∀o,h.get? b=some o->h'.get? b=some o:=λb hb o e=>sb.extBut _ _ (λq=>ha (q▸hb)) e
theorem qqY (D1:Draws prog w A i1 fp1 n1 P1 S1) (D2:Draws prog w A i2 fp2 n2 P2 S2) (ap:ZAp z TI TO i1 i2 fp1 fp2) {p q:Value} (zz:IsZip s.heap z TI TO .none) (zI:ycv s.heap TI (.ref i1) (.ref i2)) (zO:ycv s.heap TO p q)
  (t1:S1 k s.heap) (t2:S2 k s.heap) (l1:k<n1) (l2:k<n2) {Q:Value->yab->Prop}
  (fin:∀x y h' tk,P1 k x->P2 k y->IsZip h' z TI TO (ybm s.heap.objs.size)->ycv h' TO x y->S1 (k+1) h'->S2 (k+1) h'->ycv h' s.heap.objs.size x y ->
   (∀c o,c≠z->c≠TO->c≠i1->c≠i2->s.heap.get? c=some o->h'.get? c=some o)->Q (.ref s.heap.objs.size) {s with heap:=h',toks:=tk}) :
  wpAny (model prog w) A (yaX.«zip.__next__» ⟨[.ref z],[]⟩) (λr s'=>∃v,r=.done (.ret v)/\Q v s') E s:=by
 show wpAny (model prog w) A (field (yat z) 2 >>= _) _ _ _
 refine yaa (yaV zz rfl (x:=ydf false) rfl ?_)
 show wpAny (model prog w) A (field (yat z) 3 >>= _) _ _ _
 refine yaa (yaV zz rfl (x:=yat TI) rfl (yaa (yaE zI rfl ?_)))
 show wpAny (model prog w) A (ybD (yat z) >>= _) _ _ _
 refine yaa ?_
 unfold ybD
 refine yaa (yaV zz rfl (x:=yaM) rfl (yac ?_))
 simp only[if_true]
 refine yaa (yca (yaa (yaV zz rfl (x:=yat TO) rfl (yaa (ybq zz (by simp) λh1 zz1 b1=>?_)))))
 replace zz1:IsZip h1 z TI TO .ellipsis:=zz1
 refine yaa ?_
 simp only[List.zipIdx_cons,List.zipIdx_nil,yfe,List.forIn_nil]
 refine yaa (yaa (yev ?_))
 show wpAny (model prog w) A (ya5 (yat i1) >>= _) _ _ _
 refine yaa (D1.item k _ _ _ l1 (D1.frame _ _ _ t1 (uI b1 ap.z1)) λx h2 tk2 px u1 b2=>yac ?_)
 have zO2:ycv h2 TO p q:=b2.extBut _ _ ap.Oi1 (b1.extBut _ _ ap.zTO.symm zO)
 refine yaa (yaE zO2 rfl (yaa (yd1 zO2 λh3 zO3 b3=>?_)))
 replace zO3:ycv h3 TO x q:=zO3
 refine yaa (ybp (yac (yaa (yaa (yev ?_)))))
 show wpAny (model prog w) A (ya5 (yat i2) >>= _) _ _ _
 have t2':S2 k h3:=D2.frame _ _ _ (D2.frame _ _ _ (D2.frame _ _ _ t2 (uI b1 ap.z2)) (uI b2 ap.i12)) (uI b3 ap.O2)
 refine yaa (D2.item k _ _ _ l2 t2' λy h4 tk4 py u2 b4=>yac ?_)
 have zO4:ycv h4 TO x q:=b4.extBut _ _ ap.Oi2 zO3
 refine yaa (yaE zO4 rfl (yaa (yd1 zO4 λh5 zO5 b5=>?_)))
 replace zO5:ycv h5 TO x y:=zO5
 refine yaa (ybp (yac (yac (yaa (yaE zO5 rfl (yaa (wpAny_newTuple ?_)))))))
 have sz:h5.objs.size=s.heap.objs.size:=by rw[b5.1,b4.1,b3.1,b2.1,b1.1]
 have zz5:IsZip h5 z TI TO .ellipsis:=b5.extBut _ _ ap.zTO (b4.extBut _ _ ap.zi2 (b3.extBut _ _ ap.zTO (b2.extBut _ _ ap.zi1 zz1)))
 have keep5:∀c o,c≠z->c≠TO->c≠i1->c≠i2->s.heap.get? c=some o->h5.get? c=some o:=λc o c1 c2 c3 c4 e=>b5.extBut _ _ c2 (b4.extBut _ _ c4 (b3.extBut _ _ c2 (b2.extBut _ _ c3 (b1.extBut _ _ c1 e))))
 have v1:S1 (k+1) h5:=D1.frame _ _ _ (D1.frame _ _ _ (D1.frame _ _ _ u1 (uI b3 ap.O1)) (uI b4 ap.i21)) (uI b5 ap.O1)
 have v2:S2 (k+1) h5:=D2.frame _ _ _ u2 (uI b5 ap.O2)
 have lz:z<h5.objs.size:=yae zz5
 show wpAny (model prog w) A (yda (yat z) (yat h5.objs.size) >>= _) _ _ _
 refine yaa ?_
 unfold yda
 have zz6:IsZip (h5.push {cls:=.type "tuple",data:=.seq #[x,y]}) z TI TO .ellipsis:=Heap.get?_push_of_some _ zz5
 refine yaa (ybq zz6 (by simp) λh7 zz7 b7=>?_)
 replace zz7:IsZip h7 z TI TO (ybm h5.objs.size):=zz7
 refine ybq zz7 (by simp) λh8 zz8 b8=>?_
 replace zz8:IsZip h8 z TI TO (ybm h5.objs.size):=zz8
 have up:∀c o,c≠z->h5.get? c=some o->h8.get? c=some o:=λc o c1 e=>b8.extBut _ _ c1 (b7.extBut _ _ c1 (Heap.get?_push_of_some _ e))
 have new8:ycv h8 h5.objs.size x y:=b8.extBut _ _ (ybL lz) (b7.extBut _ _ (ybL lz) (Heap.get?_push_size _ rfl))
 rw[sz]at zz8 new8
 refine yac ⟨_,rfl,?_⟩
 show Q (yat h5.objs.size) _
 rw[sz]
 exact fin x y h8 tk4 px py zz8 (up _ _ ap.zTO.symm zO5) (D1.frame _ _ _ v1 λb hb o e=>up b o (λq=>ap.z1 (q▸hb)) e) (D2.frame _ _ _ v2 λb hb o e=>up b o (λq=>ap.z2 (q▸hb)) e) new8 λc o c1 c2 c3 c4 e=>up c o c1 (keep5 c o c1 c2 c3 c4 e)
theorem qlQ (hh:A.handled=none) (D1:Draws prog w A i1 fp1 n1 P1 S1) (D2:Draws prog w A i2 fp2 n2 P2 S2) (ap:ZAp z TI TO i1 i2 fp1 fp2) {p q:Value} (zz:IsZip s.heap z TI TO .none) (zI:ycv s.heap TI (.ref i1) (.ref i2)) (zO:ycv s.heap TO p q)
  (t1:S1 k s.heap) (t2:S2 k s.heap) (hk:k=min n1 n2) {Q:Fin->yab->Prop}
  (fin:∀h' tk e,(∀c o,c≠z->c≠TO->c≠i1->c≠i2->s.heap.get? c=some o->h'.get? c=some o)->(∃o,h'.get? e=some o/\o.cls=.type "StopIteration")->E (.ref e) {s with heap:=h',toks:=tk}) :
  wpAny (model prog w) A (yaX.«zip.__next__» ⟨[.ref z],[]⟩) Q E s:=by
 show wpAny (model prog w) A (field (yat z) 2 >>= _) _ _ _
 refine yaa (yaV zz rfl (x:=ydf false) rfl ?_)
 show wpAny (model prog w) A (field (yat z) 3 >>= _) _ _ _
 refine yaa (yaV zz rfl (x:=yat TI) rfl (yaa (yaE zI rfl ?_)))
 show wpAny (model prog w) A (ybD (yat z) >>= _) _ _ _
 refine yaa ?_
 unfold ybD
 refine yaa (yaV zz rfl (x:=yaM) rfl (yac ?_))
 simp only[if_true]
 refine yaa (yca (yaa (yaV zz rfl (x:=yat TO) rfl (yaa (ybq zz (by simp) λh1 zz1 b1=>?_)))))
 replace zz1:IsZip h1 z TI TO .ellipsis:=zz1
 refine yaa ?_
 simp only[List.zipIdx_cons,List.zipIdx_nil,yfe,List.forIn_nil]
 refine yaa (yaa (yev ?_))
 show wpAny (model prog w) A (ya5 (yat i1) >>= _) _ _ _
 have t1':S1 k h1:=D1.frame _ _ _ t1 (uI b1 ap.z1)
 by_cases h12:n1<=n2
 ·have e1:k=n1:=by rw[hk];exact yd2 h12
  rw[e1]at t1'
  refine yaa (D1.done _ _ _ t1' λh2 e b2 he=>?_)
  obtain⟨oe,f1,f2⟩:=he
  have zz2:IsZip h2 z TI TO .ellipsis:=b2 _ _ ap.zi1 zz1
  have ez:e≠z:=λx=>by subst x;rw[zz2]at f1;cases f1;simp at f2
  refine ybq zz2 (by simp) λh3 _ b3=>?_
  exact fin h3 s.toks e (λc o c1 _ c3 _ x=>b3.extBut _ _ c1 (b2 _ _ c3 (b1.extBut _ _ c1 x))) ⟨oe,b3.extBut _ _ ez f1,f2⟩
 ·have e1:k=n2:=by rw[hk];exact Nat.min_eq_right (by omega)
  refine yaa (D1.item k _ _ _ (by omega) t1' λx h2 tk2 px u1 b2=>yac ?_)
  have zO2:ycv h2 TO p q:=b2.extBut _ _ ap.Oi1 (b1.extBut _ _ ap.zTO.symm zO)
  refine yaa (yaE zO2 rfl (yaa (yd1 zO2 λh3 zO3 b3=>?_)))
  refine yaa (ybp (yac (yaa (yaa (yev ?_)))))
  show wpAny (model prog w) A (ya5 (yat i2) >>= _) _ _ _
  have t2':S2 k h3:=D2.frame _ _ _ (D2.frame _ _ _ (D2.frame _ _ _ t2 (uI b1 ap.z2)) (uI b2 ap.i12)) (uI b3 ap.O2)
  rw[e1]at t2'
  refine yaa (D2.done _ _ _ t2' λh4 e b4 he=>?_)
  obtain⟨oe,f1,f2⟩:=he
  have zz4:IsZip h4 z TI TO .ellipsis:=b4 _ _ ap.zi2 (b3.extBut _ _ ap.zTO (b2.extBut _ _ ap.zi1 zz1))
  have ez:e≠z:=λx=>by subst x;rw[zz4]at f1;cases f1;simp at f2
  refine ybq zz4 (by simp) λh5 _ b5=>?_
  exact fin h5 tk2 e (λc o c1 c2 c3 c4 x=>b5.extBut _ _ c1 (b4 _ _ c4 (b3.extBut _ _ c2 (b2.extBut _ _ c3 (b1.extBut _ _ c1 x))))) ⟨oe,b5.extBut _ _ ez f1,f2⟩
theorem qlR {l1 l2:Addr} {xs ys:Array Value} {Q:Value->yab->Prop} (t1:s.heap.IsTuple l1 xs) (t2:s.heap.IsTuple l2 ys)
  (fin:∀h',IsZip h' (s.heap.objs.size+4) (s.heap.objs.size+2) (s.heap.objs.size+3) .none->ycv h' (s.heap.objs.size+2) (.ref s.heap.objs.size) (.ref (s.heap.objs.size+1))->ycv h' (s.heap.objs.size+3) .none .none ->
   h'.IsTupleIter s.heap.objs.size l1 0->h'.IsTupleIter (s.heap.objs.size+1) l2 0->(∀c o,s.heap.get? c=some o->h'.get? c=some o)->Q (.ref (s.heap.objs.size+4)) {s with heap:=h' }) :
  wpAny (model prog w) A (call (.type "zip") [.ref l1,.ref l2]) Q E s:=by
 have meets:Meets (yaX.«zip.__new__» ⟨[.type "zip",.ref l1,.ref l2],[]⟩) (λ_ R s=>s.heap.IsTuple l1 xs/\s.heap.IsTuple l2 ys /\
   R (.ok (.ret (.ref (s.heap.objs.size+4)))) {s with heap:=((((s.heap.push {cls:=.type "tuple_iterator",data:=.fields #[.ref l1,.int 0 0]}).push {cls:=.type "tuple_iterator",data:=.fields #[.ref l2,.int 0 0]}).push {cls:=.type "tuple",data:=.seq #[.ref s.heap.objs.size,.ref (s.heap.objs.size+1)]}).push {cls:=.type "tuple",data:=.seq #[.none,.none]}).push {cls:=.type "zip",data:=.fields #[.none,.bool false,.bool false,.ref (s.heap.objs.size+2),.ref (s.heap.objs.size+3)]} }) :=
  .of_wp λprog w A R s h=>by
   obtain⟨hp,g,d,tk,os⟩:=s
   obtain⟨ha,hb,h⟩:=h
   have hsub:=sub_zip
   have hA:yeV (yei ⟨hp,g,d,tk,os⟩) l1 xs:=ha
   have hB:yeV (yei ⟨hp.push {cls:=.type "tuple_iterator",data:=.fields #[.ref l1,.int 0 0]},g,d,tk,os⟩) l2 ys:=by
    obtain⟨o,e,r⟩:=hb
    exact⟨o,Heap.get?_push_of_some _ e,r⟩
   wp_walk using ycb hA,ycb hB
   simp only[yaN]at *
   exact⟨_,rfl,h⟩
 refine yeW F.called_zip (by decide) (F.typeCall_zip_2 _ _) (F.newCall_zip_2 _ _) (λobj=>F.args_object_init_3 obj _ _) F.entry_zip_new meets ⟨t1,t2,?_⟩
 generalize e1:s.heap.push {cls:=.type "tuple_iterator",data:=.fields #[.ref l1,.int 0 0]}=m1
 have s1:m1.objs.size=s.heap.objs.size+1:=by rw[<-e1,yaN]
 have q1:m1.get? s.heap.objs.size=some {cls:=.type "tuple_iterator",data:=.fields #[.ref l1,.int 0 0]}:=by rw[<-e1];exact Heap.get?_push_size _ rfl
 have k1:∀c o,s.heap.get? c=some o->m1.get? c=some o:=λc o x=>by rw[<-e1];exact Heap.get?_push_of_some _ x
 generalize e2:m1.push {cls:=.type "tuple_iterator",data:=.fields #[.ref l2,.int 0 0]}=m2
 have s2:m2.objs.size=s.heap.objs.size+2:=by rw[<-e2,yaN,s1]
 have q2:m2.get? (s.heap.objs.size+1)=some {cls:=.type "tuple_iterator",data:=.fields #[.ref l2,.int 0 0]}:=by rw[<-e2,<-s1];exact Heap.get?_push_size _ rfl
 have k2:∀c o,m1.get? c=some o->m2.get? c=some o:=λc o x=>by rw[<-e2];exact Heap.get?_push_of_some _ x
 generalize e3:m2.push {cls:=.type "tuple",data:=.seq #[.ref s.heap.objs.size,.ref (s.heap.objs.size+1)]}=m3
 have s3:m3.objs.size=s.heap.objs.size+3:=by rw[<-e3,yaN,s2]
 have q3:m3.get? (s.heap.objs.size+2)=some {cls:=.type "tuple",data:=.seq #[.ref s.heap.objs.size,.ref (s.heap.objs.size+1)]}:=by rw[<-e3,<-s2];exact Heap.get?_push_size _ rfl
 have k3:∀c o,m2.get? c=some o->m3.get? c=some o:=λc o x=>by rw[<-e3];exact Heap.get?_push_of_some _ x
 generalize e4:m3.push {cls:=.type "tuple",data:=.seq #[.none,.none]}=m4
 have s4:m4.objs.size=s.heap.objs.size+4:=by rw[<-e4,yaN,s3]
 have q4:m4.get? (s.heap.objs.size+3)=some {cls:=.type "tuple",data:=.seq #[.none,.none]}:=by rw[<-e4,<-s3];exact Heap.get?_push_size _ rfl
 have k4:∀c o,m3.get? c=some o->m4.get? c=some o:=λc o x=>by rw[<-e4];exact Heap.get?_push_of_some _ x
 generalize e5:m4.push {cls:=.type "zip",data:=.fields #[.none,.bool false,.bool false,.ref (s.heap.objs.size+2),.ref (s.heap.objs.size+3)]}=m5
 have q5:m5.get? (s.heap.objs.size+4)=some {cls:=.type "zip",data:=.fields #[.none,.bool false,.bool false,.ref (s.heap.objs.size+2),.ref (s.heap.objs.size+3)]}:=by rw[<-e5,<-s4];exact Heap.get?_push_size _ rfl
 have k5:∀c o,m4.get? c=some o->m5.get? c=some o:=λc o x=>by rw[<-e5];exact Heap.get?_push_of_some _ x
 show _/\_
 exact⟨⟨_,q5,rfl⟩,fin m5 q5 (k5 _ _ (k4 _ _ q3)) (k5 _ _ q4) ⟨_,k5 _ _ (k4 _ _ (k3 _ _ (k2 _ _ q1))),rfl,rfl⟩ ⟨_,k5 _ _ (k4 _ _ (k3 _ _ q2)),rfl,rfl⟩ λc o x=>k5 _ _ (k4 _ _ (k3 _ _ (k2 _ _ (k1 _ _ x))))⟩
end
section
variable{X:Cx}{pins:List (Addr×Obj)}{σ:St}{H:Hp}{s:yab}{h':Heap}
theorem qgE {ch:List Addr} {T:Addr} {o:HO} {t':Nat} (I:Inv X pins σ H s) (k:∀b u,b ∉ ch->s.heap.get? b=some u->h'.get? b=some u) (hf:∀b∈ch,qhe X pins H b) (hT:s.heap.objs.size<=T) (new:u7 X.prog X.w (upd H T o) h' T o) :
  Inv X pins σ (upd H T o) {s with heap:=h',toks:=t' }:=by
 have hn:H T=none:=I.hok.fresh hT
 have nch:∀b u,H b=some u->b ∉ ch:=λb u e z=>by rw[(hf b z).1]at e;cases e
 refine I.step (g':=s.gens) (d':=s.drawn) (ch:=ch) (λb hb=>⟨(hf b hb).2.2.2.1,(hf b hb).2.1,(hf b hb).2.2.2.2.1,(hf b hb).2.2.2.2.2⟩) (λb u _ _ hc e _=>k b u hc e) (λb u _ _ hc e _=>⟨u.slots,k b u hc e⟩) (λb u hc e n=>?_)
  (λb u hc e=>⟨u,k b u hc e⟩) (λb xs e=>by rw[qx (qJ e hn)];exact e) (λb u xs e=>by rw[qx (qJ e hn)];exact e) (λb ps y e=>by rw[qx (qJ e hn)];exact e) (λm hm=>?_) (λb u e=>?_) I.bare
 ·rw[qx (yao (yaA (yae e) hT))];exact n
 ·obtain⟨ob,es,ep,ho,r⟩:=hm
  exact⟨ob,es,ep,k _ ob (λz=>(hf _ z).2.1 rfl) ho,r⟩
 ·by_cases hb:b=T
  ·subst hb;rw[qz]at e;cases e;exact new
  ·rw[qx hb]at e
   refine(I.hok b u e).stay (λc v hc q=>k c v ?_ q) (λc q=>by rw[qx (qJ q hn)];exact q) (λc xs q=>by rw[qx (qJ q hn)];exact q) λc ob y q=>by rw[qx (qJ q hn)];exact q
   rcases hc with z|z
   ·rw[z];exact nch b u e
   ·exact nch c _ z
theorem qgF {ch:List Addr} {t':Nat} (I:Inv X pins σ H s) (k:∀b u,b ∉ ch->s.heap.get? b=some u->h'.get? b=some u) (hf:∀b∈ch,qhe X pins H b):Inv X pins σ H {s with heap:=h',toks:=t' }:=by
 have nch:∀b u,H b=some u->b ∉ ch:=λb u e z=>by rw[(hf b z).1]at e;cases e
 refine I.step (g':=s.gens) (d':=s.drawn) (ch:=ch) (λb hb=>⟨(hf b hb).2.2.2.1,(hf b hb).2.1,(hf b hb).2.2.2.2.1,(hf b hb).2.2.2.2.2⟩) (λb u _ _ hc e _=>k b u hc e) (λb u _ _ hc e _=>⟨u.slots,k b u hc e⟩) (λb u hc e n=>n)
  (λb u hc e=>⟨u,k b u hc e⟩) (λb xs e=>e) (λb u xs e=>e) (λ_ _ _ e=>e) (λm hm=>?_) (λb u e=>?_) I.bare
 ·obtain⟨ob,es,ep,ho,r⟩:=hm
  exact⟨ob,es,ep,k _ ob (λz=>(hf _ z).2.1 rfl) ho,r⟩
 ·refine(I.hok b u e).stay (λc v hc q=>k c v ?_ q) (λc q=>q) λc xs q=>q
  rcases hc with z|z
  ·rw[z];exact nch b u e
  ·exact nch c _ z
end
def Itz (K:Fr0) (a1 a2:Addr) (xs ys:List V):It :=
 ⟨λi H=>i<min xs.length ys.length/\SqT K H a1 xs/\SqT K H a2 ys,λi H x H'=>∃p u v,H p=none/\xs[i]? = some u/\ys[i]? = some v/\x=.ref p/\H'=upd H p (.tup [u,v]),λi H=>i=min xs.length ys.length/\SqT K H a1 xs/\SqT K H a2 ys⟩
def ZSt(z TI TO i1 i2 a1 a2:Addr)(i:Nat)(h:Heap):Prop:=IsZip h z TI TO .none/\ycv h TI (.ref i1) (.ref i2)/\(∃p q,ycv h TO p q)/\h.IsTupleIter i1 a1 i/\h.IsTupleIter i2 a2 i
theorem qlS {P:yar} {w:World} {K:Fr0} {es:List Expr} {kk:Nat} {pos:Pos} {z TI TO i1 i2 a1 a2:Addr} {xs ys:List V} (ap:ZAp z TI TO i1 i2 [i1,a1] [i2,a2]) (n1:a1≠i1) (n2:a2≠i2) :
  qnk P w K (.Tuple es kk pos) (Itz K a1 a2 xs ys) [z,TI,TO,i1,i2] z (ZSt z TI TO i1 i2 a1 a2) where
 mem:=by simp
 obj:=λi h st b hb=>by
  obtain⟨h1,h2,⟨p,q,h3⟩,⟨o4,h4,c4,d4⟩,⟨o5,h5,c5,d5⟩⟩:=st
  simp only[yaD,nN_,or_false]at hb
  rcases hb with rfl|rfl|rfl|rfl|rfl
  ·exact⟨_,h1,λv e=>by cases (show yeh _=ydL v from e)⟩
  ·exact⟨_,h2,λv e=>by cases (show Data.seq _ _=ydL v from e)⟩
  ·exact⟨_,h3,λv e=>by cases (show Data.seq _ _=ydL v from e)⟩
  ·exact⟨_,h4,λv e=>by rw[d4]at e;cases e⟩
  ·exact⟨_,h5,λv e=>by rw[d5]at e;cases e⟩
 keep:=λi h h' st k=>by
  obtain⟨h1,h2,⟨p,q,h3⟩,h4,h5⟩:=st
  exact⟨k z (by simp) _ h1,k TI (by simp) _ h2,⟨p,q,k TO (by simp) _ h3⟩,h4.at λo e=>k i1 (by simp) o e,h5.at λo e=>k i2 (by simp) o e⟩
 item:=by
  intro X hP hw hK hc i pins s σ H E I hf st hg
  subst hP hw hK
  obtain⟨hlt,hx,hy⟩:=hg
  obtain⟨h1,h2,⟨p,q,h3⟩,h4,h5⟩:=st
  obtain⟨it1,r1,p1,z1⟩:=I.tuple hx
  obtain⟨it2,r2,p2,z2⟩:=I.tuple hy
  have l1:i<it1.toArray.size:=by rw[sT_,<-r1.length];omega
  have l2:i<it2.toArray.size:=by rw[sT_,<-r2.length];omega
  have hT:s.TypeIs (.ref z) "zip":=⟨_,h1,rfl⟩
  have hh:X.A.in1.handled=none:=I.ok.hd hc
  unfold yck
  refine yaa (yb4 (wpAny_callSpecial?_slot (name:=ybd "__next__") hT yd3 (yaH yd3 hT F.entry_zip_next
   (qqY (qaJ hh i1 a1 n1 it1.toArray) (qaJ hh i2 a2 n2 it2.toArray) ap h1 h2 h3 ⟨h4,p1⟩ ⟨h5,p2⟩ l1 l2 λx y h' tk px py zz zO u1 u2 new kp=>yac ?_) (ygy _))))
  refine⟨.ref s.heap.objs.size,rfl,wpAny_letOwnedTupleGo_zip zz λh2' zz2 sb=>?_⟩
  obtain⟨xv,hxv⟩:∃v,xs[i]? = some v:=⟨xs[i]'(by omega),gG (by omega)⟩
  obtain⟨yv,hyv⟩:∃v,ys[i]? = some v:=⟨ys[i]'(by omega),gG (by omega)⟩
  obtain⟨x',ex,rx⟩:=r1.get hxv
  obtain⟨y',ey,ry⟩:=r2.get hyv
  have exx:x'=x:=by
   have:it1.toArray[i]? = some x:=px
   rw[List.getElem?_toArray,ex]at this
   exact yaw this
  have eyy:y'=y:=by
   have:it2.toArray[i]? = some y:=py
   rw[List.getElem?_toArray,ey]at this
   exact yaw this
  subst exx eyy
  have lz:z<s.heap.objs.size:=yae h1
  have keep:∀b u,b ∉ [z,TI,TO,i1,i2]->s.heap.get? b=some u->h2'.get? b=some u:=λb u hb e=>by
   simp only[yaD,nN_,or_false,not_or]at hb
   exact sb.extBut _ _ hb.1 (kp b u hb.1 hb.2.2.1 hb.2.2.2.1 hb.2.2.2.2 e)
  have I2:Inv X pins σ (upd H s.heap.objs.size (.tup [xv,yv])) {s with heap:=h2',toks:=tk} :=
   qgE I keep hf (yah _) ⟨by show 2<=yav;decide,[x',y'],.cons rx (.cons ry .nil),⟨_,sb.extBut _ _ (ybL lz) new,rfl,_,rfl⟩⟩
  refine⟨.ref s.heap.objs.size,upd H s.heap.objs.size (.tup [xv,yv]),I2,rfl,⟨s.heap.objs.size,xv,yv,I.hok.fresh (yah _),hxv,hyv,rfl,rfl⟩,?_,λb hb=>?_⟩
  ·exact⟨zz2,sb.extBut _ _ ap.zTI.symm (kp _ _ ap.zTI.symm ap.IO ap.Ii1 ap.Ii2 h2),⟨_,_,sb.extBut _ _ ap.zTO.symm zO⟩,u1.1.at λo e=>sb.extBut _ _ ap.zi1.symm e,u2.1.at λo e=>sb.extBut _ _ ap.zi2.symm e⟩
  ·have hb1:b≠s.heap.objs.size:=by
    simp only[yaD,nN_,or_false]at hb
    obtain⟨o4,g4,_⟩:=h4
    obtain⟨o5,g5,_⟩:=h5
    rcases hb with rfl|rfl|rfl|rfl|rfl
    ·exact yao (yae h1)
    ·exact yao (yae h2)
    ·exact yao (yae h3)
    ·exact yao (yae g4)
    ·exact yao (yae g5)
   rw[qx hb1]
   exact(hf b hb).1
 done:=by
  intro X hP hw hK hc i pins s σ H E I hf st hg
  subst hP hw hK
  obtain⟨hlt,hx,hy⟩:=hg
  obtain⟨h1,h2,⟨p,q,h3⟩,h4,h5⟩:=st
  obtain⟨it1,r1,p1,z1⟩:=I.tuple hx
  obtain⟨it2,r2,p2,z2⟩:=I.tuple hy
  have hT:s.TypeIs (.ref z) "zip":=⟨_,h1,rfl⟩
  have hh:X.A.in1.handled=none:=I.ok.hd hc
  unfold yck
  refine yaa (yb4 (wpAny_callSpecial?_slot (name:=ybd "__next__") hT yd3 (yaH yd3 hT F.entry_zip_next
   (qlQ hh (qaJ hh i1 a1 n1 it1.toArray) (qaJ hh i2 a2 n2 it2.toArray) ap h1 h2 h3 ⟨h4,p1⟩ ⟨h5,p2⟩ (by rw[sT_,sT_,<-r1.length,<-r2.length];exact hlt) λh' tk e kp he=>?_) (ygy _))))
  obtain⟨o,ho,hcl⟩:=he
  refine yaa (ycw (T:="StopIteration") (b:=true) ⟨o,ho,hcl⟩ yec (yac ⟨rfl,qgF I (λb u hb e=>?_) hf⟩))
  simp only[yaD,nN_,or_false,not_or]at hb
  exact kp b u hb.1 hb.2.2.1 hb.2.2.2.1 hb.2.2.2.2 e
 self:=λA i s Q E st h=>wpAny_pyIter_zip st.1 h
section
variable{X:Cx}{c:Fc}{a b e:Expr}{pos:Pos}{es:List Expr}{kk:Nat}{tp:Pos}
theorem qoO (n l1 l2:Nat) (h1:l1<n) (h2:l2<n):ZAp (n+4) (n+2) (n+3) n (n+1) [n,l1] [n+1,l2]:=by
 refine⟨?_,?_,?_,?_,?_,?_,?_,?_,?_,?_,?_,?_,?_,?_,?_,?_⟩<;>simp only[yaD,nN_,or_false,not_or,ne_eq]<;>(unfold Addr at *)<;>omega
def qtT(K:Fr0)(ta:TA):TI:=λσ H R=>ta σ H λvs H1=>∃a1 a2 xs ys,vs=[.ref a1,.ref a2]/\SqT K H1 a1 xs/\SqT K H1 a2 ys/\R (Itz K a1 a2 xs ys) H1
theorem qqZ {ta:TA} {p:Pos} (hg:Gl X "zip") (hm:X.mg "zip"=none) (ha:PA X [a,b] ta) (hs:yam [a,b] X.env=[(false,eval a X.env),(false,eval b X.env)]:=by rfl) (hs2:yam [b] X.env=[(false,eval b X.env)]:=by rfl) :
  PI X (.Tuple es kk tp) (.Call (.Name "zip" p) [a,b] [] pos) (qtT X.K ta):=by
 intro pins s σ H R I h
 refine Call_ (wT I hg hm PyProof.Rows.boot_zip (yaW (thn (ha pos pins s σ H _ I h) λus s1 ⟨vs,H1,I1,r1,q1⟩=>?_) (by rw[hs,hs2]) (by rw[hs2];rfl)))
 obtain⟨a1,a2,xs,ys,e1,hx,hy,q⟩:=q1
 subst e1
 obtain⟨u1,u2,rfl,ru1,ru2⟩:=zT.two r1
 cases (show u1=yat a1 from ru1)
 cases (show u2=yat a2 from ru2)
 obtain⟨it1,v1,p1,z1⟩:=I1.tuple hx
 obtain⟨it2,v2,p2,z2⟩:=I1.tuple hy
 refine qlR (show s1.heap.IsTuple a1 it1.toArray from p1) (show s1.heap.IsTuple a2 it2.toArray from p2) λh' zz zI zO g1 g2 kp=>?_
 refine wpAny_pyIter_zip zz ?_
 have la1:a1<s1.heap.objs.size:=by obtain⟨o,e,_⟩:=p1;exact yae e
 have la2:a2<s1.heap.objs.size:=by obtain⟨o,e,_⟩:=p2;exact yae e
 have ap:ZAp (s1.heap.objs.size+4) (s1.heap.objs.size+2) (s1.heap.objs.size+3) s1.heap.objs.size (s1.heap.objs.size+1) [s1.heap.objs.size,a1] [s1.heap.objs.size+1,a2]:=by
  exact qoO _ _ _ la1 la2
 refine⟨s1.heap.objs.size+4,[s1.heap.objs.size+4,s1.heap.objs.size+2,s1.heap.objs.size+3,s1.heap.objs.size,s1.heap.objs.size+1],_,_,H1,rfl,I1.kept (t':=s1.toks) kp,qlS (xs:=xs) (ys:=ys) ap (yao la1) (yao (yb3 la2)),⟨zz,zI,⟨_,_,zO⟩,g1,g2⟩,λb hb=>?_,q⟩
 simp only[yaD,nN_,or_false]at hb
 have hb2:s1.heap.objs.size<=b:=by
  rcases hb with e|e|e|e|e<;>rw[e]
  ·exact yb8 _ _
  ·exact yb8 _ _
  ·exact yb8 _ _
  ·exact yah _
  ·exact yb8 _ _
 exact I1.fpOk hb2 (I1.hok.fresh hb2)
def qct:List D->List D->List D
 |x::xs,y::ys => .tup [x,y]::qct xs ys
 |_,_=>[]
theorem qho:∀{xs ys:List D}{i:Nat}{d:D},(qct xs ys)[i]? = some d->∃x y,xs[i]? = some x/\ys[i]? = some y/\d=.tup [x,y]
 | [],_,_,_,h=>by simp[qct]at h
 |_::_,[],_,_,h=>by simp[qct]at h
 |x::xs,y::ys,0,d,h=>by
  have:D.tup [x,y]=d:=by simpa [qct] using h
  exact⟨x,y,rfl,rfl,this.symm⟩
 |x::xs,y::ys,i+1,d,h=>by
  obtain⟨u,v,h1,h2,h3⟩:=qho (xs:=xs) (ys:=ys) (i:=i) (d:=d) (by simpa [qct] using h)
  exact⟨u,v,by simpa using h1,by simpa using h2,h3⟩
theorem qeh:∀(xs ys:List D),(qct xs ys).length=min xs.length ys.length
 | [],ys=>by simp[qct]
 |_::_,[]=>by simp[qct]
 |x::xs,y::ys=>by simp[qct,qeh xs ys]
theorem qq0 {K:Fr0} {A:Addr->Prop} {H:Hp} {ds es:List D} {xs ys:List V} {a1 a2:Addr} (t1:vL K H a1 xs) (t2:vL K H a2 ys) (i1:IsL K A H ds xs) (i2:IsL K A H es ys):qi1 K A H (qct ds es) (Itz K a1 a2 xs ys) where
 go:=λH' i d ex hd=>by
  have hl:i<(qct ds es).length:=(gI_.mp hd).1
  rw[qeh,<-i1.length,<-i2.length]at hl
  exact⟨hl,(t1.elim (λh => .inl (ex.tup _ _ h)) .inr:vL K H' a1 xs).sq,(t2.elim (λh => .inl (ex.tup _ _ h)) .inr:vL K H' a2 ys).sq⟩
 yl:=λH' i d x H'' ex hd y=>by
  obtain⟨p,u,v,hp,hu,hv,rfl,rfl⟩:=y
  obtain⟨dx,dy,h1,h2,rfl⟩:=qho hd
  obtain⟨u',g1,g2⟩:=i1.get h1
  obtain⟨v',g3,g4⟩:=i2.get h2
  rw[hu]at g1
  rw[hv]at g3
  cases g1
  cases g3
  have sm:=qC hp (.tup [u,v])
  exact⟨sm,p,[u,v],rfl,.inl qz,u,[v],rfl,Is.ext (Ext.of_same sm) (λ_ h _=>h) (Is.ext ex (λ_ h _=>h) g2),v,[],rfl,Is.ext (Ext.of_same sm) (λ_ h _=>h) (Is.ext ex (λ_ h _=>h) g4),rfl⟩
 stop:=λH' ex=>⟨by rw[qeh,i1.length,i2.length],(t1.elim (λh => .inl (ex.tup _ _ h)) .inr:vL K H' a1 xs).sq,(t2.elim (λh => .inl (ex.tup _ _ h)) .inr:vL K H' a2 ys).sq⟩
def qq1:List D->Option (List D)
 | [.tup xs,.tup ys]=>some (qct xs ys)
 |_=>none
def qoP(f:M (List D)):M (List D):=bnd f λds=>lift (qq1 ds)
theorem qnC {f:M (List D)} {p:Pos} (hg:Gl X "zip") (hm:X.mg "zip"=none) (ha:DA X c [a,b] f) (hs:yam [a,b] X.env=[(false,eval a X.env),(false,eval b X.env)]:=by rfl) (hs2:yam [b] X.env=[(false,eval b X.env)]:=by rfl) :
  DI X c (.Tuple es kk tp) (.Call (.Name "zip" p) [a,b] [] pos) (qoP f):=by
 obtain⟨t,pa,w⟩:=ha
 refine⟨_,qqZ hg hm pa hs hs2,λρ σ H Q r h=>w ρ σ H _ r (WpL.bndI h λds ρ1 vs H1 r1 i1 g1 h1=>?_)⟩
 obtain⟨es',e,h2⟩:=wz h1
 unfold qq1 at e
 split at e
 ·obtain⟨v,u,rfl,j1,j2⟩:=IsL.inv2 i1
  cases e
  obtain⟨a1,xs,rfl,t1,il1⟩:=Is.tr j1
  obtain⟨a2,ys,rfl,t2,il2⟩:=Is.tr j2
  exact⟨a1,a2,xs,ys,rfl,t1.sq,t2.sq,h2 _ H1 r1 (qq0 t1 t2 il1 il2) .refl⟩
 ·cases e
end
theorem qei:fillsNumberSlot (.type "tuple") "mul"=pure false:=by
 first|kernel_rfl|(unfold fillsNumberSlot;kernel_rfl)|decide +kernel
theorem qip:seqRepeat? (.type "tuple")=pure (some (.builtin "tuple.__mul__")):=by
 first|kernel_rfl|(unfold seqRepeat?;kernel_rfl)|decide +kernel
theorem qfv (a:Int) (t:Tok) (l:Addr) (dd:Option Addr) (items:Array Value) (n:Nat) (sl:Array (Option Value)) :
  Meets (yaX.«int.__rmul__» ⟨[.int a t,.ref l],[]⟩) (λ_ R s=>s.heap.get? l=some {cls:=.type "tuple",dict:=dd,data:=.seq items n,slots:=sl}/\R (.ok (.ret .notImplemented)) s) :=
 .of_wp λprog w A R s h=>by
  obtain⟨hp,g,d,tk,os⟩:=s
  obtain⟨hl,h⟩:=h
  wp_walk using ycE hl
  exact⟨_,rfl,h⟩
theorem qq2 (l:Addr) (dd:Option Addr) (items:Array Value) (n:Nat) (sl:Array (Option Value)) (k:Int) (t:Tok) (h0:¬items.isEmpty=true) (h1:¬(k==1)=true) (h2:¬k<=0) (h3:¬(decide (k < -(2 ^ 63))||decide (k >= 2 ^ 63))=true)
  (h4:¬(items.size:Int)*k>(2 ^ 63-1)/8) (h5:¬Builtin.Tuple.tupleTooMany ((items.size:Int)*k)=true) (h6:((yap k.toNat items).foldl (·++·) #[]).size<=yav) :
  Meets (yaX.«tuple.__mul__» ⟨[.ref l,.int k t],[]⟩) (λ_ R s=>s.heap.get? l=some {cls:=.type "tuple",dict:=dd,data:=.seq items n,slots:=sl} /\
   R (.ok (.ret (.ref s.heap.objs.size))) {s with heap:=s.heap.push {cls:=.type "tuple",data:=.seq ((yap k.toNat items).foldl (·++·) #[])} }) :=
 .of_wp λprog w A R s h=>by
  obtain⟨hp,g,d,tk,os⟩:=s
  obtain⟨hl,h⟩:=h
  have f1:=AutoSeq1.idx_int
  have f2:=yeR
  have h01:¬(items.isEmpty||k==1)=true:=by simp only[yfd,not_or];exact⟨h0,h1⟩
  have h02:¬(decide (k<=0)||items.isEmpty)=true:=by simp only[yfd,decide_eq_true_eq,not_or];exact⟨h2,h0⟩
  wp_walk using ycE hl
  rw[if_neg h3]
  wp_walk using ycE hl
  rw[if_neg h4]
  wp_walk using ycE hl
  exact⟨_,rfl,h⟩
section
variable{X:Cx}
def qq3(K:Fr0):R2:=λx y H Q=>∃a xs k,x=.ref a/\y=.int k/\SqT K H a xs/\xs≠[]/\2<=k/\xs.length*k.toNat<=yav/\∀p,H p=none->Q (.ref p) (upd H p (.tup (yap k.toNat xs).flatten))
theorem qoQ:OpR X (ybx .Mult) (qq3 X.K):=by
 intro pins s σ H x y v u Q I rx ry h
 obtain⟨a,xs,k,rfl,rfl,hx,hne,hk,hz,q⟩:=h
 cases rx
 obtain⟨t,rfl⟩:=ry
 obtain⟨its,r,p1,_⟩:=I.tuple hx
 obtain⟨⟨cls,dd,data,sl⟩,ho,hc,n,hd⟩:=id p1
 simp only at hc hd
 subst hc hd
 have hl:=r.length
 have hnew:yfK (λx1 x2=>x1++x2) #[] (yap k.toNat its.toArray)=(yap k.toNat its).flatten.toArray:=by
  have:=qcE its k.toNat []
  rw[yaJ]at this
  exact this
 have hlen:(yap k.toNat its).flatten.length=k.toNat*its.length:=qgu its k.toNat
 have hsl:(yav:Nat)=16777216:=ybA
 have e0:¬its.toArray.isEmpty=true:=by
  intro e
  have:its=[]:=by simpa using e
  rw[this]at hl
  exact hne (List.length_eq_zero_iff.mp hl)
 have pos1:1<=its.length:=by
  cases its with
  |nil=>simp at e0
  |cons z zs=>simp
 have kk:((k.toNat:Nat):Int)=k:=Int.toNat_of_nonneg (by omega)
 have mm:(its.toArray.size:Int)*k=((its.length*k.toNat:Nat):Int):=by rw[sT_,ybe,kk]
 have zz:its.length*k.toNat<=yav:=by rw[<-hl];exact hz
 have kle:k.toNat<=its.length*k.toNat:=Nat.le_mul_of_pos_left _ pos1
 have T1:s.TypeIs (.ref a) "tuple":=⟨_,ho,rfl⟩
 refine yeL (T:="tuple") (U:="int") (by decide) T1 (λs'=>yeK s' k t) qei F.fills_int_mul yd0 qip F.slot_int_index.lookup
  (ycV yd0 (yeK s k t) F.entry_int_rmul (ygw _ _) (qfv k t a dd its.toArray n sl)
   ⟨ho,rfl,T1,ycV F.slot_tuple_mul T1 F.entry_tuple_mul (F.args_tuple_mul_2 _ _) (qq2 a dd its.toArray n sl k t e0 (by simp;omega) (by omega) (by simp;omega) (by rw[mm];omega) ?_ (by rw[hnew,sT_,hlen,ybO];exact zz)) ⟨ho,?_⟩⟩)
 ·rw[mm]
  show ¬decide (((its.length*k.toNat:Nat):Int)>(yav:Int))=true
  rw[decide_eq_true_eq]
  omega
 ·rw[hnew]
  refine⟨.ref s.heap.objs.size,_,I.laid (t':=s.toks) (o:=.tup (yap k.toNat xs).flatten) (λb ob q=>Heap.get?_push_of_some _ q) (yah _) ?_,rfl,q _ (I.hok.fresh (yah _))⟩
  exact⟨by rw[qgu,ybO];exact hz,_,r.rep k.toNat,yfc _ _⟩
def qlT(K:Fr0):R2:=λx y H Q=>(rI qqp (λi j => .int (i*j))) x y H Q\/(qq3 K x y H Q\/qtk x y H Q)
theorem jz:OpR X (ybx .Mult) (qlT X.K):=OpR.or qqr (OpR.or qoQ qqJ)
end
def uF:D->D->OD
 |.int i,.int j=>if qgv i j then some (.int (i*j))else none
 |.tup ds,.int k=>if(!ds.isEmpty&&decide (2<=k))&&qY (ds.length*k.toNat)then some (.tup (yap k.toNat ds).flatten)else none
 |.lst ds,.int k=>if(decide (-(2 ^ 62)<=k)&&decide (k<2 ^ 62))&&qY (ds.length*k.toNat)then some (.lst (yap k.toNat ds).flatten)else none
 |_,_=>none
theorem IsL.rep {K:Fr0} {A:Addr->Prop} {H:Hp} {ds:List D} {xs:List V} (h:IsL K A H ds xs):∀k:Nat,IsL K A H (yap k ds).flatten (yap k xs).flatten
 |0=>by simp[IsL]
 |k+1=>by
  rw[rS_,rS_,ybE,ybE]
  exact IsL.append h (IsL.rep h k)
theorem zQ {K:Fr0}:OpS K uF (qlT K):=by
 intro A H x y d v u Q hn ix iy e k
 cases x<;>cases y<;>simp only[uF]at e<;>try (cases e;done)
 ·rename_i i j
  obtain⟨e1,e2⟩:=jI e
  subst e2
  cases ix;cases iy
  exact .inl ⟨i,j,rfl,rfl,qlB e1,k _ H (yA.refl H) rfl⟩
 ·rename_i ds j
  obtain⟨a,xs,rfl,ta,il⟩:=ix
  cases iy
  obtain⟨e1,e2⟩:=jI e
  subst e2
  rw[yan,yan]at e1
  obtain⟨⟨e3,e4⟩,e5⟩:=e1
  refine .inr (.inl ⟨a,xs,j,rfl,rfl,ta.sq,λz=>?_,of_decide_eq_true e4,by rw[il.length];exact of_decide_eq_true e5,λp hp=>k _ _ (qC hp _) ⟨p,_,rfl,.inl qz,IsL.ext (Ext.of_same (qC hp _)) (λ_ h _=>h) (IsL.rep il _)⟩⟩)
  have:=il.length
  rw[z]at this
  have:ds=[]:=List.length_eq_zero_iff.mp this.symm
  rw[this]at e3
  simp at e3
 ·rename_i ds j
  obtain⟨a,xs,rfl,_,ta,il⟩:=ix
  cases iy
  obtain⟨e1,e2⟩:=jI e
  subst e2
  rw[yan,yan]at e1
  obtain⟨⟨e3,e4⟩,e5⟩:=e1
  have e3':=of_decide_eq_true e3
  have e4':=of_decide_eq_true e4
  refine .inr (.inr ⟨a,j,xs,rfl,rfl,ta,by omega,by omega,by rw[il.length];exact of_decide_eq_true e5,λp hp=>k _ _ (qC hp _) ⟨p,_,rfl,hn p hp,qz,IsL.ext (Ext.of_same (qC hp _)) (λ_ h _=>h) (IsL.rep il _)⟩⟩)
def qlU:D->OD
 |.int i=>some (.int (-i))
 |_=>none
def d1(F:D->OD)(f:M D):M D:=bnd f λx=>lift (F x)
def qoR(i j:Int):Bool:=decide (0<=j)&&decide (j<=1000000)&&decide (i.natAbs<2 ^ 64)
def qpY:D->D->OD:=qjs qoR λi j => .int (i ^ j.toNat)
theorem qoS {K:Fr0}:OpS K qpY (rI qtg λi j => .int (i ^ j.toNat)):=qhj (λi j h=>by
 unfold qoR at h
 rw[yan,yan]at h
 exact⟨of_decide_eq_true h.1.1,of_decide_eq_true h.1.2,of_decide_eq_true h.2⟩) λ_ _ _ _=>rfl
section
variable{X:Cx}{c:Fc}{a b e:Expr}{pos:Pos}
theorem qjD {f:M D} (h:DE X c a f):DE X c (.UnaryOp .USub a pos) (d1 qlU f):=by
 obtain⟨t,p,w⟩:=h
 refine⟨_,qsu qqt p,λρ σ H Q r h=>w ρ σ H _ r (Wp.bnd h λd ρ1 v H1 r1 i1 g1 h1=>?_)⟩
 obtain⟨d',e,h2⟩:=h1.lift
 cases d<;>simp only[qlU]at e<;>try (cases e;done)
 rename_i i
 cases e
 cases i1
 exact⟨i,rfl,h2 _ H1 r1 rfl .refl⟩
def qnD (i j:Nat) (f:M (List D)):MS:=sbnd f λds ρ=>match ds with
 | [d,e] => .ok (.nx ((ρ.set i (some d)).set j (some e)))
 |_ => .bad
theorem qnE {i j:Nat} {x y:Str} {f:M (List D)} {px py pt:Pos} {kt k2 pt2} (hN:X.N.Nodup) (ha:DA X c [a,b] f) (hw:ydA [.Tuple [.Name x px,.Name y py] kt pt] (.Tuple [a,b] k2 pt2) X.env=pure (some [x,y])) (hc:X.calm=true:=by rfl) (hi:X.N[i]? = some x:=by rfl) (hj:X.N[j]? = some y:=by rfl) (hij:i≠j:=by decide)
  (hx:X.env.scope.names.lookup x=some .local:=by rfl) (hy:X.env.scope.names.lookup y=some .local:=by rfl) (ho:i ∉ c.O:=by exact of_decide_eq_false rfl) (hp:j ∉ c.O:=by exact of_decide_eq_false rfl)
  (hs:ydz [.Tuple [.Name x px,.Name y py] kt pt] (.Tuple [a,b] k2 pt2) pos.line X.env=pure false:=by rfl) :
  DS X c (.Assign [.Tuple [.Name x px,.Name y py] kt pt] (.Tuple [a,b] k2 pt2) pos) (qnD i j f):=by
 obtain⟨t,p,w⟩:=ha
 refine⟨_,qql hc hN hi hj hij hx hy p hw hs,λρ σ H D r h=>w ρ σ H _ r (WpL.sbnd h λds ρ1 vs H1 r1 i1 g1 h1=>?_)⟩
 match ds,i1,h1 with
 | [],_,h1=>exact h1.elim
 | [_],_,h1=>exact h1.elim
 | [d,e],i1,h1=>
  obtain⟨v,u,rfl,j1,j2⟩:=IsL.inv2 i1
  refine⟨v,u,rfl,h1 _ H1 ((r1.set ho j1).set hp ?_) ((GrS.set ho).trans (GrS.set hp))⟩
  exact(GrS.set (H:=H1) ho).is j2
 |_::_::_::_,_,h1=>exact h1.elim
mutual
def immF:D->Bool
 |.tup ds=>immFs ds
 |.lst _=>false
 |.dic _=>false
 |_=>true
def immFs:List D->Bool
 | []=>true
 |d::ds=>immF d&&immFs ds
end
mutual
theorem Is.immF {K:Fr0} {A B:Addr->Prop} {H:Hp}:∀{d:D}{v:V},immF d=true->Is K A H d v->Is K B H d v
 |.non,_,_,h=>h
 |.bl _,_,_,h=>h
 |.int _,_,_,h=>h
 |.str _,_,_,h=>h
 |.tup ds,_,i,⟨a,xs,hv,h,r⟩=>⟨a,xs,hv,h,IsL.immF (by simpa [Sk.immF] using i) r⟩
 |.lst _,_,i,_=>by simp[Sk.immF]at i
 |.dic _,_,i,_=>by simp[Sk.immF]at i
 |.fz _,_,_,h=>h
 |.exc _,_,_,h=>h
theorem IsL.immF {K:Fr0} {A B:Addr->Prop} {H:Hp}:∀{ds:List D}{xs:List V},immFs ds=true->IsL K A H ds xs->IsL K B H ds xs
 | [],_,_,h=>h
 |d::ds,_,i,⟨x,ys,hx,h,r⟩=>by
  have i':Sk.immF d=true/\immFs ds=true:=by simpa [immFs] using i
  exact⟨x,ys,hx,Is.immF i'.1 h,IsL.immF i'.2 r⟩
end
def qfw (F:List D->R D) (g:M (List D)):M (List D):=bnd g λds ρ=>if immFs ds then match F ds with
 |.ok (.lst bs)=>if immL bs then .ok (bs,ρ)else .bad
 |_ => .bad else .bad
theorem qoT {k:Nat} {f:Addr} {fd:ybn} {ps:List Str} {F:List D->R D} {x:Str} {p:Pos} {es:List Expr} {g:M (List D)} (G:qe5 X.prog X.w X.K X.mg X.base CX0 k f fd ps (spD X.K F)) (hr:qac k X.A) (hg:Gl X x) (hm:X.mg x=some (.ref f)) (hk:yai X.K (.ref f)=true) (hb:qd7 X.K fd ps [])
  (ha:DA X c (e::es) g) (hd:(x==("__debug__":Str))=false:=by decide) (he:yam (e::es) X.env=(false,eval e X.env)::yam es X.env:=by rfl) (hpl:(ybb pos (yam es X.env)).any (·.1)=false:=by rfl):DN X c (.Call (.Name x p) (e::es) [] pos) (qfw F g):=by
 obtain⟨t,pa,w⟩:=ha
 refine⟨_,qgr G hr hg hm hk hb .nil qov pa hd he hpl,λρ σ H Q r h=>w ρ σ H _ r (WpL.bndN h λds ρ1 vs H1 r1 i1 g1 h1=>?_)⟩
 rw[yaR]
 by_cases him:immFs ds=true
 ·rw [if_pos him]at h1
  refine⟨ds,λ_=>False,IsL.immF him i1,r1.tb,?_⟩
  cases ef:F ds with
  |bad=>simp only[ef]at h1;exact h1.elim
  |exc z ρ'=>simp only[ef]at h1;exact h1.elim
  | ok d=>
   cases d with
   | lst bs=>
    simp only[ef]at h1
    by_cases hb2:immL bs=true
    ·rw[if_pos hb2]at h1
     intro v H' sm i
     obtain⟨a,xs,rfl,hA,ha2,il⟩:=i
     have hn:H1 a=none:=hA.elim yb9 id
     exact h1 a xs H' hn (r1.same sm) (r1.apart_same hn sm) ha2 trivial (IsL.imm hb2 il) (.of_same sm)
    ·rw[if_neg hb2]at h1;exact h1.elim
   |_=>simp only[ef]at h1;exact h1.elim
 ·rw[if_neg him]at h1;exact h1.elim
end
structure qoU (outer:Scope) (N:List Str) (scope:Scope) (N':List Str) (nt:Nat) (fr:List Nat):Prop where
 kind:scope.kind=.function
 nocell:∀y∈scope.names,y.2 ≠ .cell
 names:∀y∈scope.names,y.2=.local->scope.names.lookup y.1=some .local
 frees:∀y∈scope.names,y.2=.free->outer.names.lookup y.1=some .cell
 len:N'.length=nt+fr.length
 slots:∀p∈fr.zipIdx,N'[nt+p.2]? = N[p.1]? /\ ((N[p.1]?).bind λx=>scope.names.lookup x)=some .free
theorem qoU.ok {X:Cx} {outer:Scope} {N:List Str} {scope:Scope} {N':List Str} {nt:Nat} {fr:List Nat} (S:qoU outer N scope N' nt fr) (h1:X.env.scope=outer) (h2:X.N=N):jZ X scope N' nt fr:=by
 subst h1 h2
 refine⟨S.kind,S.nocell,S.names,S.frees,S.len,λi j h=>?_⟩
 have hm:(j,i)∈fr.zipIdx:=by
  rw[yfC]
  refine⟨i,?_⟩
  rw[List.getElem?_zipIdx,h]
  simp
 obtain⟨h3,h4⟩:=S.slots (j,i) hm
 cases e:X.N[j]? with
 |none=>
  have h4':((X.N[j]?).bind λx=>scope.names.lookup x)=some .free:=h4
  rw[e]at h4';cases h4'
 | some x=>
  have h4':((X.N[j]?).bind λx=>scope.names.lookup x)=some .free:=h4
  rw[e]at h4'
  exact ⟨x,by
    have h3':N'[nt+i]? = X.N[j]? := h3
    rw[h3',e],rfl,h4'⟩
structure qA (P:yar) (w:World) (K:yas) (mg:Str->Option Value) (base:Heap) (k:Nat) (x:Str) (ps:List Str) (sp:Sp):Prop where
 ex:∃f fd,qe5 P w K mg base CX0 k f fd ps sp/\mg x=some (.ref f)/\yai K (.ref f)=true/\qd7 K fd ps []
theorem wV:yaF "len"=some (.builtin "len"):=by decide +kernel
theorem qdL:yaF "max"=some (.builtin "max"):=by decide +kernel
theorem qfx:yaF "min"=some (.builtin "min"):=by decide +kernel
theorem qjE:yaF "all"=some (.builtin "all"):=by decide +kernel
theorem qq4:yaF "any"=some (.builtin "any"):=by decide +kernel
theorem qnF:yaF "sum"=some (.builtin "sum"):=by decide +kernel
theorem qjF:yaF "divmod"=some (.builtin "divmod"):=by decide +kernel
theorem qq5:yaF "int"=some (.type "int"):=by decide +kernel
theorem qoV:yaF "bool"=some (.type "bool"):=by decide +kernel
theorem wA:yaF "tuple"=some (.type "tuple"):=by decide +kernel
theorem yD:yaF "isinstance"=some (.builtin "isinstance"):=by decide +kernel
def wW:MS:=λρ => .ok (.nx ρ)
def qcR:MS:=λ_ => .bad
theorem qO{X:Cx}{c:Fc}:DSs X c [] wW:=qox
theorem v4{X:Cx}{c:Fc}{st:Stmt}:DS X c st qcR:=qlA
theorem qv{X:Cx}:IxR X (λx y H Q=>qsD X.K x y H Q\/qsE X.K x y H Q):=qjl.or qqE
theorem qoW {c:Fc} {nt:Nat} {fr:List Nat} {i j:Nat} (h1:j∈c.O) (h2:nt<=i) (h3:fr[i-nt]? = some j) (h4:∀p∈fr.zipIdx,nt+p.2≠i->p.1 ∉ c.O):qlN c nt fr (some (i,j)) :=
 ⟨h1,h2,h3,λk j' h hk=>h4 (j',k) (by rw[yfC];exact⟨k,by rw[List.getElem?_zipIdx,h];simp⟩) hk⟩
def eqB (x y:D):OD:=match sc2 x y with
 |some b=>some (.bl b)
 |none=>eqA x y
def neB (x y:D):OD:=match sc2 x y with
 |some b=>some (.bl (!b))
 |none=>neA x y
theorem qaj{X:Cx}{k:Nat}(hr:qac k X.A):OpR X (yaL .Eq) (λx y H Q=>rEq x y H Q\/qnB X.K false x y H Q):=OpR.or qsw (qqW hr)
theorem wX{X:Cx}{k:Nat}(hr:qac k X.A):OpR X (yaL .NotEq) (λx y H Q=>rNe x y H Q\/qnB X.K true x y H Q):=OpR.or qsx (qqX hr)
theorem va {K:Fr0}:OpS K eqB (λx y H Q=>rEq x y H Q\/qnB K false x y H Q):=by
 intro A H x y d v u Q hn ix iy e k
 unfold eqB at e
 cases e1:sc2 x y with
 |some b=>simp only[e1]at e;exact .inl (qoy A H x y d v u Q hn ix iy (by unfold eqS;rw[e1];exact e) k)
 |none=>simp only[e1]at e;exact .inr (qoK A H x y d v u Q hn ix iy e k)
theorem uJ {K:Fr0}:OpS K neB (λx y H Q=>rNe x y H Q\/qnB K true x y H Q):=by
 intro A H x y d v u Q hn ix iy e k
 unfold neB at e
 cases e1:sc2 x y with
 |some b=>simp only[e1]at e;exact .inl (qoz A H x y d v u Q hn ix iy (by unfold neS;rw[e1];exact e) k)
 |none=>simp only[e1]at e;exact .inr (qoL A H x y d v u Q hn ix iy e k)
end L2.Sk
namespace L2.Sk
section
variable{α β:Type}{ρ:Env}{f g k:M D}{t u:M Bool}{l m:M (List D)}{p q r:MS}
theorem qgG(a:α):ret a ρ=.ok (a,ρ):=rfl
theorem qjG(o:Option α):lift o ρ=match o with|some a => .ok (a,ρ)|none => .bad:=by cases o<;>rfl
theorem qq6{f:M α}{k:α->M β}:bnd f k ρ=match f ρ with|.ok (a,ρ')=>k a ρ'|.exc x ρ' => .exc x ρ'|.bad => .bad:=rfl
theorem qsJ(i:Nat):dv i ρ=match ρ[i]? with|some (some d) => .ok (d,ρ)|_ => .bad:=rfl
theorem yE:qa f l ρ=match f ρ with|.ok (d,ρ1)=>(match l ρ1 with|.ok (ds,ρ2) => .ok (d::ds,ρ2)|.exc x ρ' => .exc x ρ'|.bad => .bad)|.exc x ρ' => .exc x ρ'|.bad => .bad:=by
 simp only[qa,bnd,sbnd]
 cases f ρ with
 |ok z=>
  obtain⟨z1,ρ1⟩:=z
  simp only[ret]
  cases l ρ1 with
  |ok z=>obtain⟨z2,ρ2⟩:=z;rfl
  |exc x ρ'=>rfl
  |bad=>rfl
 |exc x ρ'=>rfl
 |bad=>rfl
theorem qfy:qca l ρ=match l ρ with|.ok (ds,ρ1)=>(if qY ds.length then .ok (.tup ds,ρ1)else .bad)|.exc x ρ' => .exc x ρ'|.bad => .bad:=by
 simp only[qca,bnd,sbnd]
 cases l ρ with
 |ok z=>
  obtain⟨z1,ρ1⟩:=z
  cases h:qY z1.length<;>simp[h,lift,ret]
 |exc x ρ'=>rfl
 |bad=>rfl
theorem qnG:qaV l ρ=match l ρ with|.ok (ds,ρ1)=>(if qY ds.length then .ok (.lst ds,ρ1)else .bad)|.exc x ρ' => .exc x ρ'|.bad => .bad:=by
 simp only[qaV,bnd,sbnd]
 cases l ρ with
 |ok z=>
  obtain⟨z1,ρ1⟩:=z
  cases h:qY z1.length<;>simp[h,lift,ret]
 |exc x ρ'=>rfl
 |bad=>rfl
theorem qnH:qnA l ρ=match l ρ with|.ok (ds,ρ1)=>(if immL ds&&qY ds.length then .ok (ds,ρ1)else .bad)|.exc x ρ' => .exc x ρ'|.bad => .bad:=by
 simp only[qnA,bnd,sbnd]
 cases l ρ with
 |ok z=>
  obtain⟨z1,ρ1⟩:=z
  cases h:(immL z1&&qY z1.length)<;>simp[h,lift,ret]
 |exc x ρ'=>rfl
 |bad=>rfl
theorem qsK (F:D->D->OD):d2 F f g ρ=match f ρ with|.ok (x,ρ1)=>(match g ρ1 with|.ok (y,ρ2)=>(match F x y with|some d => .ok (d,ρ2)|none => .bad)|.exc x ρ' => .exc x ρ'|.bad => .bad)|.exc x ρ' => .exc x ρ'|.bad => .bad:=by
 simp only[d2,bnd,sbnd]
 cases f ρ with
 |ok z=>
  obtain⟨z1,ρ1⟩:=z
  dsimp only <;>
  cases g ρ1 with
  |ok z=>obtain⟨z2,ρ2⟩:=z;(dsimp only;cases F z1 z2<;>rfl)
  |exc x ρ'=>rfl
  |bad=>rfl
 |exc x ρ'=>rfl
 |bad=>rfl
theorem qq7 (F:D->OD):d1 F f ρ=match f ρ with|.ok (x,ρ1)=>(match F x with|some d => .ok (d,ρ1)|none => .bad)|.exc x ρ' => .exc x ρ'|.bad => .bad:=by
 simp only[d1,bnd,sbnd]
 cases f ρ with
 |ok z=>
  obtain⟨z1,ρ1⟩:=z
  (dsimp only;cases F z1<;>rfl)
 |exc x ρ'=>rfl
 |bad=>rfl
theorem qbM (F:List D->OD):zB F l ρ=match l ρ with|.ok (xs,ρ1)=>(match F xs with|some d => .ok (d,ρ1)|none => .bad)|.exc x ρ' => .exc x ρ'|.bad => .bad:=by
 simp only[zB,bnd,sbnd]
 cases l ρ with
 |ok z=>
  obtain⟨z1,ρ1⟩:=z
  (dsimp only;cases F z1<;>rfl)
 |exc x ρ'=>rfl
 |bad=>rfl
theorem qaK (F:List D->R D):qg F l ρ=match l ρ with|.ok (xs,ρ1)=>(match F xs with|.ok d => .ok (d,ρ1)|_ => .bad)|.exc x ρ' => .exc x ρ'|.bad => .bad:=by
 simp only[qg,bnd,sbnd]
 cases l ρ with
 |ok z=>
  obtain⟨z1,ρ1⟩:=z
  cases F z1<;>rfl
 |exc x ρ'=>rfl
 |bad=>rfl
theorem qnI (T:String):qnv T f ρ=match f ρ with|.ok (d,ρ1) => .ok (.bl (qgy (tyD d) T),ρ1)|.exc x ρ' => .exc x ρ'|.bad => .bad:=by
 simp only[qnv,bnd,sbnd]
 cases f ρ with
 |ok z=>
  obtain⟨z1,ρ1⟩:=z
  rfl
 |exc x ρ'=>rfl
 |bad=>rfl
theorem qlV:tst f ρ=match f ρ with|.ok (d,ρ1)=>(match asB d with|some b => .ok (b,ρ1)|none => .bad)|.exc x ρ' => .exc x ρ'|.bad => .bad:=by
 simp only[tst,bnd,sbnd]
 cases f ρ with
 |ok z=>
  obtain⟨z1,ρ1⟩:=z
  (dsimp only;cases asB z1<;>rfl)
 |exc x ρ'=>rfl
 |bad=>rfl
theorem vA(b:Bool):asB (.bl b)=some b:=rfl
theorem qhp:qco t ρ=match t ρ with|.ok (b,ρ1) => .ok (!b,ρ1)|.exc x ρ' => .exc x ρ'|.bad => .bad:=by
 simp only[qco,bnd,sbnd]
 cases t ρ with
 |ok z=>
  obtain⟨z1,ρ1⟩:=z
  rfl
 |exc x ρ'=>rfl
 |bad=>rfl
theorem qhq:qle t u ρ=match t ρ with|.ok (b,ρ1)=>(bif b then u ρ1 else .ok (false,ρ1))|.exc x ρ' => .exc x ρ'|.bad => .bad:=by
 simp only[qle,bnd,sbnd]
 cases t ρ with
 |ok z=>
  obtain⟨z1,ρ1⟩:=z
  cases z1<;>rfl
 |exc x ρ'=>rfl
 |bad=>rfl
theorem qlW:tor t u ρ=match t ρ with|.ok (b,ρ1)=>(bif b then .ok (true,ρ1)else u ρ1)|.exc x ρ' => .exc x ρ'|.bad => .bad:=by
 simp only[tor,bnd,sbnd]
 cases t ρ with
 |ok z=>
  obtain⟨z1,ρ1⟩:=z
  cases z1<;>rfl
 |exc x ρ'=>rfl
 |bad=>rfl
theorem qhr:qfj f g ρ=match f ρ with|.ok (d,ρ1)=>(match asB d with|some b=>(bif b then g ρ1 else .ok (.bl false,ρ1))|none => .bad)|.exc x ρ' => .exc x ρ'|.bad => .bad:=by
 simp only[qfj,bnd,sbnd]
 cases f ρ with
 |ok z=>
  obtain⟨z1,ρ1⟩:=z
  simp only[qjG]
  cases asB z1 with
  |none=>rfl
  |some b=>cases b<;>rfl
 |exc x ρ'=>rfl
 |bad=>rfl
theorem qlX:dor f g ρ=match f ρ with|.ok (d,ρ1)=>(match asB d with|some b=>(bif b then .ok (.bl true,ρ1)else g ρ1)|none => .bad)|.exc x ρ' => .exc x ρ'|.bad => .bad:=by
 simp only[dor,bnd,sbnd]
 cases f ρ with
 |ok z=>
  obtain⟨z1,ρ1⟩:=z
  simp only[qjG]
  cases asB z1 with
  |none=>rfl
  |some b=>cases b<;>rfl
 |exc x ρ'=>rfl
 |bad=>rfl
theorem qjH:qpU f ρ=match f ρ with|.ok (d,ρ1)=>(match asB d with|some b => .ok (.bl (!b),ρ1)|none => .bad)|.exc x ρ' => .exc x ρ'|.bad => .bad:=by
 simp only[qpU,bnd,sbnd]
 cases f ρ with
 |ok z=>
  obtain⟨z1,ρ1⟩:=z
  simp only[qjG]
  cases asB z1 with
  |none=>rfl
  |some b=>cases b<;>rfl
 |exc x ρ'=>rfl
 |bad=>rfl
theorem qgH:dif t f g ρ=match t ρ with|.ok (b,ρ1)=>(bif b then f ρ1 else g ρ1)|.exc x ρ' => .exc x ρ'|.bad => .bad:=by
 simp only[dif,bnd,sbnd]
 cases t ρ with
 |ok z=>
  obtain⟨z1,ρ1⟩:=z
  cases z1<;>rfl
 |exc x ρ'=>rfl
 |bad=>rfl
theorem qjI:sif t p q ρ=match t ρ with|.ok (b,ρ1)=>(bif b then p ρ1 else q ρ1)|.exc x ρ' => .exc x ρ'|.bad => .bad:=by
 simp only[sif,bnd,sbnd]
 cases t ρ with
 |ok z=>
  obtain⟨z1,ρ1⟩:=z
  cases z1<;>rfl
 |exc x ρ'=>rfl
 |bad=>rfl
theorem qnJ:qG p q ρ=match p ρ with|.ok (.nx ρ')=>q ρ'|z=>z:=by
 unfold qG
 cases p ρ with
 |ok z=>cases z<;>rfl
 |exc x ρ'=>rfl
 |bad=>rfl
theorem wY:jc f ρ=match f ρ with|.ok (d,ρ1) => .ok (.rt d ρ1)|.exc x ρ' => .exc x ρ'|.bad => .bad:=by
 simp only[jc,bnd,sbnd]
 cases f ρ with
 |ok z=>
  obtain⟨z1,ρ1⟩:=z
  rfl
 |exc x ρ'=>rfl
 |bad=>rfl
theorem wZ (i:Nat):zG i f ρ=match f ρ with|.ok (d,ρ1) => .ok (.nx (ρ1.set i (some d)))|.exc x ρ' => .exc x ρ'|.bad => .bad:=by
 simp only[zG,bnd,sbnd]
 cases f ρ with
 |ok z=>
  obtain⟨z1,ρ1⟩:=z
  rfl
 |exc x ρ'=>rfl
 |bad=>rfl
theorem qej (i:Nat):qah i l ρ=match l ρ with|.ok (ds,ρ1) => .ok (.nx (ρ1.set i (some (.lst ds))))|.exc x ρ' => .exc x ρ'|.bad => .bad:=by
 simp only[qah,bnd,sbnd]
 cases l ρ with
 |ok z=>
  obtain⟨z1,ρ1⟩:=z
  rfl
 |exc x ρ'=>rfl
 |bad=>rfl
theorem vM:zx f ρ=match f ρ with|.ok (_,ρ1) => .ok (.nx ρ1)|.exc x ρ' => .exc x ρ'|.bad => .bad:=by
 simp only[zx,bnd,sbnd]
 cases f ρ with
 |ok z=>
  obtain⟨z1,ρ1⟩:=z
  rfl
 |exc x ρ'=>rfl
 |bad=>rfl
theorem qjJ:wW ρ=.ok (.nx ρ):=rfl
theorem qjK (i j:Nat):qnD i j l ρ=match l ρ with|.ok ([d,e],ρ1) => .ok (.nx ((ρ1.set i (some d)).set j (some e)))|.ok _ => .bad|.exc x ρ' => .exc x ρ'|.bad => .bad:=by
 simp only[qnD,bnd,sbnd]
 cases l ρ with
 |ok z=>
  obtain⟨z1,ρ1⟩:=z
  match z1 with
  | []=>rfl
  | [_]=>rfl
  | [_,_]=>rfl
  |_::_::_::_=>rfl
 |exc x ρ'=>rfl
 |bad=>rfl
theorem qjL (G:D->Env->Option Env):qpV f G ρ=match f ρ with|.ok (d,ρ1)=>(match G d ρ1 with|some ρ2 => .ok (.nx ρ2)|none => .bad)|.exc x ρ' => .exc x ρ'|.bad => .bad:=by
 simp only[qpV,bnd,sbnd]
 cases f ρ with
 |ok z=>
  obtain⟨z1,ρ1⟩:=z
  dsimp only <;>
  cases G z1 ρ1<;>rfl
 |exc x ρ'=>rfl
 |bad=>rfl
theorem vb (G:D->Env->Option Env) (b:MS):qgo l G b ρ=match l ρ with|.ok (ds,ρ1)=>uH G b ds ρ1|.exc x ρ' => .exc x ρ'|.bad => .bad:=by
 simp only[qgo,bnd,sbnd]
 cases l ρ with
 |ok z=>
  obtain⟨z1,ρ1⟩:=z
  rfl
 |exc x ρ'=>rfl
 |bad=>rfl
theorem qjM:wx f ρ=match f ρ with|.ok (d,ρ1)=>(match qsa d with|some ds => .ok (ds,ρ1)|none => .bad)|.exc x ρ' => .exc x ρ'|.bad => .bad:=by
 simp only[wx,bnd,sbnd]
 cases f ρ with
 |ok z=>
  obtain⟨z1,ρ1⟩:=z
  (dsimp only;cases qsa z1<;>rfl)
 |exc x ρ'=>rfl
 |bad=>rfl
theorem qjN:yX l ρ=match l ρ with|.ok (d,ρ1)=>(match qnz d with|some ds => .ok (ds,ρ1)|none => .bad)|.exc x ρ' => .exc x ρ'|.bad => .bad:=by
 simp only[yX,bnd,sbnd]
 cases l ρ with
 |ok z=>
  obtain⟨z1,ρ1⟩:=z
  (dsimp only;cases qnz z1<;>rfl)
 |exc x ρ'=>rfl
 |bad=>rfl
theorem qhs:qoP l ρ=match l ρ with|.ok (d,ρ1)=>(match qq1 d with|some ds => .ok (ds,ρ1)|none => .bad)|.exc x ρ' => .exc x ρ'|.bad => .bad:=by
 simp only[qoP,bnd,sbnd]
 cases l ρ with
 |ok z=>
  obtain⟨z1,ρ1⟩:=z
  (dsimp only;cases qq1 z1<;>rfl)
 |exc x ρ'=>rfl
 |bad=>rfl
theorem qbN {nt:Nat} {fr:List Nat} {fo:Option (Nat×Nat)} {G:D->Env->Option Env} {e:M D}:qZ nt fr fo l G t e ρ=match l ρ with
  |.ok (ds,ρ1)=>(match zh G t e ds [] (jJ nt fr ρ1) with|.ok (ys,ρe) => .ok (.lst ys,qlM fo ρe ρ1)|_ => .bad)|.exc x ρ' => .exc x ρ'|.bad => .bad:=by
 simp only[qZ,bnd,sbnd]
 cases l ρ with
 |ok z=>
  obtain⟨z1,ρ1⟩:=z
  dsimp only <;>
  cases zh G t e z1 [] (jJ nt fr ρ1) with
  |ok z=>obtain⟨z2,ρ2⟩:=z;rfl
  |exc x ρ'=>rfl
  |bad=>rfl
 |exc x ρ'=>rfl
 |bad=>rfl
theorem qfz (F:List D->List D->R (D×List D)) (i:Nat):qD F i l ρ=match yz i ρ with
  |none => .bad
  | some _=>(match l ρ with
   |.ok (ds,ρ1)=>(match yz i ρ1 with
    |none => .bad
    |some bs=>(match F bs ds with|.ok (d,bs') => .ok (d,ρ1.set i (some (.lst bs')))|_ => .bad))
   |.exc x ρ' => .exc x ρ'|.bad => .bad):=by
 simp only[qD,bnd]
 cases yz i ρ with
 |none=>rfl
 | some _=>
  dsimp only <;>
  cases l ρ with
  | ok z=>
   obtain⟨z1,ρ1⟩:=z
   dsimp only <;>
   cases yz i ρ1 with
   |none=>rfl
   |some bs=>
    dsimp only <;>
    cases F bs z1 with
    |ok z=>obtain⟨z2,z3⟩:=z;rfl
    |exc x ρ'=>rfl
    |bad=>rfl
  |exc x ρ'=>rfl
  |bad=>rfl
theorem qjO (F:List D->R D):qfw F l ρ=match l ρ with
  |.ok (ds,ρ1)=>(if immFs ds then(match F ds with|.ok (.lst bs)=>(if immL bs then .ok (bs,ρ1)else .bad)|_ => .bad)else .bad)|.exc x ρ' => .exc x ρ'|.bad => .bad:=by
 simp only[qfw,bnd,sbnd]
 cases l ρ with
 | ok z=>
  obtain⟨z1,ρ1⟩:=z
  dsimp only <;>
  cases immFs z1 with
  |false=>rfl
  |true=>
   simp only[if_true]
   cases F z1 with
   |ok z=>cases z<;>rfl
   |exc x ρ'=>rfl
   |bad=>rfl
 |exc x ρ'=>rfl
 |bad=>rfl
theorem qfA (i:Nat):qce i f ρ=match yz i ρ with
  |none => .bad
  | some _=>(match f ρ with
   |.ok (k,ρ1)=>(match k,yz i ρ1 with
    |.int n,some ds=>(match atI ds n with|some d => .ok (d,ρ1)|none => .bad)
    |_,_ => .bad)
   |.exc x ρ' => .exc x ρ'|.bad => .bad):=by
 simp only[qce,bnd]
 cases yz i ρ with
 |none=>rfl
 | some _=>
  dsimp only <;>
  cases f ρ with
  |ok z=>
   obtain⟨z1,ρ1⟩:=z
   dsimp only <;>
   cases z1<;>cases yz i ρ1<;>try rfl
  |exc x ρ'=>rfl
  |bad=>rfl
theorem qjP (i:Nat):qlO i k f ρ=match f ρ with
  | .ok (d,ρ1)=>(match yz i ρ1 with
   |none => .bad
   | some _=>(match k ρ1 with
    | .ok (j,ρ2)=>(match j,yz i ρ2 with
     |.int n,some ds=>(match ixN ds.length n with
      |some q=>if imm d then .ok (.nx (ρ2.set i (some (.lst (ds.set q d)))))else .bad
      |none => .bad)
     |_,_ => .bad)
    |.exc x ρ' => .exc x ρ'|.bad => .bad))
  |.exc x ρ' => .exc x ρ'|.bad => .bad:=by
 simp only[qlO,bnd,sbnd]
 cases f ρ with
 | ok z=>
  obtain⟨z1,ρ1⟩:=z
  dsimp only <;>
  cases yz i ρ1 with
  |none=>rfl
  | some _=>
   dsimp only <;>
   cases k ρ1 with
   |ok z=>
    obtain⟨z2,ρ2⟩:=z
    dsimp only <;>
    cases z2<;>cases yz i ρ2<;>try rfl
   |exc x ρ'=>rfl
   |bad=>rfl
 |exc x ρ'=>rfl
 |bad=>rfl
theorem qjQ (i:Nat):qgA i ρ=match yz i ρ with|some ds => .ok (.tup ds,ρ)|none => .bad:=by
 unfold qgA
 cases yz i ρ<;>rfl
theorem qcS (i:Nat):jg i f ρ=match yz i ρ with
  |none => .bad
  | some _=>(match f ρ with
   |.ok (d,ρ1)=>(match yz i ρ1 with
    |some ds=>if imm d&&qY (ds.length+1)then .ok (.non,ρ1.set i (some (.lst (ds++[d]))))else .bad
    |none => .bad)
   |.exc x ρ' => .exc x ρ'|.bad => .bad):=by
 simp only[jg,bnd]
 cases yz i ρ with
 |none=>rfl
 | some _=>
  dsimp only <;>
  cases f ρ with
  |ok z=>
   obtain⟨z1,ρ1⟩:=z
   dsimp only <;>
   cases yz i ρ1<;>rfl
  |exc x ρ'=>rfl
  |bad=>rfl
theorem qgI:qin f ρ=match f ρ with|.ok (.int i,ρ1) => .ok (some i,ρ1)|.ok _ => .bad|.exc x ρ' => .exc x ρ'|.bad => .bad:=by
 simp only[qin,bnd,sbnd]
 cases f ρ with
 |ok z=>
  obtain⟨z1,ρ1⟩:=z
  cases z1<;>rfl
 |exc x ρ'=>rfl
 |bad=>rfl
end
theorem yR {n:Nat} (h:n<=1000000):qY n=true:=by
 unfold qY
 exact decide_eq_true (yaP h (by rw[PySem.sizeLine_eq];decide))
theorem qoX {n p:Nat} {body:MS} {ds:List D} {d:D} {ρ:Env} (h:ds.length=p) (e:body (qaW n ds)=.ok (.rt d ρ)):dfn n p body ds=.ok d:=by
 unfold dfn;rw[if_pos h,e]
theorem qjR {n p:Nat} {body:MS} {bs ds bs':List D} {d:D} {ρ:Env} (h:ds.length+1=p) (e:body (qaW n (.lst bs::ds))=.ok (.rt d ρ)) (g:yz 0 ρ=some bs'):qcP n p body bs ds=.ok (d,bs'):=by
 unfold qcP;rw[if_pos h,e];simp only[g]
end L2.Sk
namespace L2.Sk
open PySem PySem.Spec PyProof.Rows
section
variable{prog:yar}{w:World}{A:yau}{E:Value->yab->Prop}{s:yab}
theorem qjS {l:Addr} {xs:Array Value} {Q:Value->yab->Prop} (t1:s.heap.IsTuple l xs)
  (fin:∀h',IsEnum h' (s.heap.objs.size+1) s.heap.objs.size 0 .none->h'.IsTupleIter s.heap.objs.size l 0->(∀c o,s.heap.get? c=some o->h'.get? c=some o)->Q (.ref (s.heap.objs.size+1)) {s with heap:=h' }) :
  wpAny (model prog w) A (call (.type "enumerate") [.ref l]) Q E s:=by
 have meets:Meets (yaX.«enumerate.__new__» ⟨[.type "enumerate",.ref l],[]⟩) (λ_ R s=>s.heap.IsTuple l xs /\
   R (.ok (.ret (.ref (s.heap.objs.size+1)))) {s with heap:=(s.heap.push {cls:=.type "tuple_iterator",data:=.fields #[.ref l,.int 0 0]}).push {cls:=.type "enumerate",data:=.fields #[.none,.bool false,.ref s.heap.objs.size,ybm 0,.none,.none]} }) :=
  .of_wp λprog w A R s h=>by
   obtain⟨hp,g,d,tk,os⟩:=s
   obtain⟨ha,h⟩:=h
   have hsub:=sub_enumerate
   have hA:yeV (yei ⟨hp,g,d,tk,os⟩) l xs:=ha
   obtain⟨o,ho,_⟩:=id ha
   have ho':hp.get? l=some o:=ho
   wp_walk using ya9 ho'
   refine wpAny_stack_any λst=>yac ?_
   split
   ·rename_i c _ _ _ _ _
    cases (c==ycB "enumerate")
    ·wp_walk using ya9 ho',ycb hA
     simp only[yaN]at *
     exact⟨_,rfl,h⟩
    ·wp_walk using ya9 ho',ycb hA
     simp only[yaN]at *
     exact⟨_,rfl,h⟩
   ·wp_walk using ya9 ho',ycb hA
    simp only[yaN]at *
    exact⟨_,rfl,h⟩
 refine yeW ygh (by decide) (yfo _) (yfD _) (λobj=>yd4 obj _) yfE meets ⟨t1,?_⟩
 generalize e1:s.heap.push {cls:=.type "tuple_iterator",data:=.fields #[.ref l,.int 0 0]}=m1
 have s1:m1.objs.size=s.heap.objs.size+1:=by rw[<-e1,yaN]
 have q1:m1.get? s.heap.objs.size=some {cls:=.type "tuple_iterator",data:=.fields #[.ref l,.int 0 0]}:=by rw[<-e1];exact Heap.get?_push_size _ rfl
 have k1:∀c o,s.heap.get? c=some o->m1.get? c=some o:=λc o x=>by rw[<-e1];exact Heap.get?_push_of_some _ x
 generalize e2:m1.push {cls:=.type "enumerate",data:=.fields #[.none,.bool false,.ref s.heap.objs.size,ybm 0,.none,.none]}=m2
 have q2:m2.get? (s.heap.objs.size+1)=some {cls:=.type "enumerate",data:=.fields #[.none,.bool false,.ref s.heap.objs.size,ybm 0,.none,.none]}:=by rw[<-e2,<-s1];exact Heap.get?_push_size _ rfl
 have k2:∀c o,m1.get? c=some o->m2.get? c=some o:=λc o x=>by rw[<-e2];exact Heap.get?_push_of_some _ x
 show _/\_
 exact⟨⟨_,q2,rfl⟩,fin m2 q2 ⟨_,k2 _ _ q1,rfl,rfl⟩ λc o x=>k2 _ _ (k1 _ _ x)⟩
end
def Ite (K:Fr0) (a:Addr) (xs:List V):It :=
 ⟨λi H=>i<xs.length/\SqT K H a xs,λi H x H'=>∃p u,H p=none/\xs[i]? = some u/\x=.ref p/\H'=upd H p (.tup [.int i,u]),λi H=>i=xs.length/\SqT K H a xs⟩
def ESt(z i1 a1:Addr)(i:Nat)(h:Heap):Prop:=(∃old,IsEnum h z i1 i old)/\h.IsTupleIter i1 a1 i
theorem qjT {P:yar} {w:World} {K:Fr0} {es:List Expr} {kk:Nat} {pos:Pos} {z i1 a1:Addr} {xs:List V} (zi:z≠i1) (za:z≠a1) (n1:a1≠i1) :
  qnk P w K (.Tuple es kk pos) (Ite K a1 xs) [z,i1] z (ESt z i1 a1) where
 mem:=by simp
 obj:=λi h st b hb=>by
  obtain⟨⟨old,h1⟩,⟨o4,h4,c4,d4⟩⟩:=st
  simp only[yaD,nN_,or_false]at hb
  rcases hb with rfl|rfl
  ·exact⟨_,h1,λv e=>by cases (show yeh _=ydL v from e)⟩
  ·exact⟨_,h4,λv e=>by rw[d4]at e;cases e⟩
 keep:=λi h h' st k=>by
  obtain⟨⟨old,h1⟩,h4⟩:=st
  exact⟨⟨old,k z (by simp) _ h1⟩,h4.at λo e=>k i1 (by simp) o e⟩
 item:=by
  intro X hP hw hK hc i pins s σ H E I hf st hg
  subst hP hw hK
  obtain⟨hlt,hx⟩:=hg
  obtain⟨⟨old,h1⟩,h4⟩:=st
  obtain⟨it1,r1,p1,z1⟩:=I.tuple hx
  have l1:i<it1.toArray.size:=by rw[sT_,<-r1.length];omega
  have hh:X.A.in1.handled=none:=I.ok.hd hc
  refine ye8 (qaJ hh i1 a1 n1 it1.toArray) h1 ⟨h4,p1⟩ l1 zi (by simp[zi,za]) λx h' tk px ho u1 new hsz kp=>?_
  refine⟨.ref s.heap.objs.size,rfl,yew ho λh2' zz2 sb=>?_⟩
  obtain⟨xv,hxv⟩:∃v,xs[i]? = some v:=⟨xs[i]'(by omega),gG (by omega)⟩
  obtain⟨x',ex,rx⟩:=r1.get hxv
  have exx:x'=x:=by
   have:it1.toArray[i]? = some x:=px
   rw[List.getElem?_toArray,ex]at this
   exact yaw this
  subst exx
  have lz:z<s.heap.objs.size:=yae h1
  have keep:∀b u,b ∉ [z,i1]->s.heap.get? b=some u->h2'.get? b=some u:=λb u hb e=>by
   simp only[yaD,nN_,or_false,not_or]at hb
   exact(sb.2 b hb.1).trans (kp b u hb.1 hb.2 e)
  have I2:Inv X pins σ (upd H s.heap.objs.size (.tup [.int i,xv])) {s with heap:=h2',toks:=tk+1} :=
   qgE I keep hf (yah _) ⟨by show 2<=yav;decide,[.int i tk,x'],.cons ⟨tk,rfl⟩ (.cons rx .nil),⟨_,(sb.2 _ (ybL lz)).trans new,rfl,_,rfl⟩⟩
  refine⟨.ref s.heap.objs.size,upd H s.heap.objs.size (.tup [.int i,xv]),I2,rfl,⟨s.heap.objs.size,xv,I.hok.fresh (yah _),hxv,rfl,rfl⟩,?_,λb hb=>?_⟩
  ·exact⟨⟨_,by simpa using zz2⟩,u1.1.at λo e=>(sb.2 i1 zi.symm).trans e⟩
  ·have hb1:b≠s.heap.objs.size:=by
    simp only[yaD,nN_,or_false]at hb
    obtain⟨o4,g4,_⟩:=h4
    rcases hb with rfl|rfl
    ·exact yao (yae h1)
    ·exact yao (yae g4)
   rw[qx hb1]
   exact(hf b hb).1
 done:=by
  intro X hP hw hK hc i pins s σ H E I hf st hg
  subst hP hw hK
  obtain⟨hlt,hx⟩:=hg
  obtain⟨⟨old,h1⟩,h4⟩:=st
  obtain⟨it1,r1,p1,z1⟩:=I.tuple hx
  have hh:X.A.in1.handled=none:=I.ok.hd hc
  have e:i=it1.toArray.size:=by rw[sT_,<-r1.length];exact hlt
  subst e
  refine yfp (qaJ hh i1 a1 n1 it1.toArray) h1 ⟨h4,p1⟩ λh' kp=>⟨rfl,qgF (t':=s.toks) I (λb u hb e=>?_) hf⟩
  simp only[yaD,nN_,or_false,not_or]at hb
  exact kp b u hb.2 e
 self:=λA i s Q E st h=>by
  obtain⟨⟨old,h1⟩,_⟩:=st
  exact ydp h1 h
section
variable{X:Cx}{c:Fc}{a b e:Expr}{pos:Pos}{es:List Expr}{kk:Nat}{tp:Pos}
def qsL(K:Fr0)(ta:TA):TI:=λσ H R=>ta σ H λvs H1=>∃a1 xs,vs=[.ref a1]/\SqT K H1 a1 xs/\R (Ite K a1 xs) H1
theorem qoY {ta:TA} {p:Pos} (hg:Gl X "enumerate") (hm:X.mg "enumerate"=none) (ha:PA X [a] ta) (hs:yam [a] X.env=[(false,eval a X.env)]:=by rfl) :
  PI X (.Tuple es kk tp) (.Call (.Name "enumerate" p) [a] [] pos) (qsL X.K ta):=by
 intro pins s σ H R I h
 refine Call_ (wT I hg hm yem (yaW (thn (ha pos pins s σ H _ I h) λus s1 ⟨vs,H1,I1,r1,q1⟩=>?_) (by rw[hs];rfl) (by rfl)))
 obtain⟨a1,xs,e1,hx,q⟩:=q1
 subst e1
 obtain⟨u1,rfl,ru1⟩:=zT.one r1
 cases (show u1=yat a1 from ru1)
 obtain⟨it1,v1,p1,z1⟩:=I1.tuple hx
 refine qjS (show s1.heap.IsTuple a1 it1.toArray from p1) λh' zz g1 kp=>?_
 refine ydp zz ?_
 have la1:a1<s1.heap.objs.size:=by obtain⟨o,e,_⟩:=p1;exact yae e
 refine⟨s1.heap.objs.size+1,[s1.heap.objs.size+1,s1.heap.objs.size],_,_,H1,rfl,I1.kept (t':=s1.toks) kp,qjT (xs:=xs) (ycX _) (ybL (yb3 la1)) (yao la1),⟨⟨_,zz⟩,g1⟩,λb hb=>?_,q⟩
 simp only[yaD,nN_,or_false]at hb
 have hb2:s1.heap.objs.size<=b:=by
  rcases hb with e|e<;>rw[e]
  ·exact yb8 _ _
  ·exact yah _
 exact I1.fpOk hb2 (I1.hok.fresh hb2)
def vc (k:Nat):List D->List D
 | []=>[]
 |x::xs => .tup [.int (k:Nat),x]::vc (k+1) xs
theorem qak:∀(k:Nat)(xs:List D),(vc k xs).length=xs.length
 |_,[]=>rfl
 |k,x::xs=>by simp[vc,qak (k+1) xs]
theorem qcT:∀{xs:List D}{k i:Nat}{d:D},(vc k xs)[i]? = some d->∃x,xs[i]? = some x/\d=.tup [.int ((k+i:Nat):Int),x]
 | [],_,_,_,h=>by simp[vc]at h
 |x::xs,k,0,d,h=>by
  have:D.tup [.int (k:Nat),x]=d:=by simpa [vc] using h
  exact⟨x,rfl,this.symm⟩
 |x::xs,k,i+1,d,h=>by
  obtain⟨y,h1,h2⟩:=qcT (xs:=xs) (k:=k+1) (i:=i) (d:=d) (by simpa [vc] using h)
  exact⟨y,by simpa using h1,by rw[h2];congr 4;omega⟩
theorem qoZ {K:Fr0} {A:Addr->Prop} {H:Hp} {ds:List D} {xs:List V} {a1:Addr} (t1:vL K H a1 xs) (i1:IsL K A H ds xs):qi1 K A H (vc 0 ds) (Ite K a1 xs) where
 go:=λH' i d ex hd=>by
  have hl:i<(vc 0 ds).length:=(gI_.mp hd).1
  rw[qak,<-i1.length]at hl
  exact⟨hl,(t1.elim (λh => .inl (ex.tup _ _ h)) .inr:vL K H' a1 xs).sq⟩
 yl:=λH' i d x H'' ex hd y=>by
  obtain⟨p,u,hp,hu,rfl,rfl⟩:=y
  obtain⟨dx,h1,rfl⟩:=qcT hd
  obtain⟨u',g1,g2⟩:=i1.get h1
  rw[hu]at g1
  cases g1
  have sm:=qC hp (.tup [.int i,u])
  exact⟨sm,p,[.int i,u],rfl,.inl qz,.int i,[u],rfl,by rw[ybf];rfl,u,[],rfl,Is.ext (Ext.of_same sm) (λ_ h _=>h) (Is.ext ex (λ_ h _=>h) g2),rfl⟩
 stop:=λH' ex=>⟨by rw[qak,i1.length],(t1.elim (λh => .inl (ex.tup _ _ h)) .inr:vL K H' a1 xs).sq⟩
def qlY:List D->Option (List D)
 | [.tup xs]=>some (vc 0 xs)
 |_=>none
def qlZ(f:M (List D)):M (List D):=bnd f λds=>lift (qlY ds)
theorem qo0 {f:M (List D)} {p:Pos} (hg:Gl X "enumerate") (hm:X.mg "enumerate"=none) (ha:DA X c [a] f) (hs:yam [a] X.env=[(false,eval a X.env)]:=by rfl) :
  DI X c (.Tuple es kk tp) (.Call (.Name "enumerate" p) [a] [] pos) (qlZ f):=by
 obtain⟨t,pa,w⟩:=ha
 refine⟨_,qoY hg hm pa hs,λρ σ H Q r h=>w ρ σ H _ r (WpL.bndI h λds ρ1 vs H1 r1 i1 g1 h1=>?_)⟩
 obtain⟨es',e,h2⟩:=wz h1
 unfold qlY at e
 split at e
 ·obtain⟨v,rfl,j1⟩:=IsL.inv1 i1
  cases e
  obtain⟨a1,xs,rfl,t1,il1⟩:=Is.tr j1
  exact⟨a1,xs,rfl,t1.sq,h2 _ H1 r1 (qoZ t1 il1) .refl⟩
 ·cases e
end
def vD:D->V
 |.bl b => .bl b
 |.int i => .int i
 |.str x => .str x
 |_ => .non
def flD:D->Bool
 |.non=>true
 |.bl _=>true
 |.int _=>true
 |.str _=>true
 |_=>false
def sqD:D->Option (List D)
 |.tup ds=>some ds
 |.lst ds=>some ds
 |_=>none
def inD (x y:D):OD:=match sqD y with
 |some ds=>if flD x&&ds.all flD then some (.bl (ds.any λd=>eqV (vD d) (vD x)))else none
 |none=>none
def qpZ (x y:D):OD:=match sqD y with
 |some ds=>if flD x&&ds.all flD then some (.bl (!ds.any λd=>eqV (vD d) (vD x)))else none
 |none=>none
theorem qnK {K:Fr0} {A:Addr->Prop} {H:Hp} {d:D} {v:V} (h:Is K A H d v) (f:flD d=true):v=vD d/\qcj v=true:=by
 cases d<;>first|(cases h;exact⟨rfl,rfl⟩)|cases f
theorem qgJ {K:Fr0} {A:Addr->Prop} {H:Hp}:∀{ds:List D}{vs:List V},IsL K A H ds vs->ds.all flD=true->vs=ds.map vD/\vs.all qcj=true
 | [],_,h,_=>by cases h;exact⟨rfl,rfl⟩
 |d::ds,_,⟨x,ys,hx,h1,h2⟩,f=>by
  rw[ych,yan]at f
  obtain⟨e1,e2⟩:=qnK h1 f.1
  obtain⟨e3,e4⟩:=qgJ h2 f.2
  subst hx
  rw[mC_,<-e1,<-e3,ych,e2,e4]
  exact⟨rfl,rfl⟩
theorem qq8 {K:Fr0} {A:Addr->Prop} {H:Hp} {x y:D} {ds:List D} {v u:V} (ix:Is K A H x v) (iy:Is K A H y u) (e:sqD y=some ds) (f:(flD x&&ds.all flD)=true) :
  ∃p xs,u=.ref p/\(SqL K H p xs\/SqT K H p xs)/\qcj v=true/\xs.all qcj=true/\inV v xs=ds.any λd=>eqV (vD d) (vD x):=by
 rw[yan]at f
 obtain⟨e1,e2⟩:=qnK ix f.1
 cases y<;>simp only[sqD]at e<;>try (cases e;done)
 ·cases e
  obtain⟨a,zs,rfl,ta,il⟩:=iy
  obtain⟨e3,e4⟩:=qgJ il f.2
  exact⟨a,zs,rfl,.inr ta.sq,e2,e4,by rw[e3,e1];unfold inV;rw[yd5];rfl⟩
 ·cases e
  obtain⟨a,zs,rfl,_,ta,il⟩:=iy
  obtain⟨e3,e4⟩:=qgJ il f.2
  exact⟨a,zs,rfl,.inl (SqL.of ta),e2,e4,by rw[e3,e1];unfold inV;rw[yd5];rfl⟩
theorem qo1 {K:Fr0}:OpS K qpZ (rIn K true):=by
 intro A H x y d v u Q hn ix iy e k
 unfold qpZ at e
 split at e
 ·rename_i ds es
  obtain⟨e1,e2⟩:=jI e
  subst e2
  obtain⟨p,xs,h1,h2,h3,h4,h5⟩:=qq8 ix iy es e1
  exact⟨p,xs,h1,h2,h3,h4,by rw[<-h5]at k;exact k _ H (yA.refl H) rfl⟩
 ·cases e
theorem qgK {l:M (List D)} {ρ:Env}:qlZ l ρ=match l ρ with|.ok (d,ρ1)=>(match qlY d with|some ds => .ok (ds,ρ1)|none => .bad)|.exc x ρ' => .exc x ρ'|.bad => .bad:=by
 simp only[qlZ,bnd]
 cases l ρ with
 |ok z=>obtain⟨z1,ρ1⟩:=z;(dsimp only;cases qlY z1<;>rfl)
 |exc x ρ'=>rfl
 |bad=>rfl
section
variable{X:Cx}{tg iter elt:Expr}{ifs:List Expr}{scope:Scope}{pos:Pos}{wi:TI}{N':List Str}{nt:Nat}{fr:List Nat}
theorem qo2 {i:Nat} {x:Str} {pos' spos:Pos} (hN:X.N.Nodup) (hix:X.N[i]? = some x) (hx:Loc X.env.scope x) (hfx:X.fn x=true\/X.env.scope.names.lookup x=some .local) (hc:X.calm=true) (hi:PI X tg iter wi) (S:jZ X scope N' nt fr)
  (hsw:ydK (.ListComp elt [⟨tg,iter,ifs,0⟩] scope pos) (some (.Name x pos')) spos.line X.env=pure true)
  (hs:∀x,yb2 iter X.env x=pure x:=by intro _;rfl):PS X (.Assign [.Name x pos'] (.ListComp elt [⟨tg,iter,ifs,0⟩] scope pos) spos) (λD σ H=>qlL X tg ifs elt scope N' wi nt fr σ H λv H'=>D.nx (σ.set i (some v)) H'):=by
 intro pins s σ H D I hw
 obtain⟨cl,hcl,cl1,cl2⟩:=qbp (env:=X.env) (scope:=scope) (λy hy hf=>I.ok.has y.1 (.inl (S.frees y hy hf)))
 rw[exec_Assign_Name_used _ _ _ _ hsw]
 refine yaa (ydy (yaa ?_))
 show wpAny (model X.prog X.w) X.A (comprehension (.ListComp elt [⟨tg,iter,ifs,0⟩] scope pos) scope X.env _ (newList []) false (eval iter X.env) (some (yc0 (.Name x pos') X.env)) >>= λ_=>pure ()) _ _ s
 refine yaa (thn (Q:=λ_ s'=>SP X pins D .next s') ?_ λ_ s' q=>yac (yac q))
 refine yeU (use:=some (yc0 (.Name x pos') X.env)) rfl hs hcl S.kind S.names (thn (hi pins s σ H _ I hw) λv s1 h1=>thn h1 λitv s2 h2=>?_)
 obtain⟨it,fp,tn,J,H2,e,I2,T,st2,f2,hR⟩:=h2
 subst e
 have hacc:H2 s2.heap.objs.size=none:=I2.hok.fresh (yah _)
 refine yay (yfM S.nocell (by intro y hy;simp at hy) (λhV hns1 hsb1=>?_) S.kind)
 dsimp only at hns1 hsb1 |-
 have I3:Inv X pins σ (upd H2 s2.heap.objs.size (.lst [])) {s2 with heap:=s2.heap.push {cls:=.type "list",dict:=none,data:=.seq ([]:List Value).toArray} } :=
  I2.lnew (t':=s2.toks) (its:=[]) .nil (ybB _)
 generalize hs3:({s2 with heap:=s2.heap.push {cls:=.type "list",dict:=none,data:=.seq ([]:List Value).toArray} }:yab)=s3 at I3
 have hh3:s2.heap.push {cls:=.type "list",dict:=none,data:=.seq ([]:List Value).toArray}=s3.heap:=by rw[<-hs3]
 rw[hh3]at hns1 hsb1
 have old:∀b o,s3.heap.get? b=some o->hV.get? b=some o:=λb o q=>hsb1.extBut b o (yao (yae q)) (Heap.get?_push_of_some _ q)
 have objs2:∀b∈fp,∃o,s2.heap.get? b=some o:=λb hb=>by
  obtain⟨o,q,_⟩:=T.obj 0 _ st2 b hb
  exact⟨o,q⟩
 have keep23:∀b o,s2.heap.get? b=some o->s3.heap.get? b=some o:=λb o q=>by rw[<-hh3];exact Heap.get?_push_of_some _ q
 have fpne:∀b∈fp,b≠s2.heap.objs.size:=λb hb=>by
  obtain⟨o,q⟩:=objs2 b hb
  exact yao (yae q)
 have f3:∀b∈fp,qhe X pins (upd H2 s2.heap.objs.size (.lst [])) b:=λb hb=>⟨by rw[qx (fpne b hb)];exact(f2 b hb).1,(f2 b hb).2⟩
 have J0:Inv (z6 X scope N' fp cl s3.heap.objs.size s3 (upd H2 s2.heap.objs.size (.lst [])) (X.pn++pins)) [] (qF nt fr σ) (upd H2 s2.heap.objs.size (.lst [])) {s3 with heap:=hV,toks:=s3.toks} :=
  qdK S I3 f3 (λb hb=>(objs2 b hb).imp λo q=>keep23 b o q) cl1 cl2 ⟨_,hns1⟩ old
 obtain⟨g,tt,te,hg,hf,he,W,⟨m0,w0⟩,turn⟩:=hR s2.heap.objs.size fp cl s3.heap.objs.size s3 (upd H2 s2.heap.objs.size (.lst [])) (X.pn++pins) hacc
 have T0:tn 0 hV:=T.keep 0 _ _ st2 λb hb o q=>old b o (keep23 b o q)
 have s3e:∀tk:Nat,({s2 with heap:=hV,toks:=tk}:yab)={s3 with heap:=hV,toks:=tk}:=λtk=>by rw[<-hs3]
 have loop:∀tk:Nat,ybI (model X.prog X.w) X.A (.compLoop (.ListComp elt [⟨tg,iter,ifs,0⟩] scope pos) 0 (.ref it) (.ref s2.heap.objs.size) (yfL scope cl s3.heap.objs.size X.env))
   (ygN (model X.prog X.w) X.A X.xe (some (yc0 (.Name x pos') X.env)) (λ_ s'=>SP X pins D .next s') (.ref s2.heap.objs.size) s3.heap.objs.size) {s3 with heap:=hV,toks:=tk}:=λtk=>by
  have stat:∀{H':Hp},(∀b∈fp,H' b=none)->∀b∈fp,qhe (z6 X scope N' fp cl s3.heap.objs.size s3 (upd H2 s2.heap.objs.size (.lst [])) (X.pn++pins)) [] H' b:=λ{H'} hn b hb=>by
   obtain⟨o,q⟩:=objs2 b hb
   have hbC:b≠s3.heap.objs.size:=yao (yae (keep23 b o q))
   refine⟨hn b hb,hbC,λz=>?_,.inl hb,λx c hx=>(f2 b hb).2.2.2.2.1 x c (cl1 x c hx),λp hp=>?_⟩
   ·rcases List.mem_cons.mp (I2.stkSub b z)with z|z
    ·exact(f2 b hb).2.1 z
    ·exact(f2 b hb).2.2.1 z
   ·have hp':p∈X.pn++pins:=by
     rcases mA_.mp (show p∈(X.pn++pins)++[]from hp)with z|z
     ·exact z
     ·cases z
    exact(f2 b hb).2.2.2.2.2 p hp'
  have fr0:∀b∈fp,upd H2 s2.heap.objs.size (.lst []) b=none:=λb hb=>(f3 b hb).1
  refine qcO (λn s'=>∃i σ' H',Inv (z6 X scope N' fp cl s3.heap.objs.size s3 (upd H2 s2.heap.objs.size (.lst [])) (X.pn++pins)) [] σ' H' s'/\tn i s'.heap/\(∀b∈fp,H' b=none)/\W i n σ' H') ?_ m0
   ⟨0,qF nt fr σ,_,J0.tok tk,T0,fr0,w0⟩
  rintro n s4 ⟨i,σ4,H4,J4,st4,fr4,w4⟩
  rcases turn i n σ4 H4 w4 with⟨stop,qn⟩|⟨go,step⟩
  ·refine thn (T.done (z6 X scope N' fp cl s3.heap.objs.size s3 (upd H2 s2.heap.objs.size (.lst [])) (X.pn++pins)) rfl rfl rfl hc i [] s4 σ4 H4 _ J4 (stat fr4) st4 stop) λr s5 ⟨hr,J5⟩=>?_
   subst hr
   obtain⟨m5,n5,_⟩:=J5.loc
   have I5:Inv X pins σ H4 s5:=qhn I3 f3 J5 (ygz ..)
   have lC:X.env.locals≠s3.heap.objs.size:=yao I3.lt
   have cC:∀y c,X.env.cells.lookup y=some c->c≠s3.heap.objs.size:=λy c hy=>by
    obtain⟨v,o,ho,_⟩:=I3.cell y c hy
    exact yao (yae ho)
   have pC:∀p∈X.pn++pins,p.1≠s3.heap.objs.size:=λp hp=>yao (yae (I3.pin p hp).1)
   refine ygr (qe6 (v:=.ref s2.heap.objs.size) I5 hN hix hx rfl (λs'' I6 ⟨a,sb,ha⟩=>?_) hfx)
   have aC:s3.heap.objs.size≠a:=by
    rcases ha with rfl|ha
    ·exact lC.symm
    ·exact(cC _ _ ha).symm
   exact⟨m5,n5.sameBut sb aC,λh' sb'=>⟨_,H4,I6.turned (t':=s''.toks) (λb o hb q=>(sb'.2 b hb).trans q) J5.free lC.symm (.inr I3.sz) cC pC,qn⟩⟩
  ·refine thn (T.item (z6 X scope N' fp cl s3.heap.objs.size s3 (upd H2 s2.heap.objs.size (.lst [])) (X.pn++pins)) rfl rfl rfl hc i [] s4 σ4 H4 _ J4 (stat fr4) st4 go) λr s5 ⟨u,hr,h5⟩=>?_
   subst hr
   refine thn h5 λ_ s6 ⟨x,H6,J6,r6,y6,st6,fr6⟩=>?_
   have J6':=J6.pinned (stat fr6) (T.obj _ _ st6)
   have again:∀{σ7:St}{H7:Hp}{s7:yab},Inv (z6 X scope N' fp cl s3.heap.objs.size s3 (upd H2 s2.heap.objs.size (.lst [])) (X.pn++pins)) ([]++qdG fp s6.heap) σ7 H7 s7->(∃m',m'<n/\W (i+1) m' σ7 H7) ->
     ∃m,m<n/\∃i σ' H',Inv (z6 X scope N' fp cl s3.heap.objs.size s3 (upd H2 s2.heap.objs.size (.lst [])) (X.pn++pins)) [] σ' H' s7/\tn i s7.heap/\(∀b∈fp,H' b=none)/\W i m σ' H':=λ{σ7 H7 s7} I7 hm=>by
    obtain⟨m',hm,w7⟩:=hm
    refine⟨m',hm,i+1,σ7,H7,I7.unpinned,T.keep _ _ _ st6 λb hb o q=>(I7.pin (b,o) (mr_ _ (mr_ _ (uV hb q)))).1,λb hb=>?_,w7⟩
    obtain⟨o,q,d⟩:=T.obj _ _ st6 b hb
    exact(I7.pin (b,o) (mr_ _ (mr_ _ (uV hb q)))).2.1
   refine thn (hg _ s6 σ4 H6 x u _ J6' r6 (step x H6 y6)) λ_ s7 ⟨σ7,H7,J7,q7⟩=>?_
   refine thn (hf _ s7 σ7 H7 _ J7 q7) λok s8 ⟨H8,J8,q8⟩=>?_
   cases ok with
   |false=>
    rw[if_neg yaq]at q8 |-
    exact again J8 q8
   |true=>
    rw[if_pos rfl]at q8 |-
    refine thn (he _ s8 σ7 H8 _ J8 q8) λz s9 ⟨y,H9,J9,r9,ys,hys,hz,hm⟩=>?_
    refine thn (qcF _ s9 σ7 H9 (.ref s2.heap.objs.size) [y] (.ref s2.heap.objs.size) [z] (λ_ H'=>H'=upd H9 s2.heap.objs.size (.lst (ys++[y]))) J9 rfl (.cons r9 .nil) ⟨_,ys,y,rfl,rfl,hys,hz,rfl⟩) λ_ s10 ⟨_,H10,J10,_,e10⟩=>?_
    subst e10
    exact again J10 hm
 have yU:∀tk:Nat,ybI (model X.prog X.w) X.A (.compStart (.ListComp elt [⟨tg,iter,ifs,0⟩] scope pos) 0 (.ref it) (.ref s2.heap.objs.size) (yfL scope cl s3.heap.objs.size X.env))
   (ygN (model X.prog X.w) X.A X.xe (some (yc0 (.Name x pos') X.env)) (λ_ s'=>SP X pins D .next s') (.ref s2.heap.objs.size) s3.heap.objs.size) {s3 with heap:=hV,toks:=tk}:=λtk=>
  yfn (loop tk) (T.self X.A 0 _ _ _ T0 (loop tk))
 have fin:=yU (s2.toks+([]:List (Str×Value)).length)
 rw[<-s3e]at fin
 rw[<-hh3]at fin
 rw[hh3]at fin |-
 exact fin
end
section
variable{X:Cx}{c:Fc}
def DC(X:Cx)(c:Fc)(tg it elt:Expr)(ifs:List Expr)(scope:Scope)(N':List Str)(nt:Nat)(fr:List Nat)(f:M D):Prop:=∃wi,PI X tg it wi/\∀ρ σ H Q,Rep X.K c ρ σ H->Wp X.K c σ H Q (f ρ)->qlL X tg ifs elt scope N' wi nt fr σ H Q
theorem qjU {it elt tg:Expr} {ifs:List Expr} {scope:Scope} {N':List Str} {nt:Nat} {fr:List Nat} {fo:Option (Nat×Nat)} {f:M (List D)} {g:D->Env->Option Env} {t:M Bool} {k:M D} (hc:X.calm=true) (hi:DI X c tg it f) (S:jZ X scope N' nt fr)
  (hfo:qlN c nt fr fo)
  (hb:∀fp cl C s₀ H₀ pn B0 H1 Io' acc S',DG (z6 X scope N' fp cl C s₀ H₀ pn) (cin B0 H1 (foO fo) Io' acc S') tg g/\DF (z6 X scope N' fp cl C s₀ H₀ pn) (cin B0 H1 (foO fo) Io' acc S') ifs t/\DE (z6 X scope N' fp cl C s₀ H₀ pn) (cin B0 H1 (foO fo) Io' acc S') elt k)
  : DC X c tg it elt ifs scope N' nt fr (qZ nt fr fo f g t k):=by
 obtain⟨wi,pi,wI⟩:=hi
 refine⟨wi,pi,λρ σ H Q r h=>wI ρ σ H _ r (WpI.bnd h λds ρ1 J H1 r1 iok g1 h1=>?_)⟩
 intro acc fp cl C s₀ H₀ pn hn
 obtain⟨⟨tg',pg,wg⟩,⟨tt,pt,wt⟩,⟨te,pe,we⟩⟩:=hb fp cl C s₀ H₀ pn (Cn c σ) H1 (qcr σ fo) acc λj=>(qF nt fr σ)[j]?
 refine⟨tg',tt,te,pg,pt,pe,?_⟩
 cases ew:zh g t k ds [] (jJ nt fr ρ1) with
 |exc x ρ'=>rw[ew]at h1;exact h1.elim
 |bad=>rw[ew]at h1;exact h1.elim
 | ok p =>
  rw[ew]at h1
  obtain⟨ys,ρe⟩:=p
  have h1:∀v H',Rep X.K c (qlM fo ρe ρ1) σ H'->Is X.K (Cn c σ) H' (.lst ys) v->Gr c.O σ H1 H'->Q v H':=h1
  have accO:∀j∈foO fo,(qF nt fr σ)[j]? ≠ some (some (.ref acc)):=λj hj e=>by
   have r0:=r1.entry (acc:=acc) hn hfo
   cases fo with
   |none=>cases hj
   |some p=>
    obtain⟨i',j'⟩:=p
    have e2:j=i':=by simpa [foO] using hj
    subst e2
    obtain⟨k2,j2,e1,e2,e3⟩:=yh e
    have hk2:k2=j-nt:=by omega
    subst hk2
    rw[hfo.2.2.1]at e2
    cases e2
    obtain⟨a,us,e4,e5,_⟩:=r1.own j' hfo.1 _ e3
    cases e4;rw[hn]at e5;cases e5
  refine ⟨λi m σ' H'=>m=ds.length-i/\i<=ds.length/\∃ρ' zs xs,Rep X.K (cin (Cn c σ) H1 (foO fo) (qcr σ fo) acc λj=>(qF nt fr σ)[j]?) ρ' σ' H'/\(∀j∈foO fo,σ'[j]? = (qF nt fr σ)[j]?)/\H' acc=some (.lst xs)/\IsL X.K (Cn (cin (Cn c σ) H1 (foO fo) (qcr σ fo) acc λj=>(qF nt fr σ)[j]?) σ') H' zs xs/\zh g t k (ds.drop i) zs ρ'=.ok (ys,ρe),
   ⟨ds.length,by simp,ybB _,jJ nt fr ρ1,[],[],r1.entry hn hfo,λ_ _=>rfl,qz,rfl,by simpa using ew⟩,?_⟩
  rintro i m σ' H' ⟨rfl,hi,ρ',zs,xs,r',so,ha,iz,w⟩
  obtain⟨_,gr⟩:=r1.leave hn hfo (λi j e=>so i (by rw[e];simp[foO])) r'
  have ex:Ext (CnT c σ H1) H1 H':=⟨gr.ext.tup,gr.ext.frz,λb o hb hq=>gr.ext.at_ b o hb.1.2 hq⟩
  have accC:∀τ:St,(∀j∈foO fo,τ[j]? = (qF nt fr σ)[j]?)->Cl (foO fo) τ acc:=λτ hτ j hj e=>accO j hj (by rw[<-hτ j hj];exact e)
  by_cases hlt:i<ds.length
  ·refine .inr ⟨iok.go H' i ds[i] ex (by simp[hlt]),λx H'' y=>?_⟩
   obtain⟨sm,ix⟩:=iok.yl H' i ds[i] x H'' ex (by simp[hlt]) y
   rw[qaI hlt]at w
   unfold zh at w
   have ix2:Is X.K (Cn (cin (Cn c σ) H1 (foO fo) (qcr σ fo) acc λj=>(qF nt fr σ)[j]?) σ') H'' ds[i] x:=Is.ext Ext.refl (λa ha _=>⟨⟨ha.1,λe=>by
    have:=ha.2
    rw [e,hn]at this;cases this⟩,λj hj e=>by
     rw[so j hj]at e
     cases fo with
     |none=>cases hj
     |some p=>
      obtain⟨i',j'⟩:=p
      have e2:j=i':=by simpa [foO,cin] using hj
      subst e2
      obtain⟨k2,j2,e1,e2,e3⟩:=yh e
      have hk2:k2=j-nt:=by omega
      subst hk2
      rw[hfo.2.2.1]at e2
      cases e2
      exact ha.1.2 j' hfo.1 e3⟩) ix
   cases e1:g ds[i] ρ' with
   |none=>simp only[e1]at w;cases w
   | some ρ2=>
    simp only[e1]at w
    refine wg ρ' σ' H'' ds[i] x ρ2 _ (r'.same sm) ix2 e1 λσ2 r2 g2 o2=>?_
    have so2:∀j∈foO fo,σ2[j]? = (qF nt fr σ)[j]? := λj hj=>(o2 j hj).trans (so j hj)
    have ha2:H'' acc=some (.lst xs):=sm _ _ ha
    have iz2:=g2.isL (IsL.ext (Ext.of_same sm) (λ_ h _=>h) iz)
    cases e2:t ρ2 with
    |exc x ρ3=>simp only[e2]at w;cases w
    |bad=>simp only[e2]at w;cases w
    | ok p2=>
     obtain⟨bb,ρ3⟩:=p2
     refine wt ρ2 σ2 H'' _ r2 ?_
     rw[e2]
     intro H3 r3 g3
     have ha3:H3 acc=some (.lst xs):=g3.ext.at_ _ _ (accC σ2 so2) ha2
     have iz3:=g3.isL iz2
     cases bb with
     |false=>
      rw[if_neg yaq]
      simp only[e2]at w
      exact⟨ds.length-(i+1),by omega,rfl,hlt,ρ3,zs,xs,r3,so2,ha3,iz3,w⟩
     | true=>
      rw[if_pos rfl]
      simp only[e2]at w
      cases e3:k ρ3 with
      |exc x ρ4=>simp only[e3]at w;cases w
      |bad=>simp only[e3]at w;cases w
      | ok p3=>
       obtain⟨d4,ρ4⟩:=p3
       simp only[e3]at w
       refine we ρ3 σ2 H3 _ r3 ?_
       rw[e3]
       intro y4 H4 r4 i4 g4
       have ha4:H4 acc=some (.lst xs):=g4.ext.at_ _ _ (accC σ2 so2) ha3
       have hsz:qY (zs.length+1)=true:=by
        cases e5:qY (zs.length+1) with
        |true=>rfl
        |false=>rw[e5]at w;simp at w
       rw[if_pos hsz]at w
       have hsz':zs.length+1<=yav:=of_decide_eq_true hsz
       have r5:=r4.grow (ys:=xs++[y4]) ha4 (λj hj e=>accC σ2 so2 j hj e)
       have ext5:Ext (Cn (cin (Cn c σ) H1 (foO fo) (qcr σ fo) acc λj=>(qF nt fr σ)[j]?) σ2) H4 (upd H4 acc (.lst (xs++[y4]))):=⟨λb us hb=>by rw[qx (qaU hb ha4 (by intro z;cases z))];exact hb,λb o u hb=>by rw[qx (qaU hb ha4 (by intro z;cases z))];exact hb,λb o hb hq=>by rw[qx hb.1.2];exact hq⟩
       refine⟨xs,ha4,by rw[iz3.length];omega,ds.length-(i+1),by omega,rfl,hlt,ρ4,zs++[d4],xs++[y4],r5,so2,qz,?_,w⟩
       exact IsL.append (IsL.ext ext5 (λ_ h _=>h) (g4.isL iz3)) (IsL.one (Is.ext ext5 (λ_ h _=>h) i4))
  ·have hie:i=ds.length:=by omega
   subst hie
   rw[ycH (yah _)]at w
   unfold zh at w
   cases w
   obtain⟨r6,g6⟩:=r1.leave hn hfo (λi j e=>so i (by rw[e];simp[foO])) r'
   exact .inl ⟨iok.stop H' ex,h1 _ H' r6 ⟨acc,xs,rfl,r1.new hn,ha,IsL.ext Ext.refl (λa ha hs=>ha.1.1) iz⟩ g6⟩
theorem qjV {i:Nat} {x:Str} {pos' spos pos:Pos} {tg it elt:Expr} {ifs:List Expr} {scope:Scope} {N':List Str} {nt:Nat} {fr:List Nat} {f:M D} (hN:X.N.Nodup) (h:DC X c tg it elt ifs scope N' nt fr f) (hc:X.calm=true) (S:jZ X scope N' nt fr)
  (ho:i ∉ c.O:=by exact of_decide_eq_false rfl) (hix:X.N[i]? = some x:=by rfl) (hx:Loc X.env.scope x:=by first|exact yby rfl|exact ya3 rfl) (hfx:X.fn x=true\/X.env.scope.names.lookup x=some .local:=by first|exact .inl rfl|exact .inr rfl|assumption)
  (hsw:ydK (.ListComp elt [⟨tg,it,ifs,0⟩] scope pos) (some (.Name x pos')) spos.line X.env=pure true:=by rfl) (hs:∀x,yb2 it X.env x=pure x:=by intro _;rfl) :
  DS X c (.Assign [.Name x pos'] (.ListComp elt [⟨tg,it,ifs,0⟩] scope pos) spos) (zG i f):=by
 obtain⟨wi,pi,w⟩:=h
 refine⟨_,qo2 hN hix hx hfx hc pi S hsw hs,λρ σ H D r h=>w ρ σ H _ r (Wp.sbnd h λd ρ1 v H1 r1 i1 g1 h1=>?_)⟩
 exact h1 _ H1 (r1.set ho i1) (.set ho)
end
def qbt:List Int->Int
 | []=>0
 | [n]=>n
 |n::m::ns=>max n (qbt (m::ns))
def qek:List Int->Int
 | []=>0
 | [n]=>n
 |n::m::ns=>min n (qek (m::ns))
theorem qaL:∀(n:Int)(ns:List Int),qbt (n::ns)∈n::ns
 |n,[]=>mS_
 |n,m::ns=>by
  have h:=qaL m ns
  show max n (qbt (m::ns))∈_
  rw[Int.max_def]
  split
  ·exact mM _ h
  ·exact mS_
theorem qel:∀(n:Int)(ns:List Int),∀k∈n::ns,k<=qbt (n::ns)
 |n,[]=>λk hk=>by
  have:k=n:=by simpa using hk
  rw[this];exact ycp _
 |n,m::ns=>λk hk=>by
  have h:=qel m ns
  show k<=max n (qbt (m::ns))
  rcases List.mem_cons.mp hk with rfl|hk
  ·exact Int.le_max_left ..
  ·exact ydb (h k hk) (Int.le_max_right ..)
theorem qem:∀(n:Int)(ns:List Int),qek (n::ns)∈n::ns
 |n,[]=>mS_
 |n,m::ns=>by
  have h:=qem m ns
  show min n (qek (m::ns))∈_
  rw[Int.min_def]
  split
  ·exact mS_
  ·exact mM _ h
theorem qjW:∀(n:Int)(ns:List Int),∀k∈n::ns,qek (n::ns)<=k
 |n,[]=>λk hk=>by
  have:k=n:=by simpa using hk
  rw[this];exact ycp _
 |n,m::ns=>λk hk=>by
  have h:=qjW m ns
  show min n (qek (m::ns))<=k
  rcases List.mem_cons.mp hk with rfl|hk
  ·exact Int.min_le_left ..
  ·exact ydb (Int.min_le_right ..) (h k hk)
theorem qcU {ns:List Int} {z:Int} (h1:z∈ns) (h2:∀n∈ns,n<=z):qbt ns=z:=by
 cases ns with
 |nil=>cases h1
 |cons n ns=>exact yff (h2 _ (qaL n ns)) (qel n ns z h1)
theorem qgL {ns:List Int} {z:Int} (h1:z∈ns) (h2:∀n∈ns,z<=n):qek ns=z:=by
 cases ns with
 |nil=>cases h1
 |cons n ns=>exact yff (qjW n ns z h1) (h2 _ (qem n ns))
theorem uw {zs:Array (Int×Tok)} {i:Nat} (h:i<zs.size):(zs.toList.map (·.1))[i]? = some (numAt zs i):=by
 have h':i<zs.toList.length:=by simpa using h
 rw[gM_,gG h']
 simp[numAt,h]
section
variable{X:Cx}
theorem qfB (hc:X.calm=true):uS X (.builtin "max") (λxs H Q=>∃(p:Addr)(ns:List Int),xs=[.ref p]/\H p=some (.lst (ns.map V.int))/\ns≠[]/\Q (.int (qbt ns)) H):=by
 intro pins s σ H xs us Q I r h
 obtain⟨p,ns,rfl,hp,hne,q⟩:=h
 obtain⟨u,rfl,ru⟩:=zT.one r
 cases ru
 obtain⟨its,rv,pl,hz⟩:=I.list (SqL.of hp)
 have hl:=pl.isList
 have hi:ybJ its ns:=yV rv
 obtain⟨zs,hx⟩:=hi.allInts.items
 have hl':s.heap.IsList p (ybV zs):=hx▸hl
 have e1:ns=zs.toList.map (·.1):=by
  rw[<-ydC,<-hx]
  exact(show numsOf its.toArray.toList=ns from hi.numsOf).symm
 have hsz:0<zs.size:=by
  cases hzz:zs.toList with
  |nil=>rw[hzz]at e1;exact absurd e1 hne
  |cons a b=>
   have:zs.size=zs.toList.length:=by simp
   rw[this,hzz];simp
 refine max_intList (I.ok.hd hc) hl' hsz λv h' tk hv hk=>?_
 obtain⟨t,rfl⟩:=ydv hv
 obtain⟨b1,b2⟩:=argBest_gt (numAt zs) (zs.size-1)
 have e2:qbt ns=numAt zs (yax (λi j=>decide (numAt zs i>numAt zs j)) (zs.size-1)):=by
  refine qcU ?_ λn hn=>?_
  ·rw[e1]
   exact ybt (uw (by omega))
  ·rw [e1]at hn
   obtain⟨j,hj⟩:=List.mem_iff_getElem?.mp hn
   have hj2:j<zs.size:=by
    have:=(gI_.mp hj).1
    simpa using this
   rw[uw hj2]at hj
   cases hj
   exact b2 j (by omega)
 rw[<-e2]
 exact⟨.int _,H,I.kept hk,⟨_,rfl⟩,q⟩
theorem qjX (hc:X.calm=true):uS X (.builtin "min") (λxs H Q=>∃(p:Addr)(ns:List Int),xs=[.ref p]/\H p=some (.lst (ns.map V.int))/\ns≠[]/\Q (.int (qek ns)) H):=by
 intro pins s σ H xs us Q I r h
 obtain⟨p,ns,rfl,hp,hne,q⟩:=h
 obtain⟨u,rfl,ru⟩:=zT.one r
 cases ru
 obtain⟨its,rv,pl,hz⟩:=I.list (SqL.of hp)
 have hl:=pl.isList
 have hi:ybJ its ns:=yV rv
 obtain⟨zs,hx⟩:=hi.allInts.items
 have hl':s.heap.IsList p (ybV zs):=hx▸hl
 have e1:ns=zs.toList.map (·.1):=by
  rw[<-ydC,<-hx]
  exact(show numsOf its.toArray.toList=ns from hi.numsOf).symm
 have hsz:0<zs.size:=by
  cases hzz:zs.toList with
  |nil=>rw[hzz]at e1;exact absurd e1 hne
  |cons a b=>
   have:zs.size=zs.toList.length:=by simp
   rw[this,hzz];simp
 refine min_intList (I.ok.hd hc) hl' hsz λv h' tk hv hk=>?_
 obtain⟨t,rfl⟩:=ydv hv
 obtain⟨b1,b2⟩:=argBest_lt (numAt zs) (zs.size-1)
 have e2:qek ns=numAt zs (yax (λi j=>decide (numAt zs i<numAt zs j)) (zs.size-1)):=by
  refine qgL ?_ λn hn=>?_
  ·rw[e1]
   exact ybt (uw (by omega))
  ·rw [e1]at hn
   obtain⟨j,hj⟩:=List.mem_iff_getElem?.mp hn
   have hj2:j<zs.size:=by
    have:=(gI_.mp hj).1
    simpa using this
   rw[uw hj2]at hj
   cases hj
   exact b2 j (by omega)
 rw[<-e2]
 exact⟨.int _,H,I.kept hk,⟨_,rfl⟩,q⟩
end
def qfC:List D->OD
 | [.lst ds]=>match vt ds with
  |some (n::ns)=>some (.int (qbt (n::ns)))
  |_=>none
 |_=>none
def qiq:List D->OD
 | [.lst ds]=>match vt ds with
  |some (n::ns)=>some (.int (qek (n::ns)))
  |_=>none
 |_=>none
theorem qdM {K:Fr0}:qa5 K qfC (λxs H Q=>∃(p:Addr)(ns:List Int),xs=[.ref p]/\H p=some (.lst (ns.map V.int))/\ns≠[]/\Q (.int (qbt ns)) H):=by
 intro A H xs d vs Q hn h e k
 unfold qfC at e
 split at e
 ·obtain ⟨v,rfl,a,zs,rfl,_,ta,il⟩:=IsL.inv1 h
  split at e
  ·rename_i n ns hi
   cases e
   rw[yg il hi]at ta
   exact⟨a,n::ns,rfl,ta,by simp,k _ H (yA.refl H) rfl⟩
  ·cases e
 ·cases e
theorem qir {K:Fr0}:qa5 K qiq (λxs H Q=>∃(p:Addr)(ns:List Int),xs=[.ref p]/\H p=some (.lst (ns.map V.int))/\ns≠[]/\Q (.int (qek ns)) H):=by
 intro A H xs d vs Q hn h e k
 unfold qiq at e
 split at e
 ·obtain ⟨v,rfl,a,zs,rfl,_,ta,il⟩:=IsL.inv1 h
  split at e
  ·rename_i n ns hi
   cases e
   rw[yg il hi]at ta
   exact⟨a,n::ns,rfl,ta,by simp,k _ H (yA.refl H) rfl⟩
  ·cases e
 ·cases e
def qal (t:M Bool) (b:MS):Nat->MS
 |0,_ => .bad
 | n+1,ρ=>match t ρ with
  |.ok (true,ρ1)=>match b ρ1 with
   |.ok (.nx ρ2)=>qal t b n ρ2
   |.ok (.ct ρ2)=>qal t b n ρ2
   |.ok (.bk ρ2) => .ok (.nx ρ2)
   |.ok (.rt d ρ2) => .ok (.rt d ρ2)
   |.exc x ρ2 => .exc x ρ2
   |.bad => .bad
  |.ok (false,ρ1) => .ok (.nx ρ1)
  |.exc x ρ1 => .exc x ρ1
  |.bad => .bad
open Classical in
noncomputable def qdN(t:M Bool)(b:MS):MS:=λρ=>if h:∃n,qal t b n ρ ≠ .bad then qal t b h.choose ρ else .bad
theorem qaM {t:M Bool} {b:MS}:∀{n:Nat}{ρ:Env}(k:Nat),qal t b n ρ ≠ .bad->qal t b (n+k) ρ=qal t b n ρ
 |0,ρ,k,h=>absurd rfl h
 | n + 1,ρ,k,h=>by
  have e:n+1+k=(n+k)+1:=by omega
  rw[e]
  unfold qal at h |-
  cases et:t ρ with
  | ok p=>
   obtain⟨v,ρ1⟩:=p
   rw[et]at h
   cases v with
   |false=>rfl
   | true=>
    dsimp only at h |-
    cases eb:b ρ1 with
    |ok fl=>
     rw[eb]at h
     cases fl with
     |nx ρ2=>exact qaM k h
     |ct ρ2=>exact qaM k h
     |bk ρ2=>rfl
     |rt d ρ2=>rfl
    |exc x ρ2=>rfl
    |bad=>rfl
  |exc x ρ1=>rfl
  |bad=>rfl
theorem qjY {t:M Bool} {b:MS} {n:Nat} {ρ:Env} {r:R Fl} (h:qal t b n ρ=r) (hb:r ≠ .bad):qdN t b ρ=r:=by
 have hx:∃n,qal t b n ρ ≠ .bad:=⟨n,by rw[h];exact hb⟩
 unfold qdN
 rw[dif_pos hx]
 have hc:=hx.choose_spec
 generalize hx.choose=m at hc
 rcases Nat.le_total m n with hl|hl
 ·obtain⟨k,rfl⟩:=ydo hl
  rw[<-qaM k hc];exact h
 ·obtain⟨k,rfl⟩:=ydo hl
  rw[qaM k (by rw[h];exact hb)];exact h
theorem qis {t:M Bool} {b:MS} {ρ:Env}:∃n,qdN t b ρ=qal t b n ρ:=by
 unfold qdN
 split
 ·exact⟨_,rfl⟩
 ·exact⟨0,rfl⟩
section
variable{X:Cx}{c:Fc}{pos:Pos}
theorem ql0 {e:Expr} {body:List Stmt} {t:M Bool} {b:MS} (hp:yf3 (model X.prog X.w) X.A X.env X.xe) (ht:DT X c e t) (hb:DSs X c body b):DS X c (.While e body [] pos) (qdN t b):=by
 obtain⟨tc,pc,wc⟩:=ht
 obtain⟨tb,pb,wb⟩:=hb
 refine⟨_,qlp hp pc pb,λρ σ H D' r h=>?_⟩
 obtain⟨n,en⟩:=qis (t:=t) (b:=b) (ρ:=ρ)
 rw[en]at h
 refine⟨λm σ' H'=>∃ρ',Rep X.K c ρ' σ' H'/\WpS X.K c σ' H' D' (qal t b m ρ'),⟨n,ρ,r,h⟩,?_⟩
 rintro m σ' H' ⟨ρ',r',w⟩
 cases m with
 |zero=>exact w.elim
 | succ m=>
  unfold qal at w
  refine wc ρ' σ' H' _ r' ?_
  cases et:t ρ' with
  |bad=>rw[et]at w;exact w
  |exc x ρ1=>rw[et]at w;exact λH1 r1 g1=>w σ' H1 r1 g1.s
  | ok p=>
   obtain⟨v,ρ1⟩:=p
   rw[et]at w
   intro H1 r1 g1
   cases v with
   |false=>
    rw[if_neg yaq]
    exact w σ' H1 r1 g1.s
   | true=>
    rw[if_pos rfl]
    dsimp only at w
    refine⟨λσ2 H2=>∃ρ2,Rep X.K c ρ2 σ2 H2/\WpS X.K c σ2 H2 D' (qal t b m ρ2),λσ2 H2 q=>⟨m,ydH m,q⟩,wb ρ1 σ' H1 _ r1 ?_⟩
    have w2:=w.gr g1.s
    cases e2:b ρ1 with
    |ok fl=>
     cases fl with
     |nx ρ3=>simp only[e2]at w2;exact λσ3 H3 r3 g3=>⟨ρ3,r3,w2.gr g3⟩
     |ct ρ3=>simp only[e2]at w2;exact λσ3 H3 r3 g3=>⟨ρ3,r3,w2.gr g3⟩
     |bk ρ3=>simp only[e2]at w2;exact w2
     |rt d ρ3=>simp only[e2]at w2;exact w2
    |exc x ρ3=>simp only[e2]at w2;exact w2
    |bad=>simp only[e2]at w2;exact w2
end
end L2.Sk
namespace L2.Sk
open PySem PySem.Spec PyProof.Rows
section
variable{X:Cx}{c:Fc}{e:Expr}{es:List Expr}{pos cpos np:Pos}
def spX (K:Fr0) (cl:Str->Option Addr) (F:List D->R D):Sp:=λvs H Q E=>∃ds A,IsL K A H ds vs/\qjo K H/\match F ds with
 |.ok d=>∀v H',yA H H'->Is K (λa=>A a\/H a=none) H' d v->Q v H'
 |.exc x _=>∃C,cl x.cls=some C/\∀H',yA H H'->E (.ref C) none H'
 |.bad=>False
def qnL (RN:List Str) (F:List D->R D) (g:M (List D)):M D:=bnd g λds ρ=>match F ds with
 |.ok d => .ok (d,ρ)
 |.exc x _=>if RN.contains x.cls then .exc x ρ else .bad
 |.bad => .bad
end
end L2.Sk
namespace L2
open PySem PySem.Spec PyProof.Rows
end L2
namespace L2.Sk
open PySem PySem.Spec PyProof.Rows
def qto (x:D) (ys:List D):OD:=match x,ys with
 |.lst ds,[.bl b]=>(vz ds).map λbs => .int (bs.countP (·==b))
 |_,_=>none
def ql1 (F:D->List D->OD) (f:M D) (g:M (List D)):M D:=bnd f λx=>match x with
 |.lst ds=>bnd g λys=>lift (F (.lst ds) ys)
 |_=>λ_ => .bad
def qq9(K:Fr0)(F:D->List D->OD)(r:V->List V->Hp->VK->Prop):Prop:=∀A H x ys d v vs (Q:VK),(∀a,H a=none->A a)->Is K A H x v->IsL K A H ys vs->F x ys=some d->(∀u H',yA H H'->Is K A H' d u->Q u H')->r v vs H Q
section
variable{X:Cx}{c:Fc}{o e:Expr}{es:List Expr}{apos cpos:Pos}
theorem qo3 {id:String} {name:Str} {r:V->List V->Hp->VK->Prop} {F:D->List D->OD} {f:M D} {g:M (List D)} (slot:Slot "list" name id) (hty:typeOf (.builtin id)=pure (.type "method_descriptor")) (hm:MtR X id r) (hF:qq9 X.K F r)
  (ho:DE X c o f) (ha:DA X c (e::es) g)
  (hbase:yet o name X.env (eval o X.env)=eval o X.env:=by rfl)
  (hfew:((ybb cpos (yam (e::es) X.env)).all (λx => !x.1)&&(ycs cpos (ybM [] X.env)).all (λx=>x.1.isSome)
   && decide ((e::es).length+([]:List ycq).length+(if([]:List ycq).isEmpty then 0 else 1)<30))=true:=by rfl)
  (hline:(apos.endLine==cpos.line)=true:=by rfl) (hs:yam (e::es) X.env=(false,eval e X.env)::yam es X.env:=by rfl) (hplain:(ybb cpos (yam es X.env)).any (·.1)=false:=by rfl) :
  DE X c (.Call (.Attribute o name apos) (e::es) [] cpos) (ql1 F f g):=by
 obtain⟨to,po,wo⟩:=ho
 obtain⟨t,pa,wa⟩:=ha
 refine⟨_,qos ydn slot hty hm po pa hbase hfew hline hs hplain,λρ σ H Q r0 h=>wo ρ σ H _ r0 (Wp.bnd h λx ρ1 v H1 r1 i1 g1 h1=>?_)⟩
 cases x with
 |lst ds=>
  obtain⟨a,xs,rfl,ha,hH,il⟩:=i1
  refine⟨.inl ⟨rfl,xs,.inl (.inl hH)⟩,wa ρ1 σ H1 _ r1 (WpL.bnd h1 λys ρ2 vs H2 r2 i2 g2 h2=>?_)⟩
  obtain⟨d,ed,h3⟩:=h2.lift
  exact hF (Cn c σ) H2 (.lst ds) ys d (.ref a) vs Q (λa ha=>r2.new ha) (g2.is ⟨a,xs,rfl,ha,hH,il⟩) i2 ed λu H' sm i=>h3 u H' (r2.same sm) i (.of_same sm)
 |_=>exact h1.elim
end
section
variable{X:Cx}{pins:List (Addr×Obj)}{σ:St}{H:Hp}{s:yab}{xe:Value->yab->Prop}
theorem qo4 {H':Hp} {h':Heap} {e:Addr} {o:HO} (u:Un (frs X.stack) [] H H' s.heap h') (he:s.heap.get? e=none) (hHe:H' e=none):Un (frs X.stack) [] H (upd H' e o) s.heap h':=by
 have ne:∀b ob,s.heap.get? b=some ob->b≠e:=λb ob q z=>by rw[z,he]at q;cases q
 have ne':∀b u,H' b=some u->b≠e:=λb u q z=>by rw[z,hHe]at q;cases q
 refine⟨u.keep,u.slot,λb ob q n hx=>by rw[qx (ne b ob q)];exact u.free b ob q n hx,u.there,λb xs q=>?_,λb ob w q=>?_,λb ps y q=>?_⟩
 ·have:=u.tups b xs q
  rw[qx (ne' b _ this)];exact this
 ·have:=u.frzs b ob w q
  rw[qx (ne' b _ this)];exact this
 ·have:=u.tbls b ps y q
  rw[qx (ne' b _ this)];exact this
end
end L2.Sk
namespace L2.Sk
open PySem PySem.Spec PyProof.Rows PySem.W
theorem ql2:typeOf (.builtin "list.index")=pure (.type "method_descriptor"):=by kernel_rfl
end L2.Sk
namespace L2.Sk
open PySem PySem.Spec PyProof.Rows
section
variable{ρ:Env}{f g:M D}{l:M (List D)}{p q:MS}{RN:List Str}
theorem qht (F:List D->R D):qnL RN F l ρ=match l ρ with|.ok (xs,ρ1)=>(match F xs with|.ok d => .ok (d,ρ1)|.exc x _=>(if RN.contains x.cls then .exc x ρ1 else .bad)|.bad => .bad)|.exc x ρ' => .exc x ρ'|.bad => .bad:=by
 simp only[qnL,bnd]
 cases l ρ with
 |ok z=>obtain⟨z1,ρ1⟩:=z;cases F z1<;>rfl
 |exc x ρ'=>rfl
 |bad=>rfl
theorem qgM (F:D->List D->OD):ql1 F f l ρ=match f ρ with
  |.ok (.lst ds,ρ1)=>(match l ρ1 with|.ok (ys,ρ2)=>(match F (.lst ds) ys with|some d => .ok (d,ρ2)|none => .bad)|.exc x ρ' => .exc x ρ'|.bad => .bad)
  |.ok _ => .bad|.exc x ρ' => .exc x ρ'|.bad => .bad:=by
 simp only[ql1,bnd]
 cases f ρ with
 | ok z=>
  obtain⟨z1,ρ1⟩:=z
  cases z1 with
  |lst ds=>
   show bnd l (λys=>lift (F (D.lst ds) ys)) ρ1=(match l ρ1 with|.ok (ys,ρ2)=>(match F (.lst ds) ys with|some d => .ok (d,ρ2)|none => .bad)|.exc x ρ' => .exc x ρ'|.bad => .bad)
   unfold bnd
   cases l ρ1 with
   |ok z=>obtain⟨z2,ρ2⟩:=z;(dsimp only;cases F (.lst ds) z2<;>rfl)
   |exc x ρ'=>rfl
   |bad=>rfl
  |_=>rfl
 |exc x ρ'=>rfl
 |bad=>rfl
end
def unO(_:Nat)(c:Fc):Fc:={c with O:=[],P:=[],B:=λ_=>True}
theorem Gr.unSame{c:Fc}{σ:St}{H H':Hp}{i:Nat}(g:Gr (unO i c).O σ H H'):yA H H':=λb o h=>g.ext.at_ b o (λj hj=>by cases hj) h
theorem Rep.un {K:Fr0} {c:Fc} {ρ:Env} {σ:St} {H:Hp} {i:Nat} (r:Rep K c ρ σ H) (_:i∈c.O):Rep K (unO i c) ρ σ H:=by
 have all:∀b:Addr,Cn (unO i c) σ b:=λb=>⟨trivial,λj hj=>by cases hj⟩
 refine⟨r.len,λk d hk=>?_,λj hj=>(by cases hj),λk j a hk=>(by cases hk),⟨λ_ _=>trivial,r.b0.2⟩,r.kp,r.dm,λj hj=>(by cases hj),λj hj=>(by cases hj)⟩
 obtain⟨v,h1,h2⟩:=r.val k d hk
 refine⟨v,h1,.inr ⟨λz=>(by cases z),?_⟩⟩
 rcases h2 with⟨hk2,ds,a,xs,h3,h5,h6,h7⟩|⟨hk2,h3⟩
 ·subst h3 h5
  exact⟨a,xs,rfl,all a,h6,IsL.ext Ext.refl (λb _ _=>all b) h7⟩
 ·exact Is.ext Ext.refl (λb _ _=>all b) h3
theorem Gr.un{c:Fc}{σ:St}{H H':Hp}{i:Nat}(g:Gr (unO i c).O σ H H'):Gr c.O σ H H':=.of_same g.unSame
theorem Rep.re{K:Fr0}{c:Fc}{ρ:Env}{σ:St}{H H':Hp}{i:Nat}(r:Rep K c ρ σ H)(_:i∈c.O)(_:Rep K (unO i c) ρ σ H')(g:Gr (unO i c).O σ H H'):Rep K c ρ σ H':=r.same g.unSame
open Classical in
open Classical in
open Classical in
noncomputable def qit (f:M (List D)):M (List D):=λρ=>match f ρ with
 |.ok (d,ρ')=>if immL d=true/\ρ'=ρ then .ok (d,ρ)else .bad
 |.exc x ρ'=>if ρ'=ρ then .exc x ρ else .bad
 |.bad => .bad
theorem Rep.apart2 {K:Fr0} {c:Fc} {ρ ρ':Env} {σ:St} {H H':Hp} {a:Addr} (r:Rep K c ρ σ H) (hn:H a=none) (r':Rep K c ρ' σ H') (g:Gr c.O σ H H') (hv:∀i d,i ∉ c.O->ρ'[i]? = some (some d)->ρ[i]? = some (some d)) (hc:∀i ds b xs,ρ'[i]? = some (some (.lst ds))->i∈c.O->σ[i]? = some (some (.ref b))->H' b=some (.lst xs)->IsL K (Cn c σ) H' ds xs->IsL K (λb=>Cn c σ b/\b≠a) H' ds xs):qjy K c ρ' σ H' a where
 val:=λi d v h1 h2 h3=>by
  obtain⟨w,h4,h5⟩:=r.get h2 (hv i d h2 h1)
  rw[h3]at h4
  cases h4
  exact Is.ext ⟨g.ext.tup,g.ext.frz,λb o hb h=>g.ext.at_ b o hb.1.2 h⟩ (λ_ h _=>h) (h5.fresh hn)
 cont:=hc
 own:=λj hj e=>(r.new hn).2 j hj e
 new:=r.dm a hn
section
variable{X:Cx}{c:Fc}{e:Expr}{pos:Pos}
theorem WpI.bndN {K:Fr0} {σ:St} {H:Hp} {Q:VK} {f:M (List D)} {k:List D->M (List D)} {ρ:Env} {Q':It->Hp->Prop} (h:WpN K c σ H Q (Sk.bnd f k ρ)) (hQ:∀ds ρ' J H',Rep K c ρ' σ H'->qi1 K (CnT c σ H') H' ds J->Gr c.O σ H H'->WpN K c σ H' Q (k ds ρ')->Q' J H'):WpI K c σ H Q' (f ρ):=by
 unfold Sk.bnd at h
 cases e:f ρ with
 |ok p=>rw[e]at h;exact λv H' hr hi hg=>hQ p.1 p.2 v H' hr hi hg (h.gr hg)
 |exc x ρ'=>rw[e]at h;exact h
 |bad=>rw[e]at h;exact h
def DCN(X:Cx)(c:Fc)(tg it elt:Expr)(ifs:List Expr)(scope:Scope)(N':List Str)(nt:Nat)(fr:List Nat)(f:M (List D)):Prop:=∃wi,PI X tg it wi/\∀ρ σ H Q,Rep X.K c ρ σ H->WpN X.K c σ H Q (f ρ)->qlL X tg ifs elt scope N' wi nt fr σ H Q
def qo5 (fo:Option (Nat×Nat)) (ρe:Env):Bool:=match fo with
 |none=>true
 |some (i,_)=>match ρe[i]? with
  |some (some (.lst ds))=>immL ds
  |_=>true
def ql3 (nt:Nat) (fr:List Nat) (fo:Option (Nat×Nat)) (f:M (List D)) (g:D->Env->Option Env) (t:M Bool) (e:M D):M (List D):=bnd f λds ρ=>match zh g t e ds [] (jJ nt fr ρ) with
 |.ok (ys,ρe)=>if immL ys=true/\qo5 fo ρe=true then .ok (ys,qlM fo ρe ρ)else .bad
 |_ => .bad
theorem ql4 {c:Fc} {nt:Nat} {fr:List Nat} {fo:Option (Nat×Nat)} {ρe ρ:Env} (hfo:qlN c nt fr fo):∀i d,i ∉ c.O->(qlM fo ρe ρ)[i]? = some (some d)->ρ[i]? = some (some d):=λi d hi h=>by
 cases fo with
 |none=>exact h
 |some p=>
  obtain⟨i',j'⟩:=p
  have h':(ρ.set j' (ρe[i']?).join)[i]? = some (some d):=h
  have hne:i≠j':=λe=>hi (by rw[e];exact hfo.1)
  rw[zS hne]at h'
  exact h'
theorem ql5 {it elt tg:Expr} {ifs:List Expr} {scope:Scope} {N':List Str} {nt:Nat} {fr:List Nat} {fo:Option (Nat×Nat)} {f:M (List D)} {g:D->Env->Option Env} {t:M Bool} {k:M D} (hc:X.calm=true) (hi:DI X c tg it f) (S:jZ X scope N' nt fr)
  (hfo:qlN c nt fr fo)
  (hb:∀fp cl C s₀ H₀ pn B0 H1 Io' acc S',DG (z6 X scope N' fp cl C s₀ H₀ pn) (cin B0 H1 (foO fo) Io' acc S') tg g/\DF (z6 X scope N' fp cl C s₀ H₀ pn) (cin B0 H1 (foO fo) Io' acc S') ifs t/\DE (z6 X scope N' fp cl C s₀ H₀ pn) (cin B0 H1 (foO fo) Io' acc S') elt k)
  : DCN X c tg it elt ifs scope N' nt fr (ql3 nt fr fo f g t k):=by
 obtain⟨wi,pi,wI⟩:=hi
 refine⟨wi,pi,λρ σ H Q r h=>wI ρ σ H _ r (WpI.bndN h λds ρ1 J H1 r1 iok g1 h1=>?_)⟩
 intro acc fp cl C s₀ H₀ pn hn
 obtain⟨⟨tg',pg,wg⟩,⟨tt,pt,wt⟩,⟨te,pe,we⟩⟩:=hb fp cl C s₀ H₀ pn (Cn c σ) H1 (qcr σ fo) acc λj=>(qF nt fr σ)[j]?
 refine⟨tg',tt,te,pg,pt,pe,?_⟩
 cases ew:zh g t k ds [] (jJ nt fr ρ1) with
 |exc x ρ'=>rw[ew]at h1;exact h1.elim
 |bad=>rw[ew]at h1;exact h1.elim
 | ok p =>
  rw[ew]at h1
  obtain⟨ys,ρe⟩:=p
  simp only at h1
  by_cases him0:immL ys=true/\qo5 fo ρe=true
  case neg=>rw[if_neg him0]at h1;exact h1.elim
  rw[if_pos him0]at h1
  obtain⟨him,him2⟩:=him0
  have accO:∀j∈foO fo,(qF nt fr σ)[j]? ≠ some (some (.ref acc)):=λj hj e=>by
   have r0:=r1.entry (acc:=acc) hn hfo
   cases fo with
   |none=>cases hj
   |some p=>
    obtain⟨i',j'⟩:=p
    have e2:j=i':=by simpa [foO] using hj
    subst e2
    obtain⟨k2,j2,e1,e2,e3⟩:=yh e
    have hk2:k2=j-nt:=by omega
    subst hk2
    rw[hfo.2.2.1]at e2
    cases e2
    obtain⟨a,us,e4,e5,_⟩:=r1.own j' hfo.1 _ e3
    cases e4;rw[hn]at e5;cases e5
  refine ⟨λi m σ' H'=>m=ds.length-i/\i<=ds.length/\∃ρ' zs xs,Rep X.K (cin (Cn c σ) H1 (foO fo) (qcr σ fo) acc λj=>(qF nt fr σ)[j]?) ρ' σ' H'/\(∀j∈foO fo,σ'[j]? = (qF nt fr σ)[j]?)/\H' acc=some (.lst xs)/\IsL X.K (Cn (cin (Cn c σ) H1 (foO fo) (qcr σ fo) acc λj=>(qF nt fr σ)[j]?) σ') H' zs xs/\zh g t k (ds.drop i) zs ρ'=.ok (ys,ρe),
   ⟨ds.length,by simp,ybB _,jJ nt fr ρ1,[],[],r1.entry hn hfo,λ_ _=>rfl,qz,rfl,by simpa using ew⟩,?_⟩
  rintro i m σ' H' ⟨rfl,hi,ρ',zs,xs,r',so,ha,iz,w⟩
  obtain⟨_,gr⟩:=r1.leave hn hfo (λi j e=>so i (by rw[e];simp[foO])) r'
  have ex:Ext (CnT c σ H1) H1 H':=⟨gr.ext.tup,gr.ext.frz,λb o hb hq=>gr.ext.at_ b o hb.1.2 hq⟩
  have accC:∀τ:St,(∀j∈foO fo,τ[j]? = (qF nt fr σ)[j]?)->Cl (foO fo) τ acc:=λτ hτ j hj e=>accO j hj (by rw[<-hτ j hj];exact e)
  by_cases hlt:i<ds.length
  ·refine .inr ⟨iok.go H' i ds[i] ex (by simp[hlt]),λx H'' y=>?_⟩
   obtain⟨sm,ix⟩:=iok.yl H' i ds[i] x H'' ex (by simp[hlt]) y
   rw[qaI hlt]at w
   unfold zh at w
   have ix2:Is X.K (Cn (cin (Cn c σ) H1 (foO fo) (qcr σ fo) acc λj=>(qF nt fr σ)[j]?) σ') H'' ds[i] x:=Is.ext Ext.refl (λa ha _=>⟨⟨ha.1,λe=>by
    have:=ha.2
    rw [e,hn]at this;cases this⟩,λj hj e=>by
     rw[so j hj]at e
     cases fo with
     |none=>cases hj
     |some p=>
      obtain⟨i',j'⟩:=p
      have e2:j=i':=by simpa [foO,cin] using hj
      subst e2
      obtain⟨k2,j2,e1,e2,e3⟩:=yh e
      have hk2:k2=j-nt:=by omega
      subst hk2
      rw[hfo.2.2.1]at e2
      cases e2
      exact ha.1.2 j' hfo.1 e3⟩) ix
   cases e1:g ds[i] ρ' with
   |none=>simp only[e1]at w;cases w
   | some ρ2=>
    simp only[e1]at w
    refine wg ρ' σ' H'' ds[i] x ρ2 _ (r'.same sm) ix2 e1 λσ2 r2 g2 o2=>?_
    have so2:∀j∈foO fo,σ2[j]? = (qF nt fr σ)[j]? := λj hj=>(o2 j hj).trans (so j hj)
    have ha2:H'' acc=some (.lst xs):=sm _ _ ha
    have iz2:=g2.isL (IsL.ext (Ext.of_same sm) (λ_ h _=>h) iz)
    cases e2:t ρ2 with
    |exc x ρ3=>simp only[e2]at w;cases w
    |bad=>simp only[e2]at w;cases w
    | ok p2=>
     obtain⟨bb,ρ3⟩:=p2
     refine wt ρ2 σ2 H'' _ r2 ?_
     rw[e2]
     intro H3 r3 g3
     have ha3:H3 acc=some (.lst xs):=g3.ext.at_ _ _ (accC σ2 so2) ha2
     have iz3:=g3.isL iz2
     cases bb with
     |false=>
      rw[if_neg yaq]
      simp only[e2]at w
      exact⟨ds.length-(i+1),by omega,rfl,hlt,ρ3,zs,xs,r3,so2,ha3,iz3,w⟩
     | true=>
      rw[if_pos rfl]
      simp only[e2]at w
      cases e3:k ρ3 with
      |exc x ρ4=>simp only[e3]at w;cases w
      |bad=>simp only[e3]at w;cases w
      | ok p3=>
       obtain⟨d4,ρ4⟩:=p3
       simp only[e3]at w
       refine we ρ3 σ2 H3 _ r3 ?_
       rw[e3]
       intro y4 H4 r4 i4 g4
       have ha4:H4 acc=some (.lst xs):=g4.ext.at_ _ _ (accC σ2 so2) ha3
       have hsz:qY (zs.length+1)=true:=by
        cases e5:qY (zs.length+1) with
        |true=>rfl
        |false=>rw[e5]at w;simp at w
       rw[if_pos hsz]at w
       have hsz':zs.length+1<=yav:=of_decide_eq_true hsz
       have r5:=r4.grow (ys:=xs++[y4]) ha4 (λj hj e=>accC σ2 so2 j hj e)
       have ext5:Ext (Cn (cin (Cn c σ) H1 (foO fo) (qcr σ fo) acc λj=>(qF nt fr σ)[j]?) σ2) H4 (upd H4 acc (.lst (xs++[y4]))):=⟨λb us hb=>by rw[qx (qaU hb ha4 (by intro z;cases z))];exact hb,λb o u hb=>by rw[qx (qaU hb ha4 (by intro z;cases z))];exact hb,λb o hb hq=>by rw[qx hb.1.2];exact hq⟩
       refine⟨xs,ha4,by rw[iz3.length];omega,ds.length-(i+1),by omega,rfl,hlt,ρ4,zs++[d4],xs++[y4],r5,so2,qz,?_,w⟩
       exact IsL.append (IsL.ext ext5 (λ_ h _=>h) (g4.isL iz3)) (IsL.one (Is.ext ext5 (λ_ h _=>h) i4))
  ·have hie:i=ds.length:=by omega
   subst hie
   rw[ycH (yah _)]at w
   unfold zh at w
   cases w
   obtain⟨r6,g6⟩:=r1.leave hn hfo (λi j e=>so i (by rw[e];simp[foO])) r'
   have kp:∀b o,H1 b=some o->¬qcr σ fo b->H' b=some o:=λb o hb hio=>r'.kp b o (by show upd H1 acc (.lst []) b=some o;rw[qx (qJ hb hn)];exact hb) λz=>z.elim hio λe=>absurd e (qJ hb hn)
   have hcont:∀k ds b xs,(qlM fo ρe ρ1)[k]? = some (some (.lst ds))->k∈c.O->σ[k]? = some (some (.ref b))->H' b=some (.lst xs)->IsL X.K (Cn c σ) H' ds xs->IsL X.K (λb=>Cn c σ b/\b≠acc) H' ds xs:=λk ds b xs h2 h3 h4 h5 h6=>by
    by_cases hk:∃i',fo=some (i',k)
    ·obtain ⟨i',e⟩:=hk
     subst e
     have h2':(ρ1.set k (ρe[i']?).join)[k]? = some (some (.lst ds)):=h2
     have hl:k<ρ1.length:=by
      have:=(gI_.mp h2').1
      rwa [lS_]at this
     rw[List.getElem?_set_self hl]at h2'
     have he:ρe[i']? = some (some (.lst ds)):=qbq (yaw h2')
     have hi2:immL ds=true:=by
      unfold qo5 at him2
      simp only[he]at him2
      exact him2
     exact IsL.imm hi2 h6
    ·have h2':ρ1[k]? = some (some (.lst ds)):=by
      cases fo with
      |none=>exact h2
      |some p=>
       obtain⟨i',j'⟩:=p
       have h2'':(ρ1.set j' (ρe[i']?).join)[k]? = some (some (.lst ds)):=h2
       rw[zS (λe=>hk ⟨i',by rw[e]⟩)]at h2''
       exact h2''
     obtain⟨ds',b',ys',e1,e2,e3,e4⟩:=r1.getO h3 h2'
     cases e1
     rw[h4]at e2
     cases e2
     have h7:H' b=some (.lst ys'):=kp b _ e3 λhio=>by
      cases fo with
      |none=>exact hio
      |some p=>
       obtain⟨i',j'⟩:=p
       have e:=r1.inj k j' b h3 hfo.1 h4 hio
       exact hk ⟨i',by rw[e]⟩
     rw[h5]at h7
     cases h7
     exact IsL.ext ⟨g6.ext.tup,g6.ext.frz,λd o hd hq=>g6.ext.at_ d o hd.2 hq⟩ (λd hd hs=>⟨hd,λe=>by rw[e,hn]at hs;cases hs⟩) e4
   exact .inl ⟨iok.stop H' ex,h1 acc xs H' hn r6 (r1.apart2 hn r6 g6 (ql4 hfo) hcont) ha trivial (IsL.imm him iz) g6⟩
theorem ql6 {K:Fr0} {σ:St} {H:Hp} {Q:VK} {i:Nat} {f:M (List D)} {ρ:Env} (r:Rep K c ρ σ H) (ho:i∈c.O) (h:WpN K c σ H Q (qit f ρ)):WpN K (unO i c) σ H Q (f ρ):=by
 unfold qit at h
 cases ef:f ρ with
 |bad=>rw[ef]at h;exact h.elim
 | exc x ρ'=>
  rw[ef]at h
  simp only at h
  split at h
  ·rename_i e1
   subst e1
   exact λH' r' g'=>h H' (r.re ho r' g') g'.un
  ·exact h.elim
 | ok q=>
  obtain⟨d,ρ'⟩:=q
  rw[ef]at h
  simp only at h
  split at h
  ·rename_i e2
   obtain⟨e1,e2⟩:=e2
   subst e2
   exact λa xs H' hn r' ap ha him il g'=>h a xs H' hn (r.re ho r' g') (r.apart_same hn g'.unSame) ha him (IsL.imm e1 il) g'.un
  ·exact h.elim
theorem ql7 {i:Nat} {tg it elt:Expr} {ifs:List Expr} {scope:Scope} {N':List Str} {nt:Nat} {fr:List Nat} {f:M (List D)} (h:DCN X (unO i c) tg it elt ifs scope N' nt fr f) (ho:i∈c.O:=by exact of_decide_eq_true rfl):DCN X c tg it elt ifs scope N' nt fr (qit f):=by
 obtain⟨t,p,w⟩:=h
 exact⟨t,p,λρ σ H Q r h=>w ρ σ H Q (r.un ho) (ql6 r ho h)⟩
theorem qra {tg it elt:Expr} {ifs:List Expr} {scope:Scope} {N':List Str} {nt:Nat} {fr:List Nat} {f:M (List D)} (h:DCN X c tg it elt ifs scope N' nt fr f) (hc:X.calm=true) (S:jZ X scope N' nt fr) (hs:∀x,yb2 it X.env x=pure x:=by intro _;rfl):DN X c (.ListComp elt [⟨tg,it,ifs,0⟩] scope pos) f:=by
 obtain⟨wi,pi,w⟩:=h
 exact⟨_,qjv hc pi S hs,w⟩
def qp0(f:M (List D)):M D:=bnd f λds=>ret (.lst ds)
theorem qo6 {K:Fr0} {σ:St} {H:Hp} {Q:VK} {f:M (List D)} {ρ:Env} (r:Rep K c ρ σ H) (h:Wp K c σ H Q (qp0 f ρ)):WpN K c σ H Q (f ρ):=by
 unfold qp0 bnd at h
 cases ef:f ρ with
 |bad=>rw[ef]at h;exact h
 |exc x ρ'=>rw[ef]at h;exact h
 |ok q=>
  rw[ef]at h
  exact λa xs H' hn r' ap ha him il g'=>h _ H' r' ⟨a,xs,rfl,r.new hn,ha,IsL.ext Ext.refl (λ_ h _=>h.1) il⟩ g'
theorem qsM {f:M (List D)} (h:DN X c e f):DE X c e (qp0 f):=by
 obtain⟨t,p,w⟩:=h
 exact⟨t,p,λρ σ H Q r h=>w ρ σ H Q r (qo6 r h)⟩
def qsN:List D->Option (List D)
 | [.int i,.int j]=>if decide (-(2 ^ 62)<=i)&&decide (i<2 ^ 62)&&decide (-(2 ^ 62)<=j)&&decide (j<2 ^ 62)then some (qbK i (j-i).toNat)else none
 |_=>none
def qfD(f:M (List D)):M (List D):=bnd f λds=>lift (qsN ds)
theorem qcV {tg a b:Expr} {f:M (List D)} {p:Pos} (hg:Gl X "range") (hm:X.mg "range"=none) (ha:DA X c [a,b] f) (hs:yam [a,b] X.env=[(false,eval a X.env),(false,eval b X.env)]:=by rfl) (hs2:yam [b] X.env=[(false,eval b X.env)]:=by rfl):DI X c tg (.Call (.Name "range" p) [a,b] [] pos) (qfD f):=by
 obtain⟨t,p,w⟩:=ha
 refine⟨_,qi7 hg hm p hs hs2,λρ σ H Q r h=>w ρ σ H _ r (WpL.bndI h λds ρ1 vs H1 r1 i1 g1 h1=>?_)⟩
 obtain⟨es,e,h2⟩:=wz h1
 unfold qsN at e
 split at e
 ·rename_i i j
  obtain⟨v,u,rfl,e2,e3⟩:=IsL.inv2 i1
  cases e2
  cases e3
  split at e
  ·rename_i hb
   cases e
   simp only[yan]at hb
   exact⟨i,j,rfl,⟨of_decide_eq_true hb.1.1.1,of_decide_eq_true hb.1.1.2,of_decide_eq_true hb.1.2,of_decide_eq_true hb.2⟩,h2 _ H1 r1 (qny i _) .refl⟩
  ·cases e
 ·cases e
end
section
variable{ρ:Env}{f:M D}{t:M Bool}{n:M (List D)}
open Classical in
open Classical in
open Classical in
theorem qo7:qit n ρ=match n ρ with|.ok (d,ρ')=>(if immL d=true/\ρ'=ρ then .ok (d,ρ)else .bad)|.exc x ρ'=>(if ρ'=ρ then .exc x ρ else .bad)|.bad => .bad:=rfl
theorem qrb:qp0 n ρ=match n ρ with|.ok (ds,ρ') => .ok (.lst ds,ρ')|.exc x ρ' => .exc x ρ'|.bad => .bad:=by
 unfold qp0 bnd
 cases n ρ<;>rfl
end
theorem qsO {f:M (List D)} {ρ:Env} {ds:List D} (h:f ρ=.ok (ds,ρ)) (hi:immL ds=true):qit f ρ=.ok (ds,ρ):=by
 rw[qo7,h]
 exact if_pos ⟨hi,rfl⟩
theorem qcW {l:M (List D)} {ρ ρ1:Env} {i j:Int} (h:l ρ=.ok ([.int i,.int j],ρ1)) (h1 : -1000000000<=i) (h2:i<1000000000) (h3 : -1000000000<=j) (h4:j<1000000000):qfD l ρ=.ok (qbK i (j-i).toNat,ρ1):=by
 unfold qfD
 rw[qdJ h]
 unfold qsN
 have a1:decide (-(2 ^ 62:Int)<=i)=true:=decide_eq_true (by omega)
 have a2:decide (i<(2 ^ 62:Int))=true:=decide_eq_true (by omega)
 have a3:decide (-(2 ^ 62:Int)<=j)=true:=decide_eq_true (by omega)
 have a4:decide (j<(2 ^ 62:Int))=true:=decide_eq_true (by omega)
 simp only[a1,a2,a3,a4,yaG,if_true]
 rfl
def qrc(K:Fr0)(neg:Bool):R2:=λx y H Q=>∃d e ds A,Is K A H d x/\Is K A H e y/\sqD e=some ds/\qa8 d=true/\qa8 e=true/\Q (.bl (if neg then !((toPDs ds).any λy=>yaZ y (yQ d)) else(toPDs ds).any λy=>yaZ y (yQ d))) H
def inA (x y:D):OD:=match sqD y with
 |some ds=>if qa8 x&&qa8 y then some (.bl ((toPDs ds).any λy=>yaZ y (yQ x)))else none
 |none=>none
def qsP (x y:D):OD:=match sqD y with
 |some ds=>if qa8 x&&qa8 y then some (.bl (!(toPDs ds).any λy=>yaZ y (yQ x)))else none
 |none=>none
section
variable{X:Cx}
theorem vB {d:D} (h:qa8 d=true):(yQ d).canLay0=true/\(yQ d).depth<=50:=by
 unfold qa8 at h
 rw[yan,decide_eq_true_eq]at h
 exact h
theorem qtp {k:Nat} (hr:qac k X.A):OpR X (yaL .In) (qrc X.K false):=by
 intro pins s σ H x y v u Q I rx ry h
 obtain⟨d,e,ds,A,h1,h2,es,o1,o2,q⟩:=h
 obtain⟨as,r1,_⟩:=yC I (qaZ o1) h1 rx
 obtain⟨bs,r2,_⟩:=yC I (qaZ o2) h2 ry
 have c1:=(vB o1).1
 have c2:=(vB o2).1
 have u1:=(vB o1).2
 have u:=hr.units
 cases e<;>simp only[sqD]at es<;>try (cases es;done)
 ·cases es
  exact SeqAt.in_tuple_reads r2 r1 (by simpa [yQ,ybo] using c2) c1 (by omega) ⟨.bl _,H,I,rfl,by simpa using q⟩
 ·cases es
  exact SeqAt.in_list_reads r2 r1 (by simpa [yQ,ybo] using c2) c1 (by omega) ⟨.bl _,H,I,rfl,by simpa using q⟩
theorem qo8 {k:Nat} (hr:qac k X.A):OpR X (yaL .NotIn) (qrc X.K true):=by
 intro pins s σ H x y v u Q I rx ry h
 obtain⟨d,e,ds,A,h1,h2,es,o1,o2,q⟩:=h
 obtain⟨as,r1,_⟩:=yC I (qaZ o1) h1 rx
 obtain⟨bs,r2,_⟩:=yC I (qaZ o2) h2 ry
 have c1:=(vB o1).1
 have c2:=(vB o2).1
 have u1:=(vB o1).2
 have u:=hr.units
 cases e<;>simp only[sqD]at es<;>try (cases es;done)
 ·cases es
  exact SeqAt.notIn_tuple_reads r2 r1 (by simpa [yQ,ybo] using c2) c1 (by omega) ⟨.bl _,H,I,rfl,by simpa using q⟩
 ·cases es
  exact SeqAt.notIn_list_reads r2 r1 (by simpa [yQ,ybo] using c2) c1 (by omega) ⟨.bl _,H,I,rfl,by simpa using q⟩
end
theorem ql8 {K:Fr0}:OpS K qsP (qrc K true):=by
 intro A H x y d v u Q hn ix iy e k
 unfold qsP at e
 split at e
 ·rename_i ds es
  obtain⟨e1,e2⟩:=jI e
  subst e2
  rw[yan]at e1
  exact⟨x,y,ds,A,ix,iy,es,e1.1,e1.2,k _ H (yA.refl H) rfl⟩
 ·cases e
def qp1(x y:D):OD:=(qpZ x y).or (qsP x y)
theorem qo9{X:Cx}{k:Nat}(hr:qac k X.A):OpR X (yaL .NotIn) (λx y H Q=>rIn X.K true x y H Q\/qrc X.K true x y H Q):=OpR.or qfe (qo8 hr)
theorem ql9 {K:Fr0}:OpS K qp1 (λx y H Q=>rIn K true x y H Q\/qrc K true x y H Q):=by
 intro A H x y d v u Q hn ix iy e k
 unfold qp1 at e
 cases e1:qpZ x y with
 |some b=>rw[e1]at e;exact .inl (qo1 A H x y d v u Q hn ix iy (by rw[e1];exact e) k)
 |none=>rw[e1]at e;exact .inr (ql8 A H x y d v u Q hn ix iy e k)
section
variable{prog:yar}{w:World}{A:yau}{R:ydU->yab->Prop}{I:Addr}{fp wr:List Addr}{n:Nat}{P:Nat->Value->Prop}{St:Nat->Heap->Prop}
structure qrd (prog:yar) (w:World) (A:yau) (P:Nat->Value->Prop) (bt:Nat->Nat->Bool) (Ok:Heap->Prop) (wr:List Addr) (Z:Addr):Prop where
 cmp:∀(i j:Nat)(x y:Value)(s:yab)(Q E:Value->yab->Prop),P i x->P j y->Ok s.heap->Q (.bool (bt i j)) s->wpAny (model prog w) A (yc1 .Lt x y) Q E s
 old:∀h h':Heap,Ok h->(∀b o,b ∉ wr->b≠Z->h.get? b=some o->h'.get? b=some o)->Ok h'
theorem qiu (W:Walks prog w A.in1 I fp wr n P St) {bt:Nat->Nat->Bool} {Ok:Heap->Prop} {Z:Addr} (gZ:Z ∉ fp) (C:qrd prog w A.in1 P bt Ok wr Z) :
  ∀(m q:Nat)(s:yab)(best:Value)(z:Nat),n=q+1+m->St (q+1) s.heap->P (yax bt q) best->Ok s.heap ->
  s.heap.get? Z=some {cls:=.type "list",dict:=none,data:=.seq #[best,best] z,slots := #[]} ->
  (∀y h2 t2,P (yax bt (n-1)) y->(∀b o,b ∉ wr->b≠Z->s.heap.get? b=some o->h2.get? b=some o)->R (.ok (.ret y)) {s with heap:=h2,toks:=t2}) ->
  ybI (model prog w) A (.builtin "min.loop" ⟨[.ref I,.none,.ref Z],[]⟩) R s:=by
 have gw:Z ∉ wr:=λe=>gZ (W.sub _ e)
 have nm:(ybi "min"++ybi ".loop":String)="min.loop":=by decide
 intro m
 induction m with
 | zero=>
  intro q s best z en est eP eO eZ fin
  have eq1:q+1=n:=by omega
  have st':St n s.heap:=eq1▸est
  refine yaI ybv (by
   rw[yaB yaz _]
   refine yaa (yaE eZ rfl ?_)
   refine yaa (ya7 (W.done s _ _ st' λh1 t1 k1=>?_))
   have eZ1:=k1 Z _ gw eZ
   refine yaa (ybF eZ1 rfl (yaa (ybp (yac ?_))))
   exact fin best _ t1 (by rw[<-eq1];exact eP) λb o nb nz g=>(Heap.get?_update_other _ _ (ybs nz)).trans (k1 b o nb g))
 | succ m ih=>
  intro q s best z en est eP eO eZ fin
  have lt1:q+1<n:=by omega
  refine yaI ybv (by
   rw[yaB yaz _]
   refine yaa (yaE eZ rfl ?_)
   refine yaa (ya7 (W.item (q+1) s _ _ lt1 est λx h1 t1 eP1 est1 k1=>?_))
   have eZ1:=k1 Z _ gw eZ
   have eO1:Ok h1:=C.old _ _ eO λb o nb _ g=>k1 b o nb g
   refine yaa (yac (yaa (ya7 (ya2 (yaa (C.cmp (q+1) (yax bt q) x best _ _ _ eP1 eP eO1 ?_))))))
   refine yaa (ya2 (yaU (yaa (ybp (yac ?_)))))
   cases less:bt (q+1) (yax bt q) with
   |true=>
    refine yaa (ybF eZ1 rfl (yaa (ybp ?_)))
    rw[nm]
    refine yac ⟨yaO yaz _,?_⟩
    refine ih (q+1) _ x _ (by omega) (W.frame _ _ _ est1 λb nb o g=>?_) (by simp only[yax,less,if_true];exact eP1) (C.old _ _ eO1 λb o _ nz g=>?_) (Heap.get?_update_self _ eZ1 rfl) λy h2 t2 eP2 k2=>?_
    ·exact(Heap.get?_update_other _ _ (λe:Z=b=>gZ (by rw[e];exact nb))).trans g
    ·exact(Heap.get?_update_other _ _ (ybs nz)).trans g
    ·exact fin y h2 t2 eP2 λb o nb nz g=>k2 b o nb nz ((Heap.get?_update_other _ _ (ybs nz)).trans (k1 b o nb g))
   |false=>
    refine yaa (ybp ?_)
    rw[nm]
    refine yac ⟨yaO yaz _,?_⟩
    refine ih (q+1) _ best z (by omega) est1 (by simp only[yax,less,ybr,if_false];exact eP) eO1 eZ1 λy h2 t2 eP2 k2=>?_
    exact fin y h2 t2 eP2 λb o nb nz g=>k2 b o nb nz (k1 b o nb g))
theorem qgN (W:Walks prog w A.in1 I fp wr n P St) {bt:Nat->Nat->Bool} {Ok:Heap->Prop} {Z:Addr} (gZ:Z ∉ fp) (C:qrd prog w A.in1 P bt Ok wr Z) {s:yab} {z:Nat} (hn:0<n) (est:St 0 s.heap) (eO:Ok s.heap)
  (eZ:s.heap.get? Z=some {cls:=.type "list",dict:=none,data:=.seq #[] z,slots := #[]})
  (fin:∀y h2 t2,P (yax bt (n-1)) y->(∀b o,b ∉ wr->b≠Z->s.heap.get? b=some o->h2.get? b=some o)->R (.ok (.ret y)) {s with heap:=h2,toks:=t2}) :
  ybI (model prog w) A (.builtin "min.loop" ⟨[.ref I,.none,.ref Z],[]⟩) R s:=by
 have gw:Z ∉ wr:=λe=>gZ (W.sub _ e)
 have nm:(ybi "min"++ybi ".loop":String)="min.loop":=by decide
 refine yaI ybv (by
  rw[yaB yaz _]
  refine yaa (yaE eZ rfl ?_)
  refine yaa (ya7 (W.item 0 s _ _ hn est λx h1 t1 eP1 est1 k1=>?_))
  have eZ1:=k1 Z _ gw eZ
  have eO1:Ok h1:=C.old _ _ eO λb o nb _ g=>k1 b o nb g
  refine yaa (yac (yaa (ybF eZ1 rfl ?_)))
  rw[nm]
  refine yac ⟨yaO yaz _,?_⟩
  refine qiu W gZ C (n-1) 0 _ x _ (by omega) (W.frame _ _ _ est1 λb nb o g=>?_) eP1 (C.old _ _ eO1 λb o _ nz g=>?_) (Heap.get?_update_self _ eZ1 rfl) λy h2 t2 eP2 k2=>?_
  ·exact(Heap.get?_update_other _ _ (λe:Z=b=>gZ (by rw[e];exact nb))).trans g
  ·exact(Heap.get?_update_other _ _ (ybs nz)).trans g
  ·exact fin y h2 t2 eP2 λb o nb nz g=>k2 b o nb nz ((Heap.get?_update_other _ _ (ybs nz)).trans (k1 b o nb g)))
end
section
variable{prog:yar}{w:World}{A:yau}{E:Value->yab->Prop}{s:yab}
theorem qiv {l:Addr} {its:Array Value} {bt:Nat->Nat->Bool} {Q:Value->yab->Prop} (hh:A.handled=none) (hl:s.heap.IsList l its) (hne:0<its.size)
  (hc:∀(i j:Nat)(x y:Value)(s1:yab)(Q E:Value->yab->Prop),its[i]? = some x->its[j]? = some y->(∀b o,s.heap.get? b=some o->s1.heap.get? b=some o)->Q (.bool (bt i j)) s1->wpAny (model prog w) A.in1 (yc1 .Lt x y) Q E s1)
  (fin:∀y h' tk,its[yax bt (its.size-1)]? = some y->(∀b o,s.heap.get? b=some o->h'.get? b=some o)->Q y {s with heap:=h',toks:=tk}) :
  wpAny (model prog w) A (call (.builtin "min") [.ref l]) Q E s:=by
 have nm:(ybi "min"++ybi ".loop":String)="min.loop":=by decide
 refine call_function_tree yeX yeE yeF (PySem.F.args_min1 _) ?_
 refine yaa (ybC (show ybG "min" ["key","default"] 0 ⟨[],[]⟩=pure [none,none]from rfl) (yaa (yac ?_)))
 refine yaa (ya4 hl ?_)
 have la:l<s.heap.objs.size:=by obtain⟨o,e,_⟩:=hl;exact yae e
 have W:=ydk (prog:=prog) (w:=w) (A:=A.in1) hh s.heap.objs.size l (yao la) its
 refine yaa (yay ?_)
 rw[nm]
 refine yac ⟨yaO yaz _,?_⟩
 have up:∀b o,s.heap.get? b=some o->((s.heap.push {cls:=.type "list_iterator",data:=.fields #[.ref l,.int 0 0]}).push {cls:=.type "list",data:=.seq #[]}).get? b=some o:=λb o g=>Heap.get?_push_of_some _ (Heap.get?_push_of_some _ g)
 have sz:(s.heap.push {cls:=.type "list_iterator",data:=.fields #[.ref l,.int 0 0]}).objs.size=s.heap.objs.size+1:=by simp[Heap.push]
 refine qgN (Ok:=λh=>∀b o,s.heap.get? b=some o->h.get? b=some o) (bt:=bt) W (λz=>?_) ⟨λi j x y s1 Q E p1 p2 ok q=>hc i j x y s1 Q E p1 p2 ok q,λh h' ok k b o g=>k b o (λz=>?_) (λz=>?_) (ok b o g)⟩ hne ⟨?_,?_⟩ up (Heap.get?_push_size _ rfl) λy h2 t2 p k=>?_
 ·have z':(s.heap.push {cls:=.type "list_iterator",data:=.fields #[.ref l,.int 0 0]}).objs.size=s.heap.objs.size\/(s.heap.push {cls:=.type "list_iterator",data:=.fields #[.ref l,.int 0 0]}).objs.size=l:=by simpa using z
  rw[sz]at z'
  rcases z' with e|e
  ·exact absurd e (ycX _)
  ·exact absurd (e▸la) (Nat.not_lt.mpr (ybw _))
 ·have z':b=s.heap.objs.size:=by simpa using z
  exact yao (yae g) z'
 ·have g':=yae g
  have z':b=(s.heap.push {cls:=.type "list_iterator",data:=.fields #[.ref l,.int 0 0]}).objs.size:=z
  rw[sz]at z'
  exact absurd (z'▸g') (Nat.not_lt.mpr (ybw _))
 ·exact⟨_,Heap.get?_push_of_some _ (Heap.get?_push_size _ rfl),rfl,rfl⟩
 ·exact hl.at λo e=>up l o e
 ·refine fin y h2 t2 p λb o g=>k b o (λz=>?_) (λz=>?_) (up b o g)
  ·have z':b=s.heap.objs.size:=by simpa using z
   exact yao (yae g) z'
  ·have g':=yae g
   have z':b=(s.heap.push {cls:=.type "list_iterator",data:=.fields #[.ref l,.int 0 0]}).objs.size:=z
   rw[sz]at z'
   exact absurd (z'▸g') (Nat.not_lt.mpr (ybw _))
end
def qgO:List D->Option (List (List Int))
 | []=>some []
 |.tup ts::r=>match vt ts,qgO r with
  |some n,some ns=>some (n::ns)
  |_,_=>none
 |_=>none
def qi2(ns:List (List Int))(i:Nat):List Int:=(ns[i]?).getD []
def qdz(ns:List (List Int)):Nat:=yax (λi j=>HT.lexLt (qi2 ns i) (qi2 ns j)) (ns.length-1)
def qjZ:List D->OD
 | [.lst ds]=>match qgO ds with
  |some (n::ns)=>some (.tup ((qi2 (n::ns) (qdz (n::ns))).map .int))
  |_=>none
 |_=>none
theorem v5 (bt:Nat->Nat->Bool):∀n,yax bt n<=n
 |0=>yah _
 |n+1=>by
  have:=v5 bt n
  show(if bt (n+1) (yax bt n)then n+1 else yax bt n)<=n+1
  split<;>omega
theorem qma {n:List Int} {ns:List (List Int)}:qdz (n::ns)<(n::ns).length:=by
 have:=v5 (λi j=>HT.lexLt (qi2 (n::ns) i) (qi2 (n::ns) j)) ((n::ns).length-1)
 show yax _ ((n::ns).length-1)<(n::ns).length
 simp only[lC_]at this |-
 omega
theorem qpa {K:Fr0} {A:Addr->Prop} {H:Hp} (ds:List D):∀{xs:List V}{ns:List (List Int)},IsL K A H ds xs->qgO ds=some ns->xs.length=ns.length/\∀i,i<ns.length->∃a,xs[i]? = some (.ref a)/\vL K H a ((qi2 ns i).map V.int):=by
 induction ds with
 |nil=>
  intro xs ns h e
  have e1:xs=[]:=h
  have e2:ns=[]:=by unfold qgO at e;exact(yaw e).symm
  subst e1 e2
  exact⟨rfl,λi hi=>absurd hi (yc5 _)⟩
 | cons d r ih=>
  intro xs ns h e
  obtain⟨x,ys,hx,h1,h2⟩:=h
  subst hx
  unfold qgO at e
  split at e
  ·rename_i heq
   cases heq
  ·rename_i ts r' heq
   cases heq
   obtain⟨a,zs,hv,ta,il⟩:=h1
   subst hv
   split at e
   ·rename_i n ms e1 e2
    have e3:n::ms=ns:=yaw e
    subst e3
    obtain⟨l1,l2⟩:=ih h2 e2
    rw[yg il e1]at ta
    refine⟨by rw[lC_,lC_,l1],λi hi=>?_⟩
    cases i with
    |zero=>exact⟨a,rfl,ta⟩
    |succ i=>
     obtain⟨b,g1,g2⟩:=l2 i (by simpa using hi)
     exact⟨b,by simpa using g1,g2⟩
   ·cases e
  ·cases e
section
variable{X:Cx}
def qmb(K:Fr0):List V->Hp->VK->Prop:=λxs H Q=>∃(p:Addr)(vs:List V)(ns:List (List Int)),xs=[.ref p]/\H p=some (.lst vs)/\vs.length=ns.length/\ns≠[]/\(∀i,i<ns.length->∃a,vs[i]? = some (.ref a)/\vL K H a ((qi2 ns i).map V.int))/\∀v,vs[qdz ns]? = some v->Q v H
theorem qj0 {k:Nat} (hr:qac k X.A):uS X (.builtin "min") (qmb X.K):=by
 intro pins s σ H xs us Q I r h
 obtain⟨p,vs,ns,rfl,hp,hlen,hne,hat,q⟩:=h
 obtain⟨u,rfl,ru⟩:=zT.one r
 cases ru
 obtain⟨its,rv,pl,hz⟩:=I.list (SqL.of hp)
 have hl:=pl.isList
 have l2:its.length=ns.length:=by rw[<-rv.length];exact hlen
 have hsz:0<its.toArray.size:=by
  rw[sT_,l2]
  exact List.length_pos_iff.mpr hne
 have at_:∀(i:Nat)(x:Value),its.toArray[i]? = some x->∃a items,x=.ref a/\IsTup s.heap a items/\ybJ items.toList (qi2 ns i):=λi x hx=>by
  have hx':its[i]? = some x:=by simpa using hx
  have hi:i<ns.length:=by rw[<-l2];exact(gI_.mp hx').1
  obtain⟨a,h1,h2⟩:=hat i hi
  obtain⟨u2,h3,h4⟩:=rv.get h1
  rw[hx']at h3
  cases h3
  cases h4
  obtain⟨its2,r2,p2,_⟩:=I.tuple h2.sq
  exact⟨a,its2.toArray,rfl,p2,yV r2⟩
 refine qiv (bt:=λi j=>HT.lexLt (qi2 ns i) (qi2 ns j)) hr.hd hl hsz (λi j x y s1 Q E hx hy kp q=>?_) λy h' tk hy kp=>?_
 ·obtain⟨a,i1,rfl,t1,n1⟩:=at_ i x hx
  obtain⟨b,i2,rfl,t2,n2⟩:=at_ j y hy
  have t1':IsTup s1.heap a i1:=by obtain⟨o,g,r⟩:=t1;exact⟨o,kp a o g,r⟩
  have t2':IsTup s1.heap b i2:=by obtain⟨o,g,r⟩:=t2;exact⟨o,kp b o g,r⟩
  have hu:X.A.in1.units<cLine:=by have:=hr.units;show X.A.units+1<cLine;omega
  exact HT.lt_tupInts t1' t2' n1 n2 hu q
 ·have hy':its[qdz ns]? = some y:=by
   have e:its.toArray.size-1=ns.length-1:=by rw[sT_,l2]
   rw[e]at hy
   simpa [qdz] using hy
  have hb:qdz ns<vs.length:=by
   have:=(gI_.mp hy').1
   rw[rv.length];exact this
  obtain⟨u2,h3,h4⟩:=rv.get (gG hb)
  rw[hy']at h3
  cases h3
  exact⟨vs[qdz ns],H,I.kept kp,h4,q _ (gG hb)⟩
end
theorem qiw {K:Fr0}:qa5 K qjZ (qmb K):=by
 intro A H xs d vs Q hn h e k
 unfold qjZ at e
 split at e
 ·rename_i ds
  obtain⟨v,rfl,a,zs,rfl,_,ta,il⟩:=IsL.inv1 h
  split at e
  ·rename_i n ns hi
   cases e
   obtain⟨l1,l2⟩:=qpa _ il hi
   refine⟨a,zs,n::ns,rfl,ta,l1,by simp,l2,λv hv=>?_⟩
   obtain⟨b,h1,h2⟩:=l2 (qdz (n::ns)) qma
   rw[hv]at h1
   cases h1
   exact k _ H (yA.refl H) ⟨b,_,rfl,h2,qef _⟩
  ·cases e
 ·cases e
def qmc(xs:List D):OD:=(qiq xs).or (qjZ xs)
def qre:List V->Hp->VK->Prop:=λxs H Q=>∃(p:Addr)(ns:List Int),xs=[.ref p]/\H p=some (.lst (ns.map V.int))/\ns≠[]/\Q (.int (qek ns)) H
theorem qfE {X:Cx} {k:Nat} (hr:qac k X.A) (hc:X.calm=true):uS X (.builtin "min") (λxs H Q=>qre xs H Q\/qmb X.K xs H Q):=by
 intro pins s σ H xs us Q I r h
 rcases h with h|h
 ·exact qjX hc pins s σ H xs us Q I r h
 ·exact qj0 hr pins s σ H xs us Q I r h
theorem qdO {K:Fr0}:qa5 K qmc (λxs H Q=>qre xs H Q\/qmb K xs H Q):=by
 intro A H xs d vs Q hn h e k
 unfold qmc at e
 cases e1:qiq xs with
 |some b=>rw[e1]at e;exact .inl (qir A H xs d vs Q hn h (by rw[e1];exact e) k)
 |none=>rw[e1]at e;exact .inr (qiw A H xs d vs Q hn h e k)
def qj1(K:Fr0):V->List V->Hp->VK->Prop:=λx vs H Q=>∃(l:Addr)(xs:List V)(ds:List D)(d:D)(y:V)(A:Addr->Prop)(j:Nat),x=.ref l/\vs=[y]/\H l=some (.lst xs)/\IsL K A H ds xs/\Is K A H d y/\ds.all qa8=true/\qa8 d=true/\ds.findIdx? (λe=>yaZ (yQ e) (yQ d))=some j/\Q (.int j) H
theorem qj2 {X:Cx} {k:Nat} (hr:qac k X.A):MtR X "list.index" (qj1 X.K):=by
 intro pins s σ H x vs v us Q I rx rv h
 obtain⟨l,xs,ds,d,y,A,j,rfl,rfl,hH,il,id',ok1,ok2,hj,q⟩:=h
 cases rx
 obtain⟨u,rfl,ru⟩:=zT.one rv
 obtain⟨z,its,n,r,hl,e⟩:=I.lstM hH
 obtain⟨bs,rd,_⟩:=yC I (qaZ ok2) id' ru
 have c2:=vB ok2
 have hlen:its.length=ds.length:=by rw[<-r.length];exact il.length
 have rds:∀m (hm:m<ds.length),∃as,Reads s.heap (its[m]'(by omega)) (yQ ds[m]) as/\(yQ ds[m]).canLay0=true/\(yQ ds[m]).depth<=50:=λm hm=>by
  obtain⟨x1,h1,h2⟩:=il.get (gG hm)
  obtain⟨u1,h3,h4⟩:=r.get h1
  rw[gG (show m<its.length by omega)]at h3
  cases h3
  have ok:=List.all_eq_true.mp ok1 ds[m] (ydI hm)
  obtain⟨as,ra,_⟩:=yC I (qaZ ok) h2 h4
  exact⟨as,ra,vB ok⟩
 rw[List.findIdx?_eq_some_iff_getElem]at hj
 obtain⟨h1,h2,h3⟩:=hj
 have hz:ds.length<=yav:=by rw[<-il.length];exact z
 rw[ybA]at hz
 have hu:=hr.units
 have val:∀m (hm:m<ds.length),yaZ (ygi s.heap (its[m]'(by omega))) (yQ d)=yaZ (yQ ds[m]) (yQ d):=λm hm=>by
  obtain⟨as,ra,c1,_⟩:=rds m hm
  rw[SeqAt.readOf_eq c1 ra]
 refine ycV ye9 ⟨_,e,rfl⟩ PySem.F.entry_list_index (PySem.F.args_list_index_2 _ _) (SeqAt.list_indexAt l its.toArray n none #[] u (λy=>yaZ (ygi s.heap y) (yQ d)) j (by simpa [hlen] using h1) (by omega) ?_ ?_) ⟨e,λy hy=>?_,?_⟩
 ·simp only[yfN]
  rw[val j h1]
  exact h2
 ·intro m hm hmj
  have hm':m<ds.length:=by omega
  simp only[yfN]
  rw[val m hm']
  have:=h3 m hmj
  simpa using this
 ·have hy':y∈its:=by simpa using hy
  obtain⟨i,hi⟩:=List.mem_iff_getElem?.mp hy'
  obtain⟨hi1,hi2⟩:=gI_.mp hi
  subst hi2
  obtain⟨as,ra,c1,d1⟩:=rds i (by omega)
  show yfJ _ _ _ _ (yaZ (ygi s.heap its[i]) (yQ d))
  rw[SeqAt.readOf_eq c1 ra]
  exact SeqAt.eqAt_reads _ _ _ _ _ _ _ _ ra rd c1 c2.1 (by show X.A.units+1+min _ _<cLine;omega)
 ·exact⟨.int _,H,I.tok _,⟨s.toks,rfl⟩,q⟩
def qfF (x:D) (ys:List D):OD:=match x,ys with
 |.lst ds,[d]=>if ds.all qa8&&qa8 d then(ds.findIdx? λe=>yaZ (yQ e) (yQ d)).map λj => .int j else none
 |_,_=>none
theorem qfG {K:Fr0}:qq9 K qfF (qj1 K):=by
 intro A H x ys d v vs Q hn ix iy e k
 unfold qfF at e
 split at e
 ·rename_i ds y
  obtain⟨u,rfl,e2⟩:=IsL.inv1 iy
  obtain⟨a,xs,rfl,_,ta,il⟩:=ix
  split at e
  ·rename_i hok
   rw[yan]at hok
   cases ej:ds.findIdx? (λe=>yaZ (yQ e) (yQ y)) with
   |none=>rw[ej]at e;cases e
   |some j=>
    rw[ej]at e
    cases e
    exact⟨a,xs,ds,y,u,A,j,rfl,rfl,ta,il,e2,hok.1,hok.2,ej,k _ H (yA.refl H) rfl⟩
  ·cases e
 ·cases e
theorem qhu {prog:yar} {w:World} {A:yau} (hh:A.handled=none) (it tu:Addr) (hne:tu≠it) (arr:Array Value) :
  Draws prog w A it [it,tu] arr.size (λi x=>arr[i]? = some x) (λi h=>h.IsListIter it tu i/\h.IsList tu arr) where
 live:=λi h st=>by obtain⟨⟨o,e,_⟩,_⟩:=st;exact⟨o,e⟩
 frame:=λi h h' st k=>by
  obtain⟨h1,o,e,r⟩:=st
  exact⟨h1.at λo q=>k it (by simp) o q,o,k tu (by simp) o e,r⟩
 item:=λi s Q E hi st q=>wpAny_nextOf_list_item st.1 st.2 (Array.getElem?_eq_getElem hi) λh' h1 sb=>q _ h' s.toks (Array.getElem?_eq_getElem hi) ⟨h1,by
  obtain⟨o,e,r⟩:=st.2
  exact⟨o,sb.extBut _ _ hne e,r⟩⟩ sb
 done:=λs Q E st q=>wpAny_nextOf_list_end hh st.1 st.2 (Array.getElem?_eq_none (yah _)) q
section
variable{prog:yar}{w:World}{A:yau}{E:Value->yab->Prop}{s:yab}
theorem qix {l:Addr} {xs:Array Value} {Q:Value->yab->Prop} (t1:s.heap.IsList l xs)
  (fin:∀h',IsEnum h' (s.heap.objs.size+1) s.heap.objs.size 0 .none->h'.IsListIter s.heap.objs.size l 0->(∀c o,s.heap.get? c=some o->h'.get? c=some o)->Q (.ref (s.heap.objs.size+1)) {s with heap:=h' }) :
  wpAny (model prog w) A (call (.type "enumerate") [.ref l]) Q E s:=by
 have meets:Meets (yaX.«enumerate.__new__» ⟨[.type "enumerate",.ref l],[]⟩) (λ_ R s=>s.heap.IsList l xs /\
   R (.ok (.ret (.ref (s.heap.objs.size+1)))) {s with heap:=(s.heap.push {cls:=.type "list_iterator",data:=.fields #[.ref l,.int 0 0]}).push {cls:=.type "enumerate",data:=.fields #[.none,.bool false,.ref s.heap.objs.size,ybm 0,.none,.none]} }) :=
  .of_wp λprog w A R s h=>by
   obtain⟨hp,g,d,tk,os⟩:=s
   obtain⟨ha,h⟩:=h
   have hsub:=sub_enumerate
   have hA:Heap.IsList (yei ⟨hp,g,d,tk,os⟩) l xs:=ha
   obtain⟨o,ho,_⟩:=id ha
   have ho':hp.get? l=some o:=ho
   wp_walk using ya9 ho'
   refine wpAny_stack_any λst=>yac ?_
   split
   ·rename_i c _ _ _ _ _
    cases (c==ycB "enumerate")
    ·wp_walk using ya9 ho',ya4 hA
     simp only[yaN]at *
     exact⟨_,rfl,h⟩
    ·wp_walk using ya9 ho',ya4 hA
     simp only[yaN]at *
     exact⟨_,rfl,h⟩
   ·wp_walk using ya9 ho',ya4 hA
    simp only[yaN]at *
    exact⟨_,rfl,h⟩
 refine yeW ygh (by decide) (yfo _) (yfD _) (λobj=>yd4 obj _) yfE meets ⟨t1,?_⟩
 generalize e1:s.heap.push {cls:=.type "list_iterator",data:=.fields #[.ref l,.int 0 0]}=m1
 have s1:m1.objs.size=s.heap.objs.size+1:=by rw[<-e1,yaN]
 have q1:m1.get? s.heap.objs.size=some {cls:=.type "list_iterator",data:=.fields #[.ref l,.int 0 0]}:=by rw[<-e1];exact Heap.get?_push_size _ rfl
 have k1:∀c o,s.heap.get? c=some o->m1.get? c=some o:=λc o x=>by rw[<-e1];exact Heap.get?_push_of_some _ x
 generalize e2:m1.push {cls:=.type "enumerate",data:=.fields #[.none,.bool false,.ref s.heap.objs.size,ybm 0,.none,.none]}=m2
 have q2:m2.get? (s.heap.objs.size+1)=some {cls:=.type "enumerate",data:=.fields #[.none,.bool false,.ref s.heap.objs.size,ybm 0,.none,.none]}:=by rw[<-e2,<-s1];exact Heap.get?_push_size _ rfl
 have k2:∀c o,m1.get? c=some o->m2.get? c=some o:=λc o x=>by rw[<-e2];exact Heap.get?_push_of_some _ x
 show _/\_
 exact⟨⟨_,q2,rfl⟩,fin m2 q2 ⟨_,k2 _ _ q1,rfl,rfl⟩ λc o x=>k2 _ _ (k1 _ _ x)⟩
end
def qsQ (K:Fr0) (a:Addr) (xs:List V):It :=
 ⟨λi H=>i<xs.length/\SqL K H a xs,λi H x H'=>∃p u,H p=none/\xs[i]? = some u/\x=.ref p/\H'=upd H p (.tup [.int i,u]),λi H=>i=xs.length/\SqL K H a xs⟩
def qtU(z i1 a1:Addr)(i:Nat)(h:Heap):Prop:=(∃old,IsEnum h z i1 i old)/\h.IsListIter i1 a1 i
theorem qiy {P:yar} {w:World} {K:Fr0} {es:List Expr} {kk:Nat} {pos:Pos} {z i1 a1:Addr} {xs:List V} (zi:z≠i1) (za:z≠a1) (n1:a1≠i1) :
  qnk P w K (.Tuple es kk pos) (qsQ K a1 xs) [z,i1] z (qtU z i1 a1) where
 mem:=by simp
 obj:=λi h st b hb=>by
  obtain⟨⟨old,h1⟩,⟨o4,h4,c4,d4⟩⟩:=st
  simp only[yaD,nN_,or_false]at hb
  rcases hb with rfl|rfl
  ·exact⟨_,h1,λv e=>by cases (show yeh _=ydL v from e)⟩
  ·exact⟨_,h4,λv e=>by rw[d4]at e;cases e⟩
 keep:=λi h h' st k=>by
  obtain⟨⟨old,h1⟩,h4⟩:=st
  exact⟨⟨old,k z (by simp) _ h1⟩,h4.at λo e=>k i1 (by simp) o e⟩
 item:=by
  intro X hP hw hK hc i pins s σ H E I hf st hg
  subst hP hw hK
  obtain⟨hlt,hx⟩:=hg
  obtain⟨⟨old,h1⟩,h4⟩:=st
  obtain⟨it1,r1,p1,z1⟩:=I.list hx
  have l1:i<it1.toArray.size:=by rw[sT_,<-r1.length];omega
  have hh:X.A.in1.handled=none:=I.ok.hd hc
  refine ye8 (qhu hh i1 a1 n1 it1.toArray) h1 ⟨h4,p1.isList⟩ l1 zi (by simp[zi,za]) λx h' tk px ho u1 new hsz kp=>?_
  refine⟨.ref s.heap.objs.size,rfl,yew ho λh2' zz2 sb=>?_⟩
  obtain⟨xv,hxv⟩:∃v,xs[i]? = some v:=⟨xs[i]'(by omega),gG (by omega)⟩
  obtain⟨x',ex,rx⟩:=r1.get hxv
  have exx:x'=x:=by
   have:it1.toArray[i]? = some x:=px
   rw[List.getElem?_toArray,ex]at this
   exact yaw this
  subst exx
  have lz:z<s.heap.objs.size:=yae h1
  have keep:∀b u,b ∉ [z,i1]->s.heap.get? b=some u->h2'.get? b=some u:=λb u hb e=>by
   simp only[yaD,nN_,or_false,not_or]at hb
   exact(sb.2 b hb.1).trans (kp b u hb.1 hb.2 e)
  have I2:Inv X pins σ (upd H s.heap.objs.size (.tup [.int i,xv])) {s with heap:=h2',toks:=tk+1} :=
   qgE I keep hf (yah _) ⟨by show 2<=yav;decide,[.int i tk,x'],.cons ⟨tk,rfl⟩ (.cons rx .nil),⟨_,(sb.2 _ (ybL lz)).trans new,rfl,_,rfl⟩⟩
  refine⟨.ref s.heap.objs.size,upd H s.heap.objs.size (.tup [.int i,xv]),I2,rfl,⟨s.heap.objs.size,xv,I.hok.fresh (yah _),hxv,rfl,rfl⟩,?_,λb hb=>?_⟩
  ·exact⟨⟨_,by simpa using zz2⟩,u1.1.at λo e=>(sb.2 i1 zi.symm).trans e⟩
  ·have hb1:b≠s.heap.objs.size:=by
    simp only[yaD,nN_,or_false]at hb
    obtain⟨o4,g4,_⟩:=h4
    rcases hb with rfl|rfl
    ·exact yao (yae h1)
    ·exact yao (yae g4)
   rw[qx hb1]
   exact(hf b hb).1
 done:=by
  intro X hP hw hK hc i pins s σ H E I hf st hg
  subst hP hw hK
  obtain⟨hlt,hx⟩:=hg
  obtain⟨⟨old,h1⟩,h4⟩:=st
  obtain⟨it1,r1,p1,z1⟩:=I.list hx
  have hh:X.A.in1.handled=none:=I.ok.hd hc
  have e:i=it1.toArray.size:=by rw[sT_,<-r1.length];exact hlt
  subst e
  refine yfp (qhu hh i1 a1 n1 it1.toArray) h1 ⟨h4,p1.isList⟩ λh' kp=>⟨rfl,qgF (t':=s.toks) I (λb u hb e=>?_) hf⟩
  simp only[yaD,nN_,or_false,not_or]at hb
  exact kp b u hb.2 e
 self:=λA i s Q E st h=>by
  obtain⟨⟨old,h1⟩,_⟩:=st
  exact ydp h1 h
section
variable{X:Cx}{c:Fc}{a b e:Expr}{pos:Pos}{es:List Expr}{kk:Nat}{tp:Pos}
def qrf(K:Fr0)(ta:TA):TI:=λσ H R=>ta σ H λvs H1=>∃a1 xs,vs=[.ref a1]/\SqL K H1 a1 xs/\R (qsQ K a1 xs) H1
theorem qmd {ta:TA} {p:Pos} (hg:Gl X "enumerate") (hm:X.mg "enumerate"=none) (ha:PA X [a] ta) (hs:yam [a] X.env=[(false,eval a X.env)]:=by rfl) :
  PI X (.Tuple es kk tp) (.Call (.Name "enumerate" p) [a] [] pos) (qrf X.K ta):=by
 intro pins s σ H R I h
 refine Call_ (wT I hg hm yem (yaW (thn (ha pos pins s σ H _ I h) λus s1 ⟨vs,H1,I1,r1,q1⟩=>?_) (by rw[hs];rfl) (by rfl)))
 obtain⟨a1,xs,e1,hx,q⟩:=q1
 subst e1
 obtain⟨u1,rfl,ru1⟩:=zT.one r1
 cases (show u1=yat a1 from ru1)
 obtain⟨it1,v1,p1,z1⟩:=I1.list hx
 refine qix (show s1.heap.IsList a1 it1.toArray from p1.isList) λh' zz g1 kp=>?_
 refine ydp zz ?_
 have la1:a1<s1.heap.objs.size:=by obtain⟨o,e,_⟩:=p1.isList;exact yae e
 refine⟨s1.heap.objs.size+1,[s1.heap.objs.size+1,s1.heap.objs.size],_,_,H1,rfl,I1.kept (t':=s1.toks) kp,qiy (xs:=xs) (ycX _) (ybL (yb3 la1)) (yao la1),⟨⟨_,zz⟩,g1⟩,λb hb=>?_,q⟩
 simp only[yaD,nN_,or_false]at hb
 have hb2:s1.heap.objs.size<=b:=by
  rcases hb with e|e<;>rw[e]
  ·exact yb8 _ _
  ·exact yah _
 exact I1.fpOk hb2 (I1.hok.fresh hb2)
end
section
variable{X:Cx}{c:Fc}{a b e:Expr}{pos:Pos}{es:List Expr}{kk:Nat}{tp:Pos}
theorem qme {K:Fr0} {A:Addr->Prop} {H:Hp} {ds:List D} {xs:List V} {a1:Addr} (hA:A a1) (t1:H a1=some (.lst xs)) (i1:IsL K A H ds xs):qi1 K A H (vc 0 ds) (qsQ K a1 xs) where
 go:=λH' i d ex hd=>by
  have hl:i<(vc 0 ds).length:=(gI_.mp hd).1
  rw[qak,<-i1.length]at hl
  exact⟨hl,SqL.of (ex.at_ _ _ hA t1)⟩
 yl:=λH' i d x H'' ex hd y=>by
  obtain⟨p,u,hp,hu,rfl,rfl⟩:=y
  obtain⟨dx,h1,rfl⟩:=qcT hd
  obtain⟨u',g1,g2⟩:=i1.get h1
  rw[hu]at g1
  cases g1
  have sm:=qC hp (.tup [.int i,u])
  exact⟨sm,p,[.int i,u],rfl,.inl qz,.int i,[u],rfl,by rw[ybf];rfl,u,[],rfl,Is.ext (Ext.of_same sm) (λ_ h _=>h) (Is.ext ex (λ_ h _=>h) g2),rfl⟩
 stop:=λH' ex=>⟨by rw[qak,i1.length],SqL.of (ex.at_ _ _ hA t1)⟩
def qnM:List D->Option (List D)
 | [.lst xs]=>some (vc 0 xs)
 |_=>none
def qcX(f:M (List D)):M (List D):=bnd f λds=>lift (qnM ds)
theorem qhv {f:M (List D)} {p:Pos} (hg:Gl X "enumerate") (hm:X.mg "enumerate"=none) (ha:DA X c [a] f) (hs:yam [a] X.env=[(false,eval a X.env)]:=by rfl) :
  DI X c (.Tuple es kk tp) (.Call (.Name "enumerate" p) [a] [] pos) (qcX f):=by
 obtain⟨t,pa,w⟩:=ha
 refine⟨_,qmd hg hm pa hs,λρ σ H Q r h=>w ρ σ H _ r (WpL.bndI h λds ρ1 vs H1 r1 i1 g1 h1=>?_)⟩
 obtain⟨es',e,h2⟩:=wz h1
 unfold qnM at e
 split at e
 ·obtain⟨v,rfl,j1⟩:=IsL.inv1 i1
  cases e
  obtain⟨a1,xs,rfl,hA,t1,il1⟩:=Is.tr j1
  exact⟨a1,xs,rfl,SqL.of t1,h2 _ H1 r1 (qme hA t1 il1) .refl⟩
 ·cases e
end
end L2.Sk
namespace L2
open PySem PySem.Spec PyProof.Rows L2.Sk
end L2
namespace L2.Sk
open PySem PySem.Spec PyProof.Rows
theorem qfH(a d:Value):ycQ "min" ⟨[a],[(("default":Str),d)]⟩:=by unfold ycQ;kernel_rfl
theorem qfI(a d:Value):ycQ "max" ⟨[a],[(("default":Str),d)]⟩:=by unfold ycQ;kernel_rfl
theorem jh {prog:yar} {w:World} {A:yau} {E:Value->yab->Prop} {s:yab} {id:String} {b:yaX} {args:List Value} {kw:List (Str×Value)} {Q:Value->yab->Prop} (hk:builtinKind id=none) (hp:plainId id=true) (hb:yeY table id=some b) (ha:ycQ id ⟨args,kw⟩)
  (hc:wpAny (model prog w) A.in1 (b ⟨args,kw⟩) (λfin s2=>match fin with
   |.done f=>(match (Except.ok f:ydU) with|.ok (.ret v)=>Q v s2|.ok _=>False|.error e=>E e s2)
   |.again c2=>c2.quiet=true/\ybI (model prog w) A c2 (λr s3=>match r with|.ok (.ret v)=>Q v s3|.ok _=>False|.error e=>E e s3) s2) E s) :
  wpAny (model prog w) A (call (.builtin id) args kw) Q E s:=by
 refine ygR (ycW hp hb ?_)
 simp only[ydG,hk]
 cases es:Manifest.signature? id with
 |none=>exact yac hc
 |some sg=>
  simp only[ycQ,es]at ha
  have h2:Bind.checkArgs id sg ⟨args,kw⟩=pure ():=ha
  show wpAny _ A.in1 (Bind.checkArgs id sg ⟨args,kw⟩) _ _ s
  rw[h2]
  exact yac hc
def qhw (X:Cx) (f:Value) (ks:List Str) (r:List V->List V->Hp->VK->Prop):Prop:=∀(pins:List (Addr×Obj))(s:yab)(σ:St)(H:Hp)(xs:List V)(us:List Value)(zs:List V)(ws:List Value)(Q:VK),Inv X pins σ H s->zT xs us->zT zs ws->r xs zs H Q ->
 wpAny (model X.prog X.w) X.A (call f us (ks.zip ws)) (EP X pins σ Q) X.xe s
theorem qj3 {X:Cx} {x:Str} {p pos:Pos} {e:Expr} {es:List Expr} {kws:List ycq} {t tk:TA} {id:String} {ks:List Str} {r:List V->List V->Hp->VK->Prop} (hc:qhw X (.builtin id) ks r) (hg:Gl X x) (hm:X.mg x=none) (hv:yaF x=some (.builtin id)) (ha:PA X (e::es) t) (hkw:PK X kws tk)
  (hall:(ycs pos (ybM kws X.env)).all (·.1.isSome)=true:=by rfl) (hks:(ycs pos (ybM kws X.env)).filterMap (·.1)=ks:=by rfl) (hn:x≠"__name__":=by decide) (hdb:(x==("__debug__":Str))=false:=by decide)
  (he:yam (e::es) X.env=(false,eval e X.env)::yam es X.env:=by rfl) (hpl:((ybb pos (yam (e::es) X.env)).any (·.1)||(ycs pos (ybM kws X.env)).any (·.1.isNone))=false:=by rfl) :
  PE X (.Call (.Name x p) (e::es) kws pos) (λσ H Q=>t σ H λvs H1=>tk σ H1 λzs H2=>r vs zs H2 Q):=by
 intro pins s σ H Q I h
 refine ycD (wT I hg hm hv ?_ hn hdb)
 refine PySem.W.callWith_of (P:=λ_=>True) hpl (λ_ _=>⟨.machine,.inr (.inl rfl),.now⟩) (evalArgs_kw2 hall (thn (ha pos pins s σ H _ I h) λus s1 ⟨vs,H1,I1,r1,q1⟩=>?_) he)
 refine thn (hkw pos pins s1 σ H1 _ I1 q1) λws s2 ⟨zs,H2,I2,rz,q2⟩=>⟨trivial,?_⟩
 rw[hks,yaJ]
 exact hc pins s2 σ H2 vs us zs ws Q I2 r1 rz q2
section
variable{prog:yar}{w:World}{A:yau}{R:ydU->yab->Prop}{I:Addr}{fp wr:List Addr}{n:Nat}{P:Nat->Value->Prop}{St:Nat->Heap->Prop}{dv:Value}
structure qfJ (prog:yar) (w:World) (A:yau) (P:Nat->Value->Prop) (bt:Nat->Nat->Bool) (Ok:Heap->Prop) (wr:List Addr) (Z:Addr):Prop where
 cmp:∀(i j:Nat)(x y:Value)(s:yab)(Q E:Value->yab->Prop),P i x->P j y->Ok s.heap->Q (.bool (bt i j)) s->wpAny (model prog w) A (yc1 .Lt x y) Q E s
 old:∀h h':Heap,Ok h->(∀b o,b ∉ wr->b≠Z->h.get? b=some o->h'.get? b=some o)->Ok h'
theorem qj4 (W:Walks prog w A.in1 I fp wr n P St) {bt:Nat->Nat->Bool} {Ok:Heap->Prop} {Z:Addr} (gZ:Z ∉ fp) (C:qfJ prog w A.in1 P bt Ok wr Z) :
  ∀(m q:Nat)(s:yab)(best:Value)(z:Nat),n=q+1+m->St (q+1) s.heap->P (yax bt q) best->Ok s.heap ->
  s.heap.get? Z=some {cls:=.type "list",dict:=none,data:=.seq #[best,best] z,slots := #[]} ->
  (∀y h2 t2,P (yax bt (n-1)) y->(∀b o,b ∉ wr->b≠Z->s.heap.get? b=some o->h2.get? b=some o)->R (.ok (.ret y)) {s with heap:=h2,toks:=t2}) ->
  ybI (model prog w) A (.builtin "min.loop" ⟨[.ref I,.none,.ref Z],[(("default":Str),dv)]⟩) R s:=by
 have gw:Z ∉ wr:=λe=>gZ (W.sub _ e)
 have nm:(ybi "min"++ybi ".loop":String)="min.loop":=by decide
 intro m
 induction m with
 | zero=>
  intro q s best z en est eP eO eZ fin
  have eq1:q+1=n:=by omega
  have st':St n s.heap:=eq1▸est
  refine yaI ybv (by
   rw[yaB yaz _]
   refine yaa (yaE eZ rfl ?_)
   refine yaa (ya7 (W.done s _ _ st' λh1 t1 k1=>?_))
   have eZ1:=k1 Z _ gw eZ
   refine yaa (ybF eZ1 rfl (yaa (ybp (yac ?_))))
   exact fin best _ t1 (by rw[<-eq1];exact eP) λb o nb nz g=>(Heap.get?_update_other _ _ (ybs nz)).trans (k1 b o nb g))
 | succ m ih=>
  intro q s best z en est eP eO eZ fin
  have lt1:q+1<n:=by omega
  refine yaI ybv (by
   rw[yaB yaz _]
   refine yaa (yaE eZ rfl ?_)
   refine yaa (ya7 (W.item (q+1) s _ _ lt1 est λx h1 t1 eP1 est1 k1=>?_))
   have eZ1:=k1 Z _ gw eZ
   have eO1:Ok h1:=C.old _ _ eO λb o nb _ g=>k1 b o nb g
   refine yaa (yac (yaa (ya7 (ya2 (yaa (C.cmp (q+1) (yax bt q) x best _ _ _ eP1 eP eO1 ?_))))))
   refine yaa (ya2 (yaU (yaa (ybp (yac ?_)))))
   cases less:bt (q+1) (yax bt q) with
   |true=>
    refine yaa (ybF eZ1 rfl (yaa (ybp ?_)))
    rw[nm]
    refine yac ⟨yaO yaz _,?_⟩
    refine ih (q+1) _ x _ (by omega) (W.frame _ _ _ est1 λb nb o g=>?_) (by simp only[yax,less,if_true];exact eP1) (C.old _ _ eO1 λb o _ nz g=>?_) (Heap.get?_update_self _ eZ1 rfl) λy h2 t2 eP2 k2=>?_
    ·exact(Heap.get?_update_other _ _ (λe:Z=b=>gZ (by rw[e];exact nb))).trans g
    ·exact(Heap.get?_update_other _ _ (ybs nz)).trans g
    ·exact fin y h2 t2 eP2 λb o nb nz g=>k2 b o nb nz ((Heap.get?_update_other _ _ (ybs nz)).trans (k1 b o nb g))
   |false=>
    refine yaa (ybp ?_)
    rw[nm]
    refine yac ⟨yaO yaz _,?_⟩
    refine ih (q+1) _ best z (by omega) est1 (by simp only[yax,less,ybr,if_false];exact eP) eO1 eZ1 λy h2 t2 eP2 k2=>?_
    exact fin y h2 t2 eP2 λb o nb nz g=>k2 b o nb nz (k1 b o nb g))
theorem qiz (W:Walks prog w A.in1 I fp wr n P St) {bt:Nat->Nat->Bool} {Ok:Heap->Prop} {Z:Addr} (gZ:Z ∉ fp) (C:qfJ prog w A.in1 P bt Ok wr Z) {s:yab} {z:Nat} (hn:0<n) (est:St 0 s.heap) (eO:Ok s.heap)
  (eZ:s.heap.get? Z=some {cls:=.type "list",dict:=none,data:=.seq #[] z,slots := #[]})
  (fin:∀y h2 t2,P (yax bt (n-1)) y->(∀b o,b ∉ wr->b≠Z->s.heap.get? b=some o->h2.get? b=some o)->R (.ok (.ret y)) {s with heap:=h2,toks:=t2}) :
  ybI (model prog w) A (.builtin "min.loop" ⟨[.ref I,.none,.ref Z],[(("default":Str),dv)]⟩) R s:=by
 have gw:Z ∉ wr:=λe=>gZ (W.sub _ e)
 have nm:(ybi "min"++ybi ".loop":String)="min.loop":=by decide
 refine yaI ybv (by
  rw[yaB yaz _]
  refine yaa (yaE eZ rfl ?_)
  refine yaa (ya7 (W.item 0 s _ _ hn est λx h1 t1 eP1 est1 k1=>?_))
  have eZ1:=k1 Z _ gw eZ
  have eO1:Ok h1:=C.old _ _ eO λb o nb _ g=>k1 b o nb g
  refine yaa (yac (yaa (ybF eZ1 rfl ?_)))
  rw[nm]
  refine yac ⟨yaO yaz _,?_⟩
  refine qj4 W gZ C (n-1) 0 _ x _ (by omega) (W.frame _ _ _ est1 λb nb o g=>?_) eP1 (C.old _ _ eO1 λb o _ nz g=>?_) (Heap.get?_update_self _ eZ1 rfl) λy h2 t2 eP2 k2=>?_
  ·exact(Heap.get?_update_other _ _ (λe:Z=b=>gZ (by rw[e];exact nb))).trans g
  ·exact(Heap.get?_update_other _ _ (ybs nz)).trans g
  ·exact fin y h2 t2 eP2 λb o nb nz g=>k2 b o nb nz ((Heap.get?_update_other _ _ (ybs nz)).trans (k1 b o nb g)))
end
section
variable{prog:yar}{w:World}{A:yau}{E:Value->yab->Prop}{s:yab}
theorem qj5 {l:Addr} {dv:Value} {its:Array Value} {bt:Nat->Nat->Bool} {Q:Value->yab->Prop} (hh:A.handled=none) (hl:s.heap.IsList l its) (hne:0<its.size)
  (hc:∀(i j:Nat)(x y:Value)(s1:yab)(Q E:Value->yab->Prop),its[i]? = some x->its[j]? = some y->(∀b o,s.heap.get? b=some o->s1.heap.get? b=some o)->Q (.bool (bt i j)) s1->wpAny (model prog w) A.in1 (yc1 .Lt x y) Q E s1)
  (fin:∀y h' tk,its[yax bt (its.size-1)]? = some y->(∀b o,s.heap.get? b=some o->h'.get? b=some o)->Q y {s with heap:=h',toks:=tk}) :
  wpAny (model prog w) A (call (.builtin "min") [.ref l] [(("default":Str),dv)]) Q E s:=by
 have nm:(ybi "min"++ybi ".loop":String)="min.loop":=by decide
 refine jh yeX yeE yeF (qfH _ _) ?_
 refine yaa (ybC (show ybG "min" ["key","default"] 0 ⟨[],[(("default":Str),dv)]⟩=pure [none,some dv]from rfl) (yaa (yac ?_)))
 refine yaa (ya4 hl ?_)
 have la:l<s.heap.objs.size:=by obtain⟨o,e,_⟩:=hl;exact yae e
 have W:=ydk (prog:=prog) (w:=w) (A:=A.in1) hh s.heap.objs.size l (yao la) its
 refine yaa (yay ?_)
 rw[nm]
 refine yac ⟨yaO yaz _,?_⟩
 have up:∀b o,s.heap.get? b=some o->((s.heap.push {cls:=.type "list_iterator",data:=.fields #[.ref l,.int 0 0]}).push {cls:=.type "list",data:=.seq #[]}).get? b=some o:=λb o g=>Heap.get?_push_of_some _ (Heap.get?_push_of_some _ g)
 have sz:(s.heap.push {cls:=.type "list_iterator",data:=.fields #[.ref l,.int 0 0]}).objs.size=s.heap.objs.size+1:=by simp[Heap.push]
 refine qiz (Ok:=λh=>∀b o,s.heap.get? b=some o->h.get? b=some o) (bt:=bt) W (λz=>?_) ⟨λi j x y s1 Q E p1 p2 ok q=>hc i j x y s1 Q E p1 p2 ok q,λh h' ok k b o g=>k b o (λz=>?_) (λz=>?_) (ok b o g)⟩ hne ⟨?_,?_⟩ up (Heap.get?_push_size _ rfl) λy h2 t2 p k=>?_
 ·have z':(s.heap.push {cls:=.type "list_iterator",data:=.fields #[.ref l,.int 0 0]}).objs.size=s.heap.objs.size\/(s.heap.push {cls:=.type "list_iterator",data:=.fields #[.ref l,.int 0 0]}).objs.size=l:=by simpa using z
  rw[sz]at z'
  rcases z' with e|e
  ·exact absurd e (ycX _)
  ·exact absurd (e▸la) (Nat.not_lt.mpr (ybw _))
 ·have z':b=s.heap.objs.size:=by simpa using z
  exact yao (yae g) z'
 ·have g':=yae g
  have z':b=(s.heap.push {cls:=.type "list_iterator",data:=.fields #[.ref l,.int 0 0]}).objs.size:=z
  rw[sz]at z'
  exact absurd (z'▸g') (Nat.not_lt.mpr (ybw _))
 ·exact⟨_,Heap.get?_push_of_some _ (Heap.get?_push_size _ rfl),rfl,rfl⟩
 ·exact hl.at λo e=>up l o e
 ·refine fin y h2 t2 p λb o g=>k b o (λz=>?_) (λz=>?_) (up b o g)
  ·have z':b=s.heap.objs.size:=by simpa using z
   exact yao (yae g) z'
  ·have g':=yae g
   have z':b=(s.heap.push {cls:=.type "list_iterator",data:=.fields #[.ref l,.int 0 0]}).objs.size:=z
   rw[sz]at z'
   exact absurd (z'▸g') (Nat.not_lt.mpr (ybw _))
end
section
variable{prog:yar}{w:World}{A:yau}{R:ydU->yab->Prop}{I:Addr}{fp wr:List Addr}{n:Nat}{P:Nat->Value->Prop}{St:Nat->Heap->Prop}{dv:Value}
structure qfK (prog:yar) (w:World) (A:yau) (P:Nat->Value->Prop) (bt:Nat->Nat->Bool) (Ok:Heap->Prop) (wr:List Addr) (Z:Addr):Prop where
 cmp:∀(i j:Nat)(x y:Value)(s:yab)(Q E:Value->yab->Prop),P i x->P j y->Ok s.heap->Q (.bool (bt i j)) s->wpAny (model prog w) A (yc1 .Gt x y) Q E s
 old:∀h h':Heap,Ok h->(∀b o,b ∉ wr->b≠Z->h.get? b=some o->h'.get? b=some o)->Ok h'
theorem qj6 (W:Walks prog w A.in1 I fp wr n P St) {bt:Nat->Nat->Bool} {Ok:Heap->Prop} {Z:Addr} (gZ:Z ∉ fp) (C:qfK prog w A.in1 P bt Ok wr Z) :
  ∀(m q:Nat)(s:yab)(best:Value)(z:Nat),n=q+1+m->St (q+1) s.heap->P (yax bt q) best->Ok s.heap ->
  s.heap.get? Z=some {cls:=.type "list",dict:=none,data:=.seq #[best,best] z,slots := #[]} ->
  (∀y h2 t2,P (yax bt (n-1)) y->(∀b o,b ∉ wr->b≠Z->s.heap.get? b=some o->h2.get? b=some o)->R (.ok (.ret y)) {s with heap:=h2,toks:=t2}) ->
  ybI (model prog w) A (.builtin "max.loop" ⟨[.ref I,.none,.ref Z],[(("default":Str),dv)]⟩) R s:=by
 have gw:Z ∉ wr:=λe=>gZ (W.sub _ e)
 have nm:(ybi "max"++ybi ".loop":String)="max.loop":=by decide
 intro m
 induction m with
 | zero=>
  intro q s best z en est eP eO eZ fin
  have eq1:q+1=n:=by omega
  have st':St n s.heap:=eq1▸est
  refine yaI ycI (by
   rw[yaB ya6 _]
   refine yaa (yaE eZ rfl ?_)
   refine yaa (ya7 (W.done s _ _ st' λh1 t1 k1=>?_))
   have eZ1:=k1 Z _ gw eZ
   refine yaa (ybF eZ1 rfl (yaa (ybp (yac ?_))))
   exact fin best _ t1 (by rw[<-eq1];exact eP) λb o nb nz g=>(Heap.get?_update_other _ _ (ybs nz)).trans (k1 b o nb g))
 | succ m ih=>
  intro q s best z en est eP eO eZ fin
  have lt1:q+1<n:=by omega
  refine yaI ycI (by
   rw[yaB ya6 _]
   refine yaa (yaE eZ rfl ?_)
   refine yaa (ya7 (W.item (q+1) s _ _ lt1 est λx h1 t1 eP1 est1 k1=>?_))
   have eZ1:=k1 Z _ gw eZ
   have eO1:Ok h1:=C.old _ _ eO λb o nb _ g=>k1 b o nb g
   refine yaa (yac (yaa (ya7 (ya2 (yaa (C.cmp (q+1) (yax bt q) x best _ _ _ eP1 eP eO1 ?_))))))
   refine yaa (ya2 (yaU (yaa (ybp (yac ?_)))))
   cases less:bt (q+1) (yax bt q) with
   |true=>
    refine yaa (ybF eZ1 rfl (yaa (ybp ?_)))
    rw[nm]
    refine yac ⟨yaO ya6 _,?_⟩
    refine ih (q+1) _ x _ (by omega) (W.frame _ _ _ est1 λb nb o g=>?_) (by simp only[yax,less,if_true];exact eP1) (C.old _ _ eO1 λb o _ nz g=>?_) (Heap.get?_update_self _ eZ1 rfl) λy h2 t2 eP2 k2=>?_
    ·exact(Heap.get?_update_other _ _ (λe:Z=b=>gZ (by rw[e];exact nb))).trans g
    ·exact(Heap.get?_update_other _ _ (ybs nz)).trans g
    ·exact fin y h2 t2 eP2 λb o nb nz g=>k2 b o nb nz ((Heap.get?_update_other _ _ (ybs nz)).trans (k1 b o nb g))
   |false=>
    refine yaa (ybp ?_)
    rw[nm]
    refine yac ⟨yaO ya6 _,?_⟩
    refine ih (q+1) _ best z (by omega) est1 (by simp only[yax,less,ybr,if_false];exact eP) eO1 eZ1 λy h2 t2 eP2 k2=>?_
    exact fin y h2 t2 eP2 λb o nb nz g=>k2 b o nb nz (k1 b o nb g))
theorem qiA (W:Walks prog w A.in1 I fp wr n P St) {bt:Nat->Nat->Bool} {Ok:Heap->Prop} {Z:Addr} (gZ:Z ∉ fp) (C:qfK prog w A.in1 P bt Ok wr Z) {s:yab} {z:Nat} (hn:0<n) (est:St 0 s.heap) (eO:Ok s.heap)
  (eZ:s.heap.get? Z=some {cls:=.type "list",dict:=none,data:=.seq #[] z,slots := #[]})
  (fin:∀y h2 t2,P (yax bt (n-1)) y->(∀b o,b ∉ wr->b≠Z->s.heap.get? b=some o->h2.get? b=some o)->R (.ok (.ret y)) {s with heap:=h2,toks:=t2}) :
  ybI (model prog w) A (.builtin "max.loop" ⟨[.ref I,.none,.ref Z],[(("default":Str),dv)]⟩) R s:=by
 have gw:Z ∉ wr:=λe=>gZ (W.sub _ e)
 have nm:(ybi "max"++ybi ".loop":String)="max.loop":=by decide
 refine yaI ycI (by
  rw[yaB ya6 _]
  refine yaa (yaE eZ rfl ?_)
  refine yaa (ya7 (W.item 0 s _ _ hn est λx h1 t1 eP1 est1 k1=>?_))
  have eZ1:=k1 Z _ gw eZ
  have eO1:Ok h1:=C.old _ _ eO λb o nb _ g=>k1 b o nb g
  refine yaa (yac (yaa (ybF eZ1 rfl ?_)))
  rw[nm]
  refine yac ⟨yaO ya6 _,?_⟩
  refine qj6 W gZ C (n-1) 0 _ x _ (by omega) (W.frame _ _ _ est1 λb nb o g=>?_) eP1 (C.old _ _ eO1 λb o _ nz g=>?_) (Heap.get?_update_self _ eZ1 rfl) λy h2 t2 eP2 k2=>?_
  ·exact(Heap.get?_update_other _ _ (λe:Z=b=>gZ (by rw[e];exact nb))).trans g
  ·exact(Heap.get?_update_other _ _ (ybs nz)).trans g
  ·exact fin y h2 t2 eP2 λb o nb nz g=>k2 b o nb nz ((Heap.get?_update_other _ _ (ybs nz)).trans (k1 b o nb g)))
end
section
variable{prog:yar}{w:World}{A:yau}{E:Value->yab->Prop}{s:yab}
theorem qj7 {l:Addr} {dv:Value} {its:Array Value} {bt:Nat->Nat->Bool} {Q:Value->yab->Prop} (hh:A.handled=none) (hl:s.heap.IsList l its) (hne:0<its.size)
  (hc:∀(i j:Nat)(x y:Value)(s1:yab)(Q E:Value->yab->Prop),its[i]? = some x->its[j]? = some y->(∀b o,s.heap.get? b=some o->s1.heap.get? b=some o)->Q (.bool (bt i j)) s1->wpAny (model prog w) A.in1 (yc1 .Gt x y) Q E s1)
  (fin:∀y h' tk,its[yax bt (its.size-1)]? = some y->(∀b o,s.heap.get? b=some o->h'.get? b=some o)->Q y {s with heap:=h',toks:=tk}) :
  wpAny (model prog w) A (call (.builtin "max") [.ref l] [(("default":Str),dv)]) Q E s:=by
 have nm:(ybi "max"++ybi ".loop":String)="max.loop":=by decide
 refine jh PySem.F.kind_max ygA ygB (qfI _ _) ?_
 refine yaa (ybC (show ybG "max" ["key","default"] 0 ⟨[],[(("default":Str),dv)]⟩=pure [none,some dv]from rfl) (yaa (yac ?_)))
 refine yaa (ya4 hl ?_)
 have la:l<s.heap.objs.size:=by obtain⟨o,e,_⟩:=hl;exact yae e
 have W:=ydk (prog:=prog) (w:=w) (A:=A.in1) hh s.heap.objs.size l (yao la) its
 refine yaa (yay ?_)
 rw[nm]
 refine yac ⟨yaO ya6 _,?_⟩
 have up:∀b o,s.heap.get? b=some o->((s.heap.push {cls:=.type "list_iterator",data:=.fields #[.ref l,.int 0 0]}).push {cls:=.type "list",data:=.seq #[]}).get? b=some o:=λb o g=>Heap.get?_push_of_some _ (Heap.get?_push_of_some _ g)
 have sz:(s.heap.push {cls:=.type "list_iterator",data:=.fields #[.ref l,.int 0 0]}).objs.size=s.heap.objs.size+1:=by simp[Heap.push]
 refine qiA (Ok:=λh=>∀b o,s.heap.get? b=some o->h.get? b=some o) (bt:=bt) W (λz=>?_) ⟨λi j x y s1 Q E p1 p2 ok q=>hc i j x y s1 Q E p1 p2 ok q,λh h' ok k b o g=>k b o (λz=>?_) (λz=>?_) (ok b o g)⟩ hne ⟨?_,?_⟩ up (Heap.get?_push_size _ rfl) λy h2 t2 p k=>?_
 ·have z':(s.heap.push {cls:=.type "list_iterator",data:=.fields #[.ref l,.int 0 0]}).objs.size=s.heap.objs.size\/(s.heap.push {cls:=.type "list_iterator",data:=.fields #[.ref l,.int 0 0]}).objs.size=l:=by simpa using z
  rw[sz]at z'
  rcases z' with e|e
  ·exact absurd e (ycX _)
  ·exact absurd (e▸la) (Nat.not_lt.mpr (ybw _))
 ·have z':b=s.heap.objs.size:=by simpa using z
  exact yao (yae g) z'
 ·have g':=yae g
  have z':b=(s.heap.push {cls:=.type "list_iterator",data:=.fields #[.ref l,.int 0 0]}).objs.size:=z
  rw[sz]at z'
  exact absurd (z'▸g') (Nat.not_lt.mpr (ybw _))
 ·exact⟨_,Heap.get?_push_of_some _ (Heap.get?_push_size _ rfl),rfl,rfl⟩
 ·exact hl.at λo e=>up l o e
 ·refine fin y h2 t2 p λb o g=>k b o (λz=>?_) (λz=>?_) (up b o g)
  ·have z':b=s.heap.objs.size:=by simpa using z
   exact yao (yae g) z'
  ·have g':=yae g
   have z':b=(s.heap.push {cls:=.type "list_iterator",data:=.fields #[.ref l,.int 0 0]}).objs.size:=z
   rw[sz]at z'
   exact absurd (z'▸g') (Nat.not_lt.mpr (ybw _))
end
section
variable{prog:yar}{w:World}{A:yau}{E:Value->yab->Prop}{s:yab}
theorem qfL {nm:String} {b:yaX} {l:Addr} {its:Array Value} {dv:Value} {Q:Value->yab->Prop} (hh:A.handled=none) (hl:s.heap.IsList l its) (he:its.size=0)
  (hk:nm="min"\/nm="max") (fin:∀h' tk,(∀b o,s.heap.get? b=some o->h'.get? b=some o)->Q dv {s with heap:=h',toks:=tk}) :
  wpAny (model prog w) A (call (.builtin nm) [.ref l] [(("default":Str),dv)]) Q E s:=by
 have la:l<s.heap.objs.size:=by obtain⟨o,e,_⟩:=hl;exact yae e
 have W:=ydk (prog:=prog) (w:=w) (A:=A.in1) hh s.heap.objs.size l (yao la) its
 have up:∀b o,s.heap.get? b=some o->((s.heap.push {cls:=.type "list_iterator",data:=.fields #[.ref l,.int 0 0]}).push {cls:=.type "list",data:=.seq #[]}).get? b=some o:=λb o g=>Heap.get?_push_of_some _ (Heap.get?_push_of_some _ g)
 have st:Heap.IsListIter ((s.heap.push {cls:=.type "list_iterator",data:=.fields #[.ref l,.int 0 0]}).push {cls:=.type "list",data:=.seq #[]}) s.heap.objs.size l 0:=⟨_,Heap.get?_push_of_some _ (Heap.get?_push_size _ rfl),rfl,rfl⟩
 have hl2:=hl.at λo e=>up l o e
 rcases hk with rfl|rfl
 ·have nm:(ybi "min"++ybi ".loop":String)="min.loop":=by decide
  refine jh yeX yeE yeF (qfH _ _) ?_
  refine yaa (ybC (show ybG "min" ["key","default"] 0 ⟨[],[(("default":Str),dv)]⟩=pure [none,some dv]from rfl) (yaa (yac ?_)))
  refine yaa (ya4 hl (yaa (yay ?_)))
  rw[nm]
  refine yac ⟨yaO yaz _,yaI ybv ?_⟩
  rw[yaB yaz _]
  refine yaa (yaE (Heap.get?_push_size _ rfl) rfl ?_)
  refine yaa (ya7 (W.done _ _ _ ⟨by rw[he];exact st,hl2⟩ λh1 t1 k1=>?_))
  exact yaa (yca (yac (fin h1 t1 λb o g=>k1 b o (λz=>by
   have z':b=s.heap.objs.size:=by simpa using z
   exact yao (yae g) z') (up b o g))))
 ·have nm:(ybi "max"++ybi ".loop":String)="max.loop":=by decide
  refine jh PySem.F.kind_max ygA ygB (qfI _ _) ?_
  refine yaa (ybC (show ybG "max" ["key","default"] 0 ⟨[],[(("default":Str),dv)]⟩=pure [none,some dv]from rfl) (yaa (yac ?_)))
  refine yaa (ya4 hl (yaa (yay ?_)))
  rw[nm]
  refine yac ⟨yaO ya6 _,yaI ycI ?_⟩
  rw[yaB ya6 _]
  refine yaa (yaE (Heap.get?_push_size _ rfl) rfl ?_)
  refine yaa (ya7 (W.done _ _ _ ⟨by rw[he];exact st,hl2⟩ λh1 t1 k1=>?_))
  exact yaa (yca (yac (fin h1 t1 λb o g=>k1 b o (λz=>by
   have z':b=s.heap.objs.size:=by simpa using z
   exact yao (yae g) z') (up b o g))))
end
section
variable{X:Cx}
def qrg:List V->List V->Hp->VK->Prop:=λxs zs H Q=>∃(p:Addr)(ns:List Int)(z:V),xs=[.ref p]/\zs=[z]/\H p=some (.lst (ns.map V.int))/\Q (if ns=[]then z else .int (qbt ns)) H
def qrh:List V->List V->Hp->VK->Prop:=λxs zs H Q=>∃(p:Addr)(ns:List Int)(z:V),xs=[.ref p]/\zs=[z]/\H p=some (.lst (ns.map V.int))/\Q (if ns=[]then z else .int (qek ns)) H
theorem qcY (hc:X.calm=true):qhw X (.builtin "max") ["default"] qrg:=by
 intro pins s σ H xs us zs0 ws Q I r rz h
 obtain⟨p,ns,z,rfl,rfl,hp,q⟩:=h
 obtain⟨u,rfl,ru⟩:=zT.one r
 obtain⟨w,rfl,rw0⟩:=zT.one rz
 cases ru
 obtain⟨its,rv,pl,hz⟩:=I.list (SqL.of hp)
 have hl:=pl.isList
 have hi:ybJ its ns:=yV rv
 obtain⟨zs,hx⟩:=hi.allInts.items
 have hl':s.heap.IsList p (ybV zs):=hx▸hl
 have e1:ns=zs.toList.map (·.1):=by
  rw[<-ydC,<-hx]
  exact(show numsOf its.toArray.toList=ns from hi.numsOf).symm
 by_cases hne:ns=[]
 ·rw [if_pos hne]at q
  have hsz:(ybV zs).size=0:=by
   have:zs.size=zs.toList.length:=by simp
   rw[hne]at e1
   have e2:zs.toList=[]:=List.map_eq_nil_iff.mp e1.symm
   simp[ybV,this,e2]
  exact qfL (b:=λ_=>pure default) (I.ok.hd hc) hl' hsz (.inr rfl) λh' tk kp=>⟨z,H,I.kept kp,rw0,q⟩
 ·rw [if_neg hne]at q
  have hsz:0<zs.size:=by
   cases hzz:zs.toList with
   |nil=>rw[hzz]at e1;exact absurd e1 hne
   |cons a b=>
    have:zs.size=zs.toList.length:=by simp
    rw[this,hzz];simp
  refine qj7 (bt:=λi j=>decide (numAt zs i>numAt zs j)) (I.ok.hd hc) hl' (by simpa [ybV] using hsz) (λi j x y s1 Q E h1 h2 _ q=>CmpOf.ints_gt (numAt zs) (λ_ _=>ydv) i j x y s1 Q E h1 h2 q) λv h' tk hv hk=>?_
  have hv':(ybV zs)[yax (λi j=>decide (numAt zs i>numAt zs j)) (zs.size-1)]? = some v:=by simpa [ybV] using hv
  obtain⟨t,rfl⟩:=ydv hv'
  obtain⟨b1,b2⟩:=argBest_gt (numAt zs) (zs.size-1)
  have e2:qbt ns=numAt zs (yax (λi j=>decide (numAt zs i>numAt zs j)) (zs.size-1)):=by
   refine qcU ?_ λn hn=>?_
   ·rw[e1]
    exact ybt (uw (by omega))
   ·rw [e1]at hn
    obtain⟨j,hj⟩:=List.mem_iff_getElem?.mp hn
    have hj2:j<zs.size:=by
     have:=(gI_.mp hj).1
     simpa using this
    rw[uw hj2]at hj
    cases hj
    exact b2 j (by omega)
  rw[<-e2]
  exact⟨.int _,H,I.kept hk,⟨_,rfl⟩,q⟩
theorem qj8 (hc:X.calm=true):qhw X (.builtin "min") ["default"] qrh:=by
 intro pins s σ H xs us zs0 ws Q I r rz h
 obtain⟨p,ns,z,rfl,rfl,hp,q⟩:=h
 obtain⟨u,rfl,ru⟩:=zT.one r
 obtain⟨w,rfl,rw0⟩:=zT.one rz
 cases ru
 obtain⟨its,rv,pl,hz⟩:=I.list (SqL.of hp)
 have hl:=pl.isList
 have hi:ybJ its ns:=yV rv
 obtain⟨zs,hx⟩:=hi.allInts.items
 have hl':s.heap.IsList p (ybV zs):=hx▸hl
 have e1:ns=zs.toList.map (·.1):=by
  rw[<-ydC,<-hx]
  exact(show numsOf its.toArray.toList=ns from hi.numsOf).symm
 by_cases hne:ns=[]
 ·rw [if_pos hne]at q
  have hsz:(ybV zs).size=0:=by
   have:zs.size=zs.toList.length:=by simp
   rw[hne]at e1
   have e2:zs.toList=[]:=List.map_eq_nil_iff.mp e1.symm
   simp[ybV,this,e2]
  exact qfL (b:=λ_=>pure default) (I.ok.hd hc) hl' hsz (.inl rfl) λh' tk kp=>⟨z,H,I.kept kp,rw0,q⟩
 ·rw [if_neg hne]at q
  have hsz:0<zs.size:=by
   cases hzz:zs.toList with
   |nil=>rw[hzz]at e1;exact absurd e1 hne
   |cons a b=>
    have:zs.size=zs.toList.length:=by simp
    rw[this,hzz];simp
  refine qj5 (bt:=λi j=>decide (numAt zs i<numAt zs j)) (I.ok.hd hc) hl' (by simpa [ybV] using hsz) (λi j x y s1 Q E h1 h2 _ q=>CmpOf.ints_lt (numAt zs) (λ_ _=>ydv) i j x y s1 Q E h1 h2 q) λv h' tk hv hk=>?_
  have hv':(ybV zs)[yax (λi j=>decide (numAt zs i<numAt zs j)) (zs.size-1)]? = some v:=by simpa [ybV] using hv
  obtain⟨t,rfl⟩:=ydv hv'
  obtain⟨b1,b2⟩:=argBest_lt (numAt zs) (zs.size-1)
  have e2:qek ns=numAt zs (yax (λi j=>decide (numAt zs i<numAt zs j)) (zs.size-1)):=by
   refine qgL ?_ λn hn=>?_
   ·rw[e1]
    exact ybt (uw (by omega))
   ·rw [e1]at hn
    obtain⟨j,hj⟩:=List.mem_iff_getElem?.mp hn
    have hj2:j<zs.size:=by
     have:=(gI_.mp hj).1
     simpa using this
    rw[uw hj2]at hj
    cases hj
    exact b2 j (by omega)
  rw[<-e2]
  exact⟨.int _,H,I.kept hk,⟨_,rfl⟩,q⟩
end
def DK(X:Cx)(c:Fc)(kws:List ycq)(f:M (List D)):Prop:=∃t,PK X kws t/\∀ρ σ H Q,Rep X.K c ρ σ H->WpL X.K c σ H Q (f ρ)->t σ H Q
section
variable{X:Cx}{c:Fc}{a b e:Expr}{pos:Pos}
theorem qhx:DK X c [] (ret []):=⟨_,qqz,λ_ _ H Q r h=>h _ H r rfl .refl⟩
theorem qen {kws:List ycq} {nm:Option Str} {kpos:Pos} {f:M D} {g:M (List D)} (ha:DE X c e f) (hr:DK X c kws g):DK X c (⟨nm,e,kpos⟩::kws) (qa f g):=by
 obtain⟨ta,pa,wa⟩:=ha
 obtain⟨tr,pr,wr⟩:=hr
 refine⟨_,qom pa pr,λρ σ H Q r h=>wa ρ σ H _ r (Wp.bndL h λd ρ1 v H1 r1 i1 g1 h1=>wr ρ1 σ H1 _ r1 (WpL.bndL h1 λds ρ2 vs H2 r2 i2 g2 h2=>?_))⟩
 exact h2 _ H2 r2 ⟨v,vs,rfl,g2.is i1,i2⟩ .refl
def ux(F:List D->List D->OD)(f g:M (List D)):M D:=bnd f λxs=>bnd g λzs=>lift (F xs zs)
def qj9(K:Fr0)(F:List D->List D->OD)(r:List V->List V->Hp->VK->Prop):Prop:=∀A H xs zs d vs ws (Q:VK),(∀a,H a=none->A a)->IsL K A H xs vs->IsL K A H zs ws->F xs zs=some d->(∀u H',yA H H'->Is K A H' d u->Q u H')->r vs ws H Q
theorem qbu {x:Str} {p:Pos} {es:List Expr} {kws:List ycq} {id:String} {ks:List Str} {r:List V->List V->Hp->VK->Prop} {F:List D->List D->OD} {f g:M (List D)} (hc:qhw X (.builtin id) ks r) (hF:qj9 X.K F r) (hg:Gl X x) (hm:X.mg x=none) (hv:yaF x=some (.builtin id)) (ha:DA X c (e::es) f) (hkw:DK X c kws g)
  (hall:(ycs pos (ybM kws X.env)).all (·.1.isSome)=true:=by rfl) (hks:(ycs pos (ybM kws X.env)).filterMap (·.1)=ks:=by rfl) (hn:x≠"__name__":=by decide) (hdb:(x==("__debug__":Str))=false:=by decide)
  (he:yam (e::es) X.env=(false,eval e X.env)::yam es X.env:=by rfl) (hpl:((ybb pos (yam (e::es) X.env)).any (·.1)||(ycs pos (ybM kws X.env)).any (·.1.isNone))=false:=by rfl) :
  DE X c (.Call (.Name x p) (e::es) kws pos) (ux F f g):=by
 obtain⟨t,pa,wa⟩:=ha
 obtain⟨tk,pk,wk⟩:=hkw
 refine⟨_,qj3 hc hg hm hv pa pk hall hks hn hdb he hpl,λρ σ H Q r0 h=>wa ρ σ H _ r0 (WpL.bnd h λxs ρ1 vs H1 r1 i1 g1 h1=>wk ρ1 σ H1 _ r1 (WpL.bnd h1 λzs ρ2 ws H2 r2 i2 g2 h2=>?_))⟩
 obtain⟨d,ed,h3⟩:=h2.lift
 exact hF (Cn c σ) H2 xs zs d vs ws Q (λa ha=>r2.new ha) (g2.isL i1) i2 ed λu H' sm i=>h3 u H' (r2.same sm) i (.of_same sm)
end
def qam (xs zs:List D):OD:=match xs,zs with
 | [.lst ds],[z]=>(vt ds).map λns=>if ns=[]then z else .int (qbt ns)
 |_,_=>none
def qgP (xs zs:List D):OD:=match xs,zs with
 | [.lst ds],[z]=>(vt ds).map λns=>if ns=[]then z else .int (qek ns)
 |_,_=>none
theorem qbO {K:Fr0}:qj9 K qam qrg:=by
 intro A H xs zs d vs ws Q hn ix iz e k
 unfold qam at e
 split at e
 ·rename_i ds z
  obtain⟨v,rfl,a,ys,rfl,_,ta,il⟩:=IsL.inv1 ix
  obtain⟨w,rfl,iw⟩:=IsL.inv1 iz
  cases eb:vt ds with
  |none=>rw[eb]at e;cases e
  |some ns=>
   rw[eb]at e
   have e':(if ns=[]then z else D.int (qbt ns))=d:=yaw e
   rw[yg il eb]at ta
   refine⟨a,ns,w,rfl,rfl,ta,k _ H (yA.refl H) ?_⟩
   rw[<-e']
   by_cases hne:ns=[]
   ·rw[if_pos hne,if_pos hne];exact iw
   ·rw[if_neg hne,if_neg hne];rfl
 ·cases e
theorem qiB {K:Fr0}:qj9 K qgP qrh:=by
 intro A H xs zs d vs ws Q hn ix iz e k
 unfold qgP at e
 split at e
 ·rename_i ds z
  obtain⟨v,rfl,a,ys,rfl,_,ta,il⟩:=IsL.inv1 ix
  obtain⟨w,rfl,iw⟩:=IsL.inv1 iz
  cases eb:vt ds with
  |none=>rw[eb]at e;cases e
  |some ns=>
   rw[eb]at e
   have e':(if ns=[]then z else D.int (qek ns))=d:=yaw e
   rw[yg il eb]at ta
   refine⟨a,ns,w,rfl,rfl,ta,k _ H (yA.refl H) ?_⟩
   rw[<-e']
   by_cases hne:ns=[]
   ·rw[if_pos hne,if_pos hne];exact iw
   ·rw[if_neg hne,if_neg hne];rfl
 ·cases e
def slB (x:D) (lo hi:Option Int):OD:=match x with
 |.tup ds=>some (.tup (qlK ds lo hi))
 |.lst ds=>some (.lst (qlK ds lo hi))
 |_=>none
def qsb(f:M D)(g k:M (Option Int)):M D:=bnd f λd=>bnd g λl=>bnd k λu=>lift (slB d l u)
section
variable{X:Cx}{c:Fc}{a b e:Expr}{pos p2:Pos}
theorem qka {lo hi:Option Expr} {f:M D} {g k:M (Option Int)} (ha:DE X c a f) (hl:DO X c lo g) (hu:DO X c hi k):DE X c (.Subscript a (.Slice lo hi none p2) pos) (qsb f g k):=by
 obtain⟨ta,pa,wa⟩:=ha
 obtain⟨tl,pl,wl⟩:=hl
 obtain⟨tu,pu,wu⟩:=hu
 refine⟨_,qlv (SlR.or qqR qor) pa pl pu,λρ σ H Q r h=>wa ρ σ H _ r (Wp.bnd h λd ρ1 v H1 r1 i1 g1 h1=>?_)⟩
 refine wl ρ1 σ H1 _ r1 (λl ρ2 e2 H2 r2 g2=>?_) (λx ρ2 e2 H2 r2 g2=>?_) (λe2=>?_)
 ·rw [qdJ e2]at h1
  have h1:=h1.gr g2
  refine wu ρ2 σ H2 _ r2 (λu ρ3 e3 H3 r3 g3=>?_) (λx ρ3 e3 H3 r3 g3=>?_) (λe3=>?_)
  ·rw [qdJ e3]at h1
   obtain⟨d',e4,h4⟩:=h1.lift
   have i3:=g3.is (g2.is i1)
   clear h1
   cases d<;>simp only[slB]at e4<;>try (cases e4;done)
   ·rename_i ds
    cases e4
    obtain⟨a,xs,rfl,ta,il⟩:=i3
    refine .inl ?_
    by_cases hw:HT.sIx xs.length 0 l=0/\HT.sIx xs.length xs.length u=xs.length
    ·refine .inl ⟨a,xs,rfl,ta.sq,hw,h4 _ H3 r3 ⟨a,xs,rfl,ta,?_⟩ g3⟩
     have e5:qlK ds l u=ds:=by
      unfold qlK
      rw[<-il.length,hw.1,hw.2]
      simp[il.length]
     rw[e5];exact il
    ·refine .inr ⟨a,xs,rfl,ta.sq,hw,λp hp=>h4 _ _ (r3.laid hp _) ⟨p,qld xs l u,rfl,.inl qz,?_⟩ (g3.trans (.of_same (qC hp _)))⟩
     refine IsL.ext (Ext.of_same (qC hp _)) (λ_ h _=>h) ?_
     unfold qlK qld
     rw[<-il.length]
     exact IsL.take _ (IsL.drop _ il)
   ·rename_i ds
    cases e4
    obtain⟨a,xs,rfl,hA,ta,il⟩:=i3
    refine .inr ⟨a,xs,rfl,.inl (.inl ta),λp hp=>h4 _ _ (r3.laid hp _) ⟨p,qld xs l u,rfl,r3.new hp,qz,?_⟩ (g3.trans (.of_same (qC hp _)))⟩
    refine IsL.ext (Ext.of_same (qC hp _)) (λ_ h _=>h) ?_
    unfold qlK qld
    rw[<-il.length]
    exact IsL.take _ (IsL.drop _ il)
  ·unfold bnd at h1;rw[e3]at h1;exact h1 H3 r3 g3
  ·unfold bnd at h1;rw[e3]at h1;exact h1
 ·unfold bnd at h1;rw[e2]at h1;exact h1 H2 r2 g2
 ·unfold bnd at h1;rw[e2]at h1;exact h1
def qsR (x y:D):Option (List D):=match x,y with
 |.lst ds,.int k=>if(decide (-(2 ^ 62)<=k)&&decide (k<2 ^ 62))&&(qY (ds.length*k.toNat)&&immL ds)then some (yap k.toNat ds).flatten else none
 |_,_=>none
def qtq(f g:M D):M (List D):=bnd f λx=>bnd g λy=>lift (qsR x y)
end
section
variable{ρ:Env}{f g:M D}{l k:M (List D)}
theorem qhy (F:List D->List D->OD):ux F l k ρ=match l ρ with|.ok (xs,ρ1)=>(match k ρ1 with|.ok (zs,ρ2)=>(match F xs zs with|some d => .ok (d,ρ2)|none => .bad)|.exc x ρ' => .exc x ρ'|.bad => .bad)|.exc x ρ' => .exc x ρ'|.bad => .bad:=by
 simp only[ux,bnd]
 cases l ρ with
 |ok z=>
  obtain⟨z1,ρ1⟩:=z
  dsimp only
  cases k ρ1 with
  |ok z=>obtain⟨z2,ρ2⟩:=z;(dsimp only;cases F z1 z2<;>rfl)
  |exc x ρ'=>rfl
  |bad=>rfl
 |exc x ρ'=>rfl
 |bad=>rfl
theorem qtr:qtq f g ρ=match f ρ with|.ok (x,ρ1)=>(match g ρ1 with|.ok (y,ρ2)=>(match qsR x y with|some ds => .ok (ds,ρ2)|none => .bad)|.exc x ρ' => .exc x ρ'|.bad => .bad)|.exc x ρ' => .exc x ρ'|.bad => .bad:=by
 simp only[qtq,bnd]
 cases f ρ with
 |ok z=>
  obtain⟨z1,ρ1⟩:=z
  dsimp only
  cases g ρ1 with
  |ok z=>obtain⟨z2,ρ2⟩:=z;(dsimp only;cases qsR z1 z2<;>rfl)
  |exc x ρ'=>rfl
  |bad=>rfl
 |exc x ρ'=>rfl
 |bad=>rfl
theorem qri (p q:M (Option Int)):qsb f p q ρ=match f ρ with|.ok (d,ρ1)=>(match p ρ1 with|.ok (l,ρ2)=>(match q ρ2 with|.ok (u,ρ3)=>(match slB d l u with|some r => .ok (r,ρ3)|none => .bad)|.exc x ρ' => .exc x ρ'|.bad => .bad)|.exc x ρ' => .exc x ρ'|.bad => .bad)|.exc x ρ' => .exc x ρ'|.bad => .bad:=by
 simp only[qsb,bnd]
 cases f ρ with
 | ok z=>
  obtain⟨z1,ρ1⟩:=z
  dsimp only
  cases p ρ1 with
  |ok z=>
   obtain⟨z2,ρ2⟩:=z
   dsimp only
   cases q ρ2 with
   |ok z=>obtain⟨z3,ρ3⟩:=z;(dsimp only;cases slB z1 z2 z3<;>rfl)
   |exc x ρ'=>rfl
   |bad=>rfl
  |exc x ρ'=>rfl
  |bad=>rfl
 |exc x ρ'=>rfl
 |bad=>rfl
end
section
variable{X:Cx}{c:Fc}{e:Expr}{es:List Expr}{pos:Pos}
theorem dC {k j:Nat} {ps:List Str} {F:List D->R D} {x:Str} {p:Pos} {g:M (List D)} (C:qA X.prog X.w X.K X.mg X.base k x ps (spD X.K F)) (hr:qac j X.A) (ha:DA X c (e::es) g)
  (hk:k<=j:=by decide) (hg:Gl X x:=by rfl) (hd:(x==("__debug__":Str))=false:=by decide) (he:yam (e::es) X.env=(false,eval e X.env)::yam es X.env:=by rfl) (hpl:(ybb pos (yam es X.env)).any (·.1)=false:=by rfl):DE X c (.Call (.Name x p) (e::es) [] pos) (qg F g):=by
 obtain⟨f,fd,G,m,kk,b⟩:=C.ex
 exact qoJ G (hr.mono hk) hg m kk b ha hd he hpl
theorem nC {k j:Nat} {ps:List Str} {F:List D->R D} {x:Str} {p:Pos} {g:M (List D)} (C:qA X.prog X.w X.K X.mg X.base k x ps (spD X.K F)) (hr:qac j X.A) (ha:DA X c (e::es) g)
  (hk:k<=j:=by decide) (hg:Gl X x:=by rfl) (hd:(x==("__debug__":Str))=false:=by decide) (he:yam (e::es) X.env=(false,eval e X.env)::yam es X.env:=by rfl) (hpl:(ybb pos (yam es X.env)).any (·.1)=false:=by rfl):DN X c (.Call (.Name x p) (e::es) [] pos) (qfw F g):=by
 obtain⟨f,fd,G,m,kk,b⟩:=C.ex
 exact qoT G (hr.mono hk) hg m kk b ha hd he hpl
theorem iC {k j i:Nat} {ps:List Str} {F:List D->List D->R (D×List D)} {x y:Str} {p p1:Pos} {g:M (List D)} (C:qA X.prog X.w X.K X.mg X.base k x ps (qlf X.K F)) (hr:qac j X.A) (ha:DA X c es g)
  (hk:k<=j:=by decide) (hg:Gl X x:=by rfl) (ho:i∈c.O:=by exact of_decide_eq_true rfl) (hN:X.N[i]? = some y:=by rfl) (hv:Vis X.env.scope y:=by first|exact yby rfl|exact ya3 (yby rfl)|exact ya3 (ya3 rfl)) (hdy:(y==("__debug__":Str))=false:=by decide) (hcd:(y==("__classdict__":Str))=false:=by decide)
  (hd:(x==("__debug__":Str))=false:=by decide) (he:yam (.Name y p1::es) X.env=(false,eval (.Name y p1) X.env)::yam es X.env:=by rfl) (hpl:(ybb pos (yam es X.env)).any (·.1)=false:=by rfl):DE X c (.Call (.Name x p) (.Name y p1::es) [] pos) (qD F i g):=by
 obtain⟨f,fd,G,m,kk,b⟩:=C.ex
 exact qjB G (hr.mono hk) hg m kk b ha ho hN hv hdy hcd hd he hpl
theorem gI {x:Str} {i:Int} (h:∃t,X.mg x=some (.int i t)) (hg:Gl X x:=by rfl) (hd:(x==("__debug__":Str))=false:=by decide):DE X c (.Name x pos) (ret (.int i)):=by
 obtain⟨t,h⟩:=h
 exact qow (v:=.int i) (d:=.int i) hg h ⟨_,rfl⟩ (λ_ _=>rfl) hd
end
theorem nd(N:List Str)(h:N.Nodup:=by decide +kernel):N.Nodup:=h
theorem cs {X:Cx} (N N':List Str) (nt:Nat) (fr:List Nat) (outer:Scope) {scope:Scope} (h0:scope.kind=.function:=by rfl) (h1:∀y∈scope.names,y.2 ≠ .cell:=by decide +kernel) (h2:∀y∈scope.names,y.2=.local->scope.names.lookup y.1=some .local:=by decide +kernel)
  (h3:∀y∈scope.names,y.2=.free->outer.names.lookup y.1=some .cell:=by decide +kernel) (h4:N'.length=nt+fr.length:=by rfl) (h5:∀p∈fr.zipIdx,N'[nt+p.2]? = N[p.1]? /\ ((N[p.1]?).bind λx=>scope.names.lookup x)=some .free:=by decide +kernel)
  (h6:X.env.scope=outer:=by rfl) (h7:X.N=N:=by rfl):jZ X scope N' nt fr:=qoU.ok (outer:=outer) (N:=N) ⟨h0,h1,h2,h3,h4,h5⟩ h6 h7
theorem f0{c:Fc}{nt:Nat}(fr O:List Nat)(e:c.O=O:=by rfl)(h:∀j∈fr,j ∉ O:=by decide):qlN c nt fr none:=λj hj=>by rw[e];exact h j hj
theorem f1 {c:Fc} (nt:Nat) (fr O:List Nat) (i j:Nat) (e:c.O=O:=by rfl) (h1:j∈O:=by decide) (h2:nt<=i:=by decide) (h3:fr[i-nt]? = some j:=by rfl) (h4:∀p∈fr.zipIdx,nt+p.2≠i->p.1 ∉ O:=by decide):qlN c nt fr (some (i,j)) :=
 qoW (by rw[e];exact h1) h2 h3 (by rw[e];exact h4)
def qiC(i:Int):Bool:=decide (i.natAbs<2 ^ 2000)
def qmf(i j:Int):Prop:=i.natAbs<2 ^ 2000/\j.natAbs<2 ^ 2000
theorem qkb {i:Int} (h:i.natAbs<2 ^ 2000):yfY i<=2000:=by
 unfold yfY
 split
 ·omega
 ·rename_i h0
  have hz:i.natAbs≠0:=by
   intro z
   exact h0 (by simpa using z)
  have:=(Nat.log2_lt hz).mpr h
  omega
theorem qpb{X:Cx}:OpR X (ybx .Mult) (rI qmf λi j => .int (i*j)):=opI λ_ _ _ _ _ _ _ hc q=>mul_int q (IntMulOk.of_le (qkb hc.1) (qkb hc.2) (by omega))
theorem qeo{X:Cx}:OpR X (ybx .Mult) (λx y H Q=>qlT X.K x y H Q\/rI qmf (λi j => .int (i*j)) x y H Q):=OpR.or jz qpb
def qiD (x y:D):OD:=match uF x y with
 |some d=>some d
 |none=>qjs (λi j=>qiC i&&qiC j) (λi j => .int (i*j)) x y
theorem qmg {K:Fr0}:OpS K (qjs (λi j=>qiC i&&qiC j) λi j => .int (i*j)) (rI qmf λi j => .int (i*j)):=qhj (λ_ _ h=>by
 rw[yan]at h
 exact⟨of_decide_eq_true h.1,of_decide_eq_true h.2⟩) λ_ _ _ _=>rfl
theorem qcu {K:Fr0}:OpS K qiD (λx y H Q=>qlT K x y H Q\/rI qmf (λi j => .int (i*j)) x y H Q):=by
 intro A H x y d v u Q hn ix iy e k
 unfold qiD at e
 cases e1:uF x y with
 |some d1=>
  rw[e1]at e
  cases e
  exact .inl (zQ A H x y _ v u Q hn ix iy e1 k)
 |none=>
  rw[e1]at e
  exact .inr (qmg A H x y d v u Q hn ix iy e k)
theorem qkc {i j:Int} (h1:i.natAbs<2 ^ 2000) (h2:j.natAbs<2 ^ 2000):qiD (.int i) (.int j)=some (.int (i*j)):=by
 unfold qiD
 cases e:uF (.int i) (.int j) with
 | some d=>
  have e':(if qgv i j=true then some (D.int (i*j))else none)=some d:=e
  by_cases hc:qgv i j=true
  ·rw[if_pos hc]at e'
   exact e'.symm
  ·rw[if_neg hc]at e'
   cases e'
 |none=>
  have b1:qiC i=true:=decide_eq_true h1
  have b2:qiC j=true:=decide_eq_true h2
  simp only[qjs,b1,b2,yaG,if_true]
def qmh:V->List V->Hp->VK->Prop:=λx vs H Q=>∃l xs y,x=.ref l/\vs=[.int 0,y]/\H l=some (.lst xs)/\xs.length<yav/\Q .non (upd H l (.lst (y::xs)))
theorem qiE {X:Cx}:MtM X "list.insert" qmh:=by
 intro pins s σ H x vs v us Q I rx rv h
 obtain⟨l,xs,y,rfl,rfl,hH,hz,q⟩:=h
 cases rx
 obtain⟨u0,u,rfl,r0,ru⟩:=rv.two
 obtain⟨tk,rfl⟩:=r0
 obtain⟨z,its,n,r,hl,e⟩:=I.lstM hH
 refine ycV yeZ ⟨_,e,rfl⟩ PySem.F.entry_list_insert (PySem.F.args_list_insert_3 _ _ _) (PySem.AutoSeq1.list_insert_list_int_val_1 l its.toArray n 0 _ u (by decide) (by rw[sT_];omega)) ⟨e,?_⟩
 refine⟨.non,_,I.lset (its':=u::its) (ys:=y::xs) hH e ?_ (.cons ru r) ?_,rfl,q⟩
 ·simp
 ·rw[lC_]
  omega
section
variable{X:Cx}{c:Fc}{a b e:Expr}{pos:Pos}
def vN (i:Nat) (f:M D):M D:=λρ=>match yz i ρ with
 |none => .bad
 |some _=>(bnd f λd ρ=>match yz i ρ with
  |some ds=>if qY (ds.length+1)then .ok (.non,ρ.set i (some (.lst (d::ds))))else .bad
  |none => .bad) ρ
theorem qfM {i:Nat} {x:Str} {p1 apos cp:Pos} {cj:Nat} {f:M D} (he:DE X c e f) (ho:i∈c.O:=by exact of_decide_eq_true rfl) (hN:X.N[i]? = some x:=by rfl) (hv:Vis X.env.scope x:=by first|exact yby rfl|exact ya3 (yby rfl)|exact ya3 (ya3 rfl)) (hd:(x==("__debug__":Str))=false:=by decide) (hcd:(x==("__classdict__":Str))=false:=by decide)
  (hbase:yet (.Name x p1) "insert" X.env (eval (.Name x p1) X.env)=eval (.Name x p1) X.env:=by rfl)
  (hfew:((ybb pos (yam [.Constant (.int 0) cj cp,e] X.env)).all (λx => !x.1)&&(ycs pos (ybM [] X.env)).all (λx=>x.1.isSome)
   && decide ([Expr.Constant (.int 0) cj cp,e].length+([]:List ycq).length+(if([]:List ycq).isEmpty then 0 else 1)<30))=true:=by rfl)
  (hline:(apos.endLine==pos.line)=true:=by rfl) (hs:yam [.Constant (.int 0) cj cp,e] X.env=(false,eval (.Constant (.int 0) cj cp) X.env)::yam [e] X.env:=by rfl) (hs2:yam [e] X.env=(false,eval e X.env)::yam [] X.env:=by rfl) (hplain:(ybb pos (yam [e] X.env)).any (·.1)=false:=by rfl) :
  DE X c (.Call (.Attribute (.Name x p1) "insert" apos) [.Constant (.int 0) cj cp,e] [] pos) (vN i f):=by
 obtain⟨t,p,w⟩:=he
 refine⟨_,qos ydn yeZ PySem.F.type_list_insert qiE (qb7 hN hv hd hcd) (wy qng (wy p qdH hs2) hs) hbase hfew hline hs hplain,λρ σ H Q r h=>?_⟩
 unfold vN at h
 cases e0:yz i ρ with
 |none=>rw[e0]at h;exact h.elim
 | some ds0=>
  simp only[e0]at h
  obtain⟨l,xs0,_,hl,hH,_⟩:=r.getLO ho e0
  refine⟨.ref l,hl,.inl ⟨rfl,xs0,.inl (.inl hH)⟩,w ρ σ H _ r (Wp.bnd h λd ρ1 v H1 r1 i1 g1 h1=>?_)⟩
  cases e1:yz i ρ1 with
  |none=>simp only[e1]at h1;exact h1.elim
  | some ds=>
   simp only[e1]at h1
   by_cases hb:qY (ds.length+1)=true
   ·rw [if_pos hb]at h1
    obtain⟨l',xs,him,hl',hH',il⟩:=r1.getLO ho e1
    rw[hl]at hl'
    cases hl'
    have hsz:ds.length+1<=yav:=of_decide_eq_true hb
    have ext:Ext (Cn c σ) H1 (upd H1 l (.lst (v::xs))):=⟨λb us hb=>js (qaU hb hH' (by intro z;cases z)) hb,λb o u hb=>js (qaU hb hH' (by intro z;cases z)) hb,λb o hb hq=>js (λe=>hb.2 i ho (by rw[hl,e])) hq⟩
    obtain ⟨r2,g2⟩:=r1.io (H':=upd H1 l (.lst (v::xs))) (bs:=d::ds) ho hl (λb o hb ho=>js hb ho) qz trivial
     ⟨v,xs,rfl,Is.ext ext (λ_ h _=>h) i1,IsL.ext ext (λ_ h _=>h) il⟩ (λb hb=>qgz hb)
    exact⟨l,xs,v,rfl,rfl,hH',by rw[il.length];omega,h1 _ _ r2 rfl g2⟩
   ·rw[if_neg hb]at h1;exact h1.elim
def qkd(f:M (List D)):M (List D):=bnd f λds=>lift (if qY ds.length then some ds else none)
theorem qke {es:List Expr} {f:M (List D)} (h:DA X c es f):DN X c (.List es pos) (qkd f):=by
 obtain⟨t,p,w⟩:=h
 refine⟨_,qjf p,λρ σ H Q r h=>w ρ σ H _ r (WpL.bndN h λds ρ1 vs H1 r1 i1 g1 h1=>?_)⟩
 by_cases hb:qY ds.length=true
 ·rw[if_pos hb]at h1
  refine⟨by rw[i1.length];exact of_decide_eq_true hb,λp hp=>?_⟩
  exact h1 p vs _ hp (r1.laid hp _) (r1.apart hp) qz trivial (IsL.ext (Ext.of_same (qC hp _)) (λb h hs=>⟨h,λe=>by rw[e,hp]at hs;cases hs⟩) i1) (.of_same (qC hp _))
 ·rw[if_neg hb]at h1;exact h1.elim
end
theorem qep:Slot "reversed" "__init__" "object.__init__" :=
 .of (owner:="object") (n:="__init__") (by rw[ycf,ybz];kernel_rfl) (by decide +kernel) (by decide +kernel) (by decide +kernel) (by first|exact yby (by kernel_rfl)|exact ya3 (by kernel_rfl)) (by rw[ycr];kernel_rfl)
theorem qiF:TypeCalled "reversed" "reversed.__new__" "object.__init__":=⟨by decide +kernel,F.create_reversed,⟨_,_,F.mro_reversed⟩,F.made_reversed,F.plain_reversed_new,yfZ,qep⟩
theorem yF:Slot "reversed" "__next__" "reversed.__next__" :=
 .of (owner:="reversed") (n:="__next__") (by rw[ycf,ybz];kernel_rfl) (by decide +kernel) (by decide +kernel) (by decide +kernel) (by first|exact yby (by kernel_rfl)|exact ya3 (by kernel_rfl)) (by rw[ycr];kernel_rfl)
theorem qa0:yeY table "reversed.__next__"=some yaX.«reversed.__next__»:=entryFor_of_tree (by kernel_rfl)
theorem qnN:ygS (.type "tuple") (ybd "__reversed__")=pure none:=by rw[ycf,ybz];kernel_rfl
theorem qeq:ygS (.type "tuple") (ybd "__getitem__")=pure (some (.builtin "tuple.__getitem__")):=by rw[ycf,ybz];kernel_rfl
theorem qhz:ygf (.type "tuple") (.type "dict")=pure false:=by rw[ycr];kernel_rfl
theorem qkf {l:Addr} {xs:Array Value} (hz:xs.size<=yav):Meets (yaX.«reversed.__new__» ⟨[.type "reversed",.ref l],[]⟩) (λ_ R s=>s.heap.IsTuple l xs /\
   R (.ok (.ret (.ref s.heap.objs.size))) {s with heap:=s.heap.push {cls:=.type "reversed",data:=.fields #[.ref l,ybm ((xs.size:Int)-1)]},toks:=s.toks+1+1}) :=
 .of_wp λprog w A R s h=>by
  obtain⟨hp,g,d,tk,os⟩:=s
  obtain⟨ha,h⟩:=h
  have hsub:=yfZ
  have f1:=qnN
  have f2:=qeq
  have f3:=qhz
  have hA:yeV (yei ⟨hp,g,d,tk,os⟩) l xs:=ha
  obtain⟨o,e1,hc,m,hd⟩:=ha
  unfold yaX.«reversed.__new__»
  refine yaa ?_
  wp_walk
  rw[hc]
  refine ybC (a:=none) qnN ?_
  dsimp only
  refine yaa ?_
  show wpAny (model prog w) A.in1 (isInstance (yat l) (ycB "dict") >>= _) _ _ _
  refine yaa (ycw (T:="tuple") (b:=false) ⟨o,e1,hc⟩ qhz ?_)
  show wpAny (model prog w) A.in1 (specialOf (yat l) (ybd "__getitem__") >>= _) _ _ _
  refine yaa ?_
  wp_walk
  rw[hc]
  refine ybC (a:=some (.builtin "tuple.__getitem__")) qeq ?_
  dsimp only
  rw[if_pos (by decide +kernel)]
  refine yac ?_
  rw[if_neg (by decide)]
  have hfit:(xs.size:Int)<2 ^ 63:=by have:=qcC;omega
  refine yaa (len_tuple hA hfit ?_)
  wp_walk
  exact⟨_,rfl,h⟩
def qtV(l:Addr)(i:Int):Obj:={cls:=.type "reversed",data:=.fields #[.ref l,ybm i]}
def qdA(h:Heap)(z l:Addr)(i:Int):Prop:=h.get? z=some (qtV l i)
section
variable{prog:yar}{w:World}{A:yau}{E:Value->yab->Prop}{s:yab}
theorem qmi {l:Addr} {xs:Array Value} {Q:Value->yab->Prop} (t1:s.heap.IsTuple l xs) (hz:xs.size<=yav)
  (fin:∀h',qdA h' s.heap.objs.size l ((xs.size:Int)-1)->(∀c o,s.heap.get? c=some o->h'.get? c=some o)->Q (.ref s.heap.objs.size) {s with heap:=h',toks:=s.toks+1+1}) :
  wpAny (model prog w) A (call (.type "reversed") [.ref l]) Q E s:=by
 refine yeW qiF (by decide) (F.typeCall_reversed_1 _) (F.newCall_reversed_1 _) (λobj=>yd4 obj _) F.entry_reversed_new (qkf hz) ⟨t1,?_⟩
 exact⟨⟨_,Heap.get?_push_size _ rfl,rfl⟩,fin _ (Heap.get?_push_size _ rfl) λc o x=>Heap.get?_push_of_some _ x⟩
theorem qbv (a:Value):ycQ "reversed.__next__" ⟨[a],[]⟩:=by
 unfold ycQ;kernel_rfl
theorem qrj {z l:Addr} {xs:Array Value} {i:Nat} {x:Value} {Q:Value->yab->Prop} (zz:qdA s.heap z l (i:Int)) (t1:s.heap.IsTuple l xs) (hx:xs[i]? = some x) (hz:xs.size<=yav)
  (fin:∀h' tk,qdA h' z l ((i:Int)-1)->ybK z s.heap h'->Q x {s with heap:=h',toks:=tk}) :
  wpAny (model prog w) A (yaX.«reversed.__next__» ⟨[.ref z],[]⟩) (λr s'=>∃v,r=.done (.ret v)/\Q v s') E s:=by
 have hT:s.TypeIs (.ref l) "tuple":=by obtain⟨o,e,hc,_⟩:=t1;exact⟨o,e,hc⟩
 unfold yaX.«reversed.__next__»
 refine yaa (ybC (a:=(yat z,[])) rfl ?_)
 dsimp only
 refine yaa (yaV zz rfl (x:=yat l) rfl ?_)
 refine yaa (yaV zz rfl (x:=ybm (i:Int)) rfl ?_)
 show wpAny (model prog w) A (if((i:Nat):Int)<0 then _ else _) _ _ s
 rw[if_neg (by omega)]
 refine yaa (wpAny_specialOf hT qeq ?_)
 show wpAny (model prog w) A (if(false:Bool)=true then _ else _) _ _ s
 rw[if_neg (by decide)]
 refine yaa (wpAny_mkInt ?_)
 have hi:i<xs.size:=(Array.getElem?_eq_some_iff.mp hx).1
 have hl63:=qcC
 have hsq:ygc (i:Int) xs.size=some i:=by
  unfold ygc
  simp only[]
  first
   |(rw[if_neg (by omega)];simp;omega)
   |(simp;omega)
   |(split<;>simp_all<;>omega)
 refine yaa (yb4 (PyProof.Rows.getItem_tuple (j:=i) t1 (by omega) (by omega) hsq hx ?_))
 dsimp only
 refine yaa (yaV zz rfl (x:=ybm (i:Int)) rfl ?_)
 refine yaa (ybq zz (by simp) λh' zz' b'=>?_)
 exact yac ⟨x,rfl,fin h' _ zz' b'⟩
theorem qmj (hh:A.handled=none) {z l:Addr} {Q:Fin->yab->Prop} (zz:qdA s.heap z l (-1))
  (fin:∀h' e,Heap.ExtBut z s.heap h'->(∃o,h'.get? e=some o/\o.cls=.type "StopIteration")->E (.ref e) {s with heap:=h' }) :
  wpAny (model prog w) A (yaX.«reversed.__next__» ⟨[.ref z],[]⟩) Q E s:=by
 unfold yaX.«reversed.__next__»
 refine yaa (ybC (a:=(yat z,[])) rfl ?_)
 dsimp only
 refine yaa (yaV zz rfl (x:=yat l) rfl ?_)
 refine yaa (yaV zz rfl (x:=ybm (-1)) rfl ?_)
 show wpAny (model prog w) A (if(-1:Int)<0 then _ else _) _ _ s
 rw[if_pos (by decide)]
 refine yaa (yca (yaa ?_))
 show wpAny (model prog w) A (setField (yat z) 1 (ybm (-1)) >>= λ_=>setField (yat z) 0 yaM) _ _ _
 refine yaa (ybq zz (by simp) λh1 zz1 b1=>ybq zz1 (by simp) λh2 zz2 b2=>?_)
 refine yaa ?_
 show wpAny (model prog w) _ (ygg (ycB "StopIteration") [] >>= _) _ _ _
 refine yaa ?_
 simp only[ygg,newTuple]
 refine yaa (yay ?_ (by size_fits))
 refine yaa (m:=ycP _ _) (ybC (a:=yaM) (by first|rfl|(simp only[ycP];rfl)) ?_)
 refine yay ?_ (by size_fits)
 simp only[ygP]
 refine yaa (yfU ?_)
 rw[hh]
 exact yaa (yac (ygL (fin _ _ (λb o hb e=>Heap.get?_push_of_some _ (Heap.get?_push_of_some _ (b2.extBut b o hb (b1.extBut b o hb e)))) ⟨_,Heap.get?_push_size _ rfl,rfl⟩)))
end
theorem qbw:Slot "reversed" "__iter__" "reversed.__iter__" :=
 .of (owner:="reversed") (n:="__iter__") (by rw[ycf,ybz];kernel_rfl) (by decide +kernel) (by decide +kernel) (by decide +kernel) (by first|exact yby (by kernel_rfl)|exact ya3 (by kernel_rfl)) (by rw[ycr];kernel_rfl)
theorem qer (a:Value):ycQ "reversed.__iter__" ⟨[a],[]⟩:=by
 unfold ycQ;kernel_rfl
theorem qdB:yeY table "reversed.__iter__"=some yaX.«dict_keyiterator.__iter__»:=by
 refine yfF (id':="dict_keyiterator.__iter__") ?_ ?_ ?_ ?_
 ·kernel_rfl
 ·first|rfl|decide +kernel
 ·decide +kernel
 ·kernel_rfl
theorem qhA {prog:yar} {w:World} {A:yau} {E:Value->yab->Prop} {s:yab} {z l:Addr} {i:Int} {Q:Value->yab->Prop} (zz:qdA s.heap z l i) (h:Q (.ref z) s):wpAny (model prog w) A (yf4 (.ref z)) Q E s:=by
 have hT:s.TypeIs (.ref z) "reversed":=⟨_,zz,rfl⟩
 refine ydq hT qbw (yaH qbw hT qdB ?_ (qer _))
 show wpAny _ _ (PySem.ret (yat z)) _ _ s
 exact yac ⟨_,rfl,"reversed",_,hT,yF.lookup,h⟩
def Itv (K:Fr0) (a:Addr) (xs:List V):It :=
 ⟨λi H=>i<xs.length/\SqT K H a xs,λi H x H'=>H'=H/\xs.reverse[i]? = some x,λi H=>i=xs.length/\SqT K H a xs⟩
theorem qmk {P:yar} {w:World} {K:Fr0} {tg:Expr} {z a:Addr} {xs:List V} (hne:a≠z):qnk P w K tg (Itv K a xs) [z] z (λi h=>qdA h z a ((xs.length:Int)-1-(i:Nat))) where
 mem:=by simp
 obj:=λi h st b hb=>by
  have e:b=z:=by simpa using hb
  subst e
  exact⟨_,st,λv e=>by cases (show yeh _=ydL v from e)⟩
 keep:=λi h h' st k=>k z (by simp) _ st
 item:=by
  intro X hP hw hK hc i pins s σ H E I hf st hg
  subst hP hw hK
  obtain⟨hlt,hx⟩:=hg
  obtain⟨f0,f1,f2,f3,f4,f5⟩:=hf z (by simp)
  obtain⟨its,r1,p1,z1⟩:=I.tuple hx
  have hlen:=r1.length
  have ei:((xs.length:Int)-1-(i:Nat))=((xs.length-1-i:Nat):Int):=by omega
  have st':qdA s.heap z a ((xs.length-1-i:Nat):Int):=by rw[<-ei];exact st
  obtain⟨xv,hxv⟩:∃v,xs[xs.length-1-i]? = some v:=⟨xs[xs.length-1-i]'(by omega),gG (by omega)⟩
  obtain⟨x',ex,rx⟩:=r1.get hxv
  have hT:s.TypeIs (.ref z) "reversed":=⟨_,st,rfl⟩
  unfold yck
  refine yaa (yb4 (wpAny_callSpecial?_slot (name:=ybd "__next__") hT yF (yaH yF hT qa0
   (qrj st' p1 (x:=x') (by rw[List.getElem?_toArray];exact ex) (by rw[sT_,<-hlen];exact z1) λh' tk zz' sb=>yac ?_) (qbv _))))
  have I1:Inv X pins σ H {s with heap:=h',toks:=tk}:=I.turned (λb o hb e=>sb.extBut b o hb e) f0 f1 f3 f4 f5
  have st2:qdA h' z a ((xs.length:Int)-1-((i+1:Nat):Int)):=by
   have e2:((xs.length-1-i:Nat):Int)-1=(xs.length:Int)-1-((i+1:Nat):Int):=by omega
   rw[<-e2];exact zz'
  refine⟨x',rfl,qlq (s:={s with heap:=h',toks:=tk}) (n:="reversed") st2 rfl rfl (by decide) ⟨xv,H,I1,rx,⟨rfl,?_⟩,st2,λb hb=>(hf b hb).1⟩⟩
  rw[List.getElem?_reverse hlt]
  exact hxv
 done:=by
  intro X hP hw hK hc i pins s σ H E I hf st hg
  subst hP hw hK
  obtain⟨hlt,hx⟩:=hg
  obtain⟨f0,f1,f2,f3,f4,f5⟩:=hf z (by simp)
  have ei:((xs.length:Int)-1-(i:Nat)) = -1:=by omega
  have st':qdA s.heap z a (-1):=by rw[<-ei];exact st
  have hT:s.TypeIs (.ref z) "reversed":=⟨_,st,rfl⟩
  have hh:X.A.in1.handled=none:=I.ok.hd hc
  unfold yck
  refine yaa (yb4 (wpAny_callSpecial?_slot (name:=ybd "__next__") hT yF (yaH yF hT qa0
   (qmj hh st' λh' e kp he=>?_) (qbv _))))
  obtain⟨o,ho,hcl⟩:=he
  exact yaa (ycw (T:="StopIteration") (b:=true) ⟨o,ho,hcl⟩ yec (yac ⟨rfl,I.turned (t':=s.toks) (λb o hb e=>kp b o hb e) f0 f1 f3 f4 f5⟩))
 self:=λA i s Q E st h=>qhA st h
section
variable{X:Cx}{c:Fc}{a e:Expr}{pos:Pos}{tg:Expr}
def qtW(K:Fr0)(ta:TA):TI:=λσ H R=>ta σ H λvs H1=>∃b xs,vs=[.ref b]/\SqT K H1 b xs/\R (Itv K b xs) H1
theorem qrk {ta:TA} {p:Pos} (hg:Gl X "reversed") (hm:X.mg "reversed"=none) (ha:PA X [a] ta) (hs:yam [a] X.env=[(false,eval a X.env)]:=by rfl) :
  PI X tg (.Call (.Name "reversed" p) [a] [] pos) (qtW X.K ta):=by
 intro pins s σ H R I h
 refine Call_ (wT I hg hm PyProof.Rows.boot_reversed (yaW (thn (ha pos pins s σ H _ I h) λus s1 ⟨vs,H1,I1,r1,q1⟩=>?_) hs rfl))
 obtain⟨b,xs,e1,hx,q⟩:=q1
 subst e1
 obtain⟨u1,rfl,ru1⟩:=zT.one r1
 cases (show u1=yat b from ru1)
 obtain⟨its,v1,p1,z1⟩:=I1.tuple hx
 have hlen:=v1.length
 refine qmi (show s1.heap.IsTuple b its.toArray from p1) (by rw[sT_,<-hlen];exact z1) λh' zz kp=>?_
 refine qhA zz ?_
 have lb:b<s1.heap.objs.size:=by obtain⟨o,e,_⟩:=p1;exact yae e
 have zz':qdA h' s1.heap.objs.size b ((xs.length:Int)-1-((0:Nat):Int)):=by
  have e:((its.toArray.size:Nat):Int)-1=(xs.length:Int)-1-((0:Nat):Int):=by rw[sT_,hlen];omega
  rw[<-e];exact zz
 refine⟨s1.heap.objs.size,[s1.heap.objs.size],_,_,H1,rfl,I1.kept (t':=s1.toks+1+1) kp,qmk (xs:=xs) (yao lb),zz',λd hd=>?_,q⟩
 have e:d=s1.heap.objs.size:=by simpa using hd
 subst e
 exact I1.fpOk (yah _) (I1.hok.fresh (yah _))
theorem qrl {K:Fr0} {A:Addr->Prop} {H:Hp} {ds:List D} {xs:List V} {b:Addr} (t1:vL K H b xs) (i1:IsL K A H ds xs):qi1 K A H ds.reverse (Itv K b xs) where
 go:=λH' i d ex hd=>by
  have hl:i<ds.reverse.length:=(gI_.mp hd).1
  rw[ycx,<-i1.length]at hl
  exact⟨hl,(t1.elim (λh => .inl (ex.tup _ _ h)) .inr:vL K H' b xs).sq⟩
 yl := λH' i d x H'' ex hd y=>by
  obtain⟨rfl,hy⟩:=y
  have hl:i<ds.length:=by
   have:=(gI_.mp hd).1
   rwa [ycx]at this
  rw[List.getElem?_reverse hl]at hd
  rw[List.getElem?_reverse (by rw[i1.length];exact hl),i1.length]at hy
  obtain⟨x',g1,g2⟩:=i1.get hd
  rw[hy]at g1
  cases g1
  exact⟨λ_ _ h=>h,Is.ext ex (λ_ h _=>h) g2⟩
 stop:=λH' ex=>⟨by rw[ycx,i1.length],(t1.elim (λh => .inl (ex.tup _ _ h)) .inr:vL K H' b xs).sq⟩
def qsc:List D->Option (List D)
 | [.tup xs]=>some xs.reverse
 |_=>none
def qpc(f:M (List D)):M (List D):=bnd f λds=>lift (qsc ds)
theorem qnO {f:M (List D)} {p:Pos} (hg:Gl X "reversed") (hm:X.mg "reversed"=none) (ha:DA X c [a] f) (hs:yam [a] X.env=[(false,eval a X.env)]:=by rfl) :
  DI X c tg (.Call (.Name "reversed" p) [a] [] pos) (qpc f):=by
 obtain⟨t,pa,w⟩:=ha
 refine⟨_,qrk hg hm pa hs,λρ σ H Q r h=>w ρ σ H _ r (WpL.bndI h λds ρ1 vs H1 r1 i1 g1 h1=>?_)⟩
 obtain⟨es',e,h2⟩:=wz h1
 unfold qsc at e
 split at e
 ·obtain⟨v,rfl,j1⟩:=IsL.inv1 i1
  cases e
  obtain⟨a1,xs,rfl,t1,il1⟩:=Is.tr j1
  exact⟨a1,xs,rfl,t1.sq,h2 _ H1 r1 (qrl t1 il1) .refl⟩
 ·cases e
theorem qnP {l:M (List D)} {ρ:Env}:qpc l ρ=match l ρ with|.ok (d,ρ1)=>(match qsc d with|some ds => .ok (ds,ρ1)|none => .bad)|.exc x ρ' => .exc x ρ'|.bad => .bad:=by
 simp only[qpc,bnd]
 cases l ρ with
 |ok z=>obtain⟨z1,ρ1⟩:=z;(dsimp only;cases qsc z1<;>rfl)
 |exc x ρ'=>rfl
 |bad=>rfl
theorem qkg {f:M D} {ρ:Env} (i:Nat):vN i f ρ=match yz i ρ with
  |none => .bad
  |some _=>(match f ρ with
   |.ok (d,ρ1)=>(match yz i ρ1 with|some ds=>(if qY (ds.length+1)then .ok (.non,ρ1.set i (some (.lst (d::ds))))else .bad)|none => .bad)
   |.exc x ρ' => .exc x ρ'|.bad => .bad):=by
 unfold vN
 cases yz i ρ with
 |none=>rfl
 |some z=>
  simp only[bnd]
  cases f ρ with
  |ok z=>obtain⟨z1,ρ1⟩:=z;rfl
  |exc x ρ'=>rfl
  |bad=>rfl
end
end L2.Sk
namespace HT
open PySem PySem.Spec PyProof.Rows
end HT
namespace L2
open PySem PySem.Spec PyProof.Rows
end L2
namespace L2.Sk
open PySem PySem.Spec PyProof.Rows
end L2.Sk
namespace L2
open PySem PySem.Spec PyProof.Rows
section
variable{X:Cx}{pins:List (Addr×Obj)}{σ:St}{H:Hp}{s:yab}
theorem qml{H:Hp}{a:Addr}{o:HO}(h:H a=none):yA H (upd H a o):=λb u q=>by rw[qx (qJ q h)];exact q
end
end L2
namespace L2.Srt
open PySem PySem.W PyProof.Rows
theorem map_getD_range {α:Type} (d:α) (xs:List α):(yag xs.length).map (λi=>xs.getD i d)=xs:=by
 refine List.ext_getElem (by simp) λi h1 h2=>?_
 simp at h1 |-
 simp[h1]
end L2.Srt
set_option maxHeartbeats 1000000
namespace L2
open PySem PySem.Spec PyProof.Rows
structure SS (X:Cx) (H0:Hp) (s0:yab) (H:Hp) (s:yab):Prop where
 os:s.os=s0.os
 bare:ydh s.gens
 un:Un (frs X.stack) [] H0 H s0.heap s.heap
 hok:HOk X.prog X.w H s.heap
 same:yA H0 H
section
variable{X:Cx}{pins:List (Addr×Obj)}{σ:St}{H0 H:Hp}{s0 s:yab}{h':Heap}{b a kS:Addr}
theorem SS.inv (z:SS X H0 s0 H s) (I:Inv X pins σ H0 s0):Inv X pins σ H s:=by
 obtain⟨hh,g,d,t,os'⟩:=s
 obtain rfl:os'=s0.os:=z.os
 exact I.call (h':=hh) (g':=g) (d':=d) (t':=t) (ch:=[]) z.un z.hok z.bare (λb z=>absurd z (by simp))
theorem SS.of(I:Inv X pins σ H s):SS X H s H s:=⟨rfl,I.bare,.refl,I.hok,λ_ _ h=>h⟩
end
end L2
set_option maxHeartbeats 1000000
namespace L2
open PySem PySem.Spec PyProof.Rows
end L2
namespace L2.Sk
open PySem PySem.Spec PyProof.Rows
end L2.Sk
namespace L2
open PySem PySem.Spec PyProof.Rows
theorem walk_lam {l:yfg} {n k:Nat} {q:yar} {loose:List Str} {XP:(Str->Option Value)->Heap->Prop} {YP:World->Heap->Prop} {d:DefRec} {K:Params->yas} {CX:World->CXT} {sp:World->Sp} {x:Str}
  (hn:l.most=some n) (hn2:n<=yav) (hdf:d.params.defaults=[]) (hr:qac k yeQ)
  (hY:∀(w:World)(h:Heap),YP w h->(K w.params).In h) {lm:World->Option (Addr×Addr×Pos×Str)}
  (hlm:∀(w:World)(mean:ExcName->Option Value)(mg mb:Str->Option Value)(h:Heap)(c Pt:Addr)(pos:Pos)(z:Str),Top q (PySem.W.looseW q loose) mean mg mb h->(K w.params).In h->lm w=some (c,Pt,pos,z) ->
   yfz h c Pt/\h.get? Pt=some (yfA #[])/\(K w.params).lookup Pt=none)
  (F : ∀(w:World)(mg:Str->Option Value)(fa:Addr)(h:Heap),(K w.params).In h->h.Ns yad mg->mg d.name=some (.ref fa) ->
   ∃ fd:ybn,(∀(s:yab)(u:Value),yfy s fd ⟨[u],[]⟩ [(x,u)]) /\
    ∀base:Heap,(K w.params).In base->base.Ns yad mg->qe5 l.prog w (K w.params) mg base (CX w) k fa fd [x] (sp w))
  (hsp:∀(w:World)(H:Hp)(a:Addr)(ns:List Int),ns.length<=n->qr8 H->(∀c Pt pos z,lm w=some (c,Pt,pos,z)->H Pt=some (.lam pos z))->SqL (K w.params) H a (ns.map V.int)->sp w [.ref a] H (λv _=>v=.bl true) λ_ _ _=>False)
  (hCX:∀(w:World)(H:Hp)(s:yab)(e:Value)(s':yab),CX w [] H s (λ_ _ _=>False) e s'->False) :
  PySem.W.WalkO q loose XP YP l.row.toRowW d [] (λf vs=>ygT f vs):=by
 refine Att.attach_call hn hdf λw s₀ sV mg mb fa o pm cd doc a vs ns G Y ho hd hcd hmg hobj hints hlen hg=>?_
 have KX:=hY w _ Y
 obtain⟨fd,hb,hF⟩:=F w mg fa _ KX G.T.g hmg
 exact qlx (lm:=lm w) KX G.T.g G.T.b G.T.builtins G.T.nolimit G.T.bmain (λc Pt pos z=>hlm w _ mg mb _ c Pt pos z G.T KX) hg hobj hints (yaP hlen hn2) hr hF hb (λH hO hT hS=>hsp w H a ns hlen hO hT hS) λH e s'=>hCX w H sV e s'
end L2
namespace L2.Sk
open PySem PySem.Spec PyProof.Rows
end L2.Sk
namespace L2.Sk
open PySem PySem.Spec PyProof.Rows
end L2.Sk
namespace L2
open PySem PySem.Spec PyProof.Rows
end L2
namespace L2.Sk
open PySem PySem.Spec PyProof.Rows
end L2.Sk
set_option maxHeartbeats 1000000
namespace L2
open PySem PySem.Spec PyProof.Rows
end L2
namespace L2
open PySem PySem.Spec PyProof.Rows
end L2
namespace L2.Sk
open PySem PySem.Spec PyProof.Rows
end L2.Sk
set_option maxHeartbeats 1000000
namespace L2.Sk
open PySem PySem.Spec PyProof.Rows
def qfN(F F':D->D->OD)(f g k:M D):M D:=bnd f λx=>bnd g λy=>bnd (lift (F x y)) λz=>bnd (lift (asB z)) λb=>if b then bnd k λw=>lift (F' y w)else ret (.bl false)
section
variable{X:Cx}{c:Fc}{a b e:Expr}{pos:Pos}
theorem qrm {r r':R2} {F F':D->D->OD} {f g k:M D} {ta tb tc:TE} (hF:OpS X.K F r) (hF':OpS X.K F' r') (wa:∀ρ σ H Q,Rep X.K c ρ σ H->Wp X.K c σ H Q (f ρ)->ta σ H Q) (wb:∀ρ σ H Q,Rep X.K c ρ σ H->Wp X.K c σ H Q (g ρ)->tb σ H Q) (wc:∀ρ σ H Q,Rep X.K c ρ σ H->Wp X.K c σ H Q (k ρ)->tc σ H Q) :
  ∀ρ σ H Q,Rep X.K c ρ σ H->Wp X.K c σ H Q (qfN F F' f g k ρ)->qnm r r' ta tb tc σ H Q:=λρ σ H Q rp h=>by
 refine wa ρ σ H _ rp (Wp.bnd h λx ρ1 v H1 r1 i1 g1 h1=>wb ρ1 σ H1 _ r1 (Wp.bnd h1 λy ρ2 u H2 r2 i2 g2 h2=>?_))
 cases ez:F x y with
 |none=>rw[ez]at h2;exact h2.elim
 | some z=>
  rw[ez]at h2
  cases eb:asB z with
  |none=>
   have h3:Wp X.K c σ H2 Q (bnd (lift (asB z)) (λb=>if b then bnd k λw=>lift (F' y w)else ret (.bl false)) ρ2):=h2
   rw[eb]at h3
   exact h3.elim
  | some q=>
   have h3:Wp X.K c σ H2 Q (bnd (lift (asB z)) (λb=>if b then bnd k λw=>lift (F' y w)else ret (.bl false)) ρ2):=h2
   rw[eb]at h3
   have hz:=qbm eb
   subst hz
   refine hF _ H2 x y (.bl q) v u _ (λa ha=>r2.new ha) (g2.is i1) i2 ez λw H' s i=>⟨q,i,?_⟩
   cases q with
   |false=>
    rw[if_neg (by simp)]
    have h4:Wp X.K c σ H2 Q (.ok (.bl false,ρ2)):=h3
    exact h4 _ H' (r2.same s) rfl (.of_same s)
   |true=>
    rw[if_pos rfl]
    have h4:Wp X.K c σ H2 Q (bnd k (λw=>lift (F' y w)) ρ2):=h3
    refine wc ρ2 σ H' _ (r2.same s) (Wp.bnd (h4.gr (.of_same s)) λw' ρ3 u3 H3 r3 i3 g3 h5=>?_)
    obtain⟨d,e,h6⟩:=h5.lift
    exact hF' _ H3 y w' d u u3 Q (λa ha=>r3.new ha) (g3.is (Gr.is (.of_same s) i2)) i3 e λw2 H4 s4 i4=>h6 w2 H4 (r3.same s4) i4 (.of_same s4)
theorem qmm {op op':CmpOp} {e':Expr} {r r':R2} {F F':D->D->OD} {f g k:M D} (ho:OpR X (yaL op) r) (hF:OpS X.K F r) (ho':OpR X (yaL op') r') (hF':OpS X.K F' r') (ha:DE X c a f) (hb:DE X c b g) (hc:DE X c e' k)
  (hm:lastMarks [op,op'] [b,e']=false:=by with_unfolding_all rfl):DT X c (.Compare a [op,op'] [b,e'] pos) (tst (qfN F F' f g k)):=by
 obtain⟨ta,pa,wa⟩:=ha
 obtain⟨tb,pb,wb⟩:=hb
 obtain⟨tc,pc,wc⟩:=hc
 refine⟨_,qlr ho ho' pa pb pc hm,λρ σ H Q rp h=>qrm hF hF' wa wb wc ρ σ H _ rp (Wp.bndB h λd ρ1 v H1 r1 i1 g1 h1=>?_)⟩
 obtain⟨b,e,h2⟩:=qec h1
 have:=qbm e
 subst this
 exact⟨b,i1,h2 H1 r1 .refl⟩
end
theorem qmn {F F':D->D->OD} {f g k:M D} {ρ:Env} {x y w d:D} (hf:f ρ=.ok (x,ρ)) (hg:g ρ=.ok (y,ρ)) (h1:F x y=some (.bl true)) (hk:k ρ=.ok (w,ρ)) (h2:F' y w=some d):qfN F F' f g k ρ=.ok (d,ρ):=by
 unfold qfN
 rw[qdJ hf,qdJ hg,h1]
 show bnd k _ ρ=_
 rw[qdJ hk,h2]
 rfl
end L2.Sk
set_option maxHeartbeats 1000000
namespace L2
open PySem PySem.Spec PyProof.Rows
end L2
namespace L2.Sk
open PySem PySem.Spec PyProof.Rows
end L2.Sk
set_option maxHeartbeats 1000000
namespace L2.Sk
open PySem PySem.Spec PyProof.Rows
end L2.Sk
set_option maxHeartbeats 1000000
namespace L2.Sk
open PySem PySem.Spec PyProof.Rows
end L2.Sk
set_option maxHeartbeats 1000000
namespace L2.Sk
open PySem PySem.Spec PyProof.Rows
end L2.Sk
set_option maxHeartbeats 1000000
namespace L2.Sk
open PySem PySem.Spec PyProof.Rows
end L2.Sk
set_option maxHeartbeats 1000000
namespace L2.Sk
open PySem PySem.Spec PyProof.Rows
section
variable{X:Cx}{H0 H:Hp}{s0 s:yab}{T:Addr}{o:HO}
theorem ss_lay (z:SS X H0 s0 H s) (ht:s0.heap.get? T=none) (hn:H T=none) (new:u7 X.prog X.w (upd H T o) s.heap T o):SS X H0 s0 (upd H T o) s:=by
 have ne':∀c u,H c=some u->c≠T:=λc u q z=>by rw[z,hn]at q;cases q
 refine⟨z.os,z.bare,qo4 z.un ht hn,λb u e=>?_,λb o e=>qml hn b o (z.same b o e)⟩
 by_cases hb:b=T
 ·subst hb
  rw[qz]at e
  cases e
  exact new
 ·rw[qx hb]at e
  exact(z.hok b u e).stay (λ_ _ _ q=>q) (λc q=>by rw[qx (ne' c _ q)];exact q) (λc xs q=>by rw[qx (ne' c _ q)];exact q) λc ob y q=>by rw[qx (ne' c _ q)];exact q
end
end L2.Sk
set_option maxHeartbeats 1000000
namespace L2.Sk
open PySem PySem.Spec PyProof.Rows
end L2.Sk
set_option maxHeartbeats 1000000
namespace L2.Sk
open PySem PySem.Spec PyProof.Rows
end L2.Sk
set_option maxHeartbeats 1000000
namespace L2.Sk
open PySem PySem.Spec PyProof.Rows
end L2.Sk
namespace L2
open PySem PySem.Spec PyProof.Rows
end L2
namespace L2
open PySem PySem.Spec PyProof.Rows
end L2
namespace L2.Sk
open PySem PySem.Spec PyProof.Rows
end L2.Sk
set_option maxHeartbeats 1000000
namespace L2.St
open PySem
def qlg(xs:Array Nat):Prop:=∀i j u v:Nat,i<j->xs[i]? = some u->xs[j]? = some v->u<v
structure Cut (xs:Array Nat) (j p:Nat):Prop where
 le:p<=xs.size
 lo:∀i v,i<p->xs[i]? = some v->v<j
 hi:∀i v,p<=i->xs[i]? = some v->j<=v
theorem qkh {xs:Array Nat} (r:qlg xs) (j:Nat):∀f lo hi:Nat,hi-lo<=f->lo<=hi->hi<=xs.size->(∀i v,i<lo->xs[i]? = some v->v<j)->(∀i v,hi<=i->xs[i]? = some v->j<=v) ->
  Cut xs j (ygC xs j f lo hi)
 |0,lo,hi,hf,hl,hs,a,b=>by
  have e:lo=hi:=by omega
  subst e
  exact⟨hs,a,b⟩
 | f + 1,lo,hi,hf,hl,hs,a,b=>by
  unfold ygC
  by_cases h:lo<hi
  ·rw [if_pos h]
   have hm:(lo+hi)/2<xs.size:=by omega
   have gm:xs[(lo+hi)/2]? = some xs[(lo+hi)/2]:=Array.getElem?_eq_getElem hm
   have gd:xs.getD ((lo+hi)/2) j=xs[(lo+hi)/2]:=by rw[ycT,gm];rfl
   dsimp only
   rw[gd]
   by_cases c:xs[(lo+hi)/2]<j
   ·rw[if_pos c]
    refine qkh r j f _ _ (by omega) (by omega) hs (λi v hi' hv=>?_) b
    by_cases e:i=(lo+hi)/2
    ·subst e;rw[gm]at hv;cases hv;exact c
    ·exact Nat.lt_trans (r i _ v _ (by omega) hv gm) c
   ·rw[if_neg c]
    refine qkh r j f _ _ (by omega) (by omega) (by omega) a (λi v hi' hv=>?_)
    by_cases e:i=(lo+hi)/2
    ·subst e;rw[gm]at hv;cases hv;omega
    ·exact yaP (ybQ c) (ycM (r _ i _ v (by omega) gm hv))
  ·rw[if_neg h]
   have e:lo=hi:=by omega
   subst e
   exact⟨hs,a,b⟩
theorem qcZ {xs:Array Nat} (r:qlg xs) (j:Nat):Cut xs j (yaK xs j) :=
 qkh r j _ _ _ (by omega) (ybB _) (yah _) (λi v h=>absurd h (yc5 _)) λi v h e=>by
  rw[Array.getElem?_eq_none h]at e;cases e
theorem qiG {xs:Array Nat} (r:qlg xs):yaK xs 0=0:=by
 have c:=qcZ r 0
 rcases Nat.eq_zero_or_pos (yaK xs 0)with h|h
 ·exact h
 ·have hs:0<xs.size:=yaA h c.le
  exact absurd (c.lo 0 _ h (Array.getElem?_eq_getElem hs)) (yc5 _)
theorem qiH {xs:Array Nat} (r:qlg xs) {i v:Nat} (h:xs[i]? = some v):yaK xs (v+1)=i+1:=by
 have c:=qcZ r (v+1)
 have hi:i<xs.size:=by
  rcases ye0 i xs.size with z|z
  ·exact z
  ·rw[Array.getElem?_eq_none z]at h;cases h
 have h1:i<yaK xs (v+1):=by
  rcases ye0 i (yaK xs (v+1))with z|z
  ·exact z
  ·have:=c.hi i v z h;omega
 have h2:yaK xs (v+1)<=i+1:=by
  rcases ye0 (i+1) (yaK xs (v+1))with z|z
  ·have hs:i+1<xs.size:=yaA z c.le
   have g:=Array.getElem?_eq_getElem hs
   have a:=c.lo _ _ z g
   have b:=r i (i+1) v _ (ydH _) h g
   omega
  ·exact z
 omega
theorem ins_get {α:Type} (xs:Array α) (p:Nat) (x:α) (h:p<=xs.size) (i:Nat):(yeG xs p x)[i]? = if i<p then xs[i]? else if i=p then some x else xs[i-1]? := by
 unfold yeG
 have e1:((xs.extract 0 p).push x).size=p+1:=by rw[Array.size_push,ygj];omega
 rw[Array.getElem?_append,e1]
 by_cases a:i<p+1
 ·rw [if_pos a,Array.getElem?_push,ygj]
  by_cases b:i=p
  ·subst b
   rw[if_pos (by omega),if_neg (yaT _),if_pos rfl]
  ·rw[if_neg (by omega),if_pos (by omega),Array.getElem?_extract,if_pos (by omega),ybf]
 ·rw[if_neg a,if_neg (by omega),if_neg (by omega),Array.getElem?_extract]
  by_cases b:i-1<xs.size
  ·rw[if_pos (by omega)];congr 1;omega
  ·rw[if_neg (by omega),Array.getElem?_eq_none (by omega)]
theorem qmo {xs:Array Nat} (r:qlg xs) {j:Nat} (hn:xs[yaK xs j]? ≠ some j):qlg (yeG xs (yaK xs j) j):=by
 have c:=qcZ r j
 have up:∀i v,yaK xs j<=i->xs[i]? = some v->j<v:=λi v h e=>by
  have a:=c.hi i v h e
  rcases ygk a with z|z
  ·exact z
  ·subst z
   rcases ygk h with y|y
   ·have hs:yaK xs j<xs.size:=by
     rcases ye0 i xs.size with q|q
     ·omega
     ·rw[Array.getElem?_eq_none q]at e;cases e
    have g:=Array.getElem?_eq_getElem hs
    have:=r _ i _ j y g e
    have:=c.hi _ _ (yah _) g
    omega
   ·rw[y]at hn;exact absurd e hn
 intro a b u v hab ha hb
 rw[ins_get _ _ _ c.le]at ha hb
 split at ha
 ·rename_i h1
  split at hb
  ·exact r a b u v hab ha hb
  ·split at hb
   ·cases hb;exact c.lo _ _ h1 ha
   ·exact Nat.lt_trans (c.lo _ _ h1 ha) (up _ _ (by omega) hb)
 ·split at ha
  ·cases ha
   rw[if_neg (by omega),if_neg (by omega)]at hb
   exact up _ _ (by omega) hb
  ·rw[if_neg (by omega),if_neg (by omega)]at hb
   exact r (a-1) (b-1) u v (by omega) ha hb
theorem qmp:qlg #[]:=λi j u v _ h=>by simp at h
def qpd(l:Bool)(t:ycj):Prop:=t.led=l/\(t.plain=true->qlg t.place)
theorem qpe {t:ycj} {j:Nat} (h:∀i,t.slot j ≠ .live i):t.place[yaK t.place j]? ≠ some j:=λe=>by
 refine h (yaK t.place j) ?_
 unfold SetTable.slot
 dsimp only
 rw[e,if_pos (beq_self_eq_true _)]
theorem qes {t:ycj} {f:Nat->Int} {h:Int}:∀(n:Nat)(p:SetTable.Probe){j:Nat}{dm:Option Nat},(∀d,p.dummy=some d->∀i,t.slot d ≠ .live i)->yeH t f h n p=some (.empty j dm) ->
  (∀i,t.slot j ≠ .live i)/\∀d,dm=some d->∀i,t.slot d ≠ .live i
 |0,p,j,dm,hp,e=>by unfold yeH at e;cases e
 | n + 1,p,j,dm,hp,e=>by
  unfold yeH at e
  split at e
  ·rename_i q
   cases e
   exact⟨(λi=>by rw[q];intro z;cases z),hp⟩
  ·rename_i q
   refine qes n _ ?_ e
   intro d hd i
   have:d=p.j:=by
    unfold SetTable.advance at hd
    split at hd<;>(cases hd;rfl)
   subst this
   rw[q];intro z;cases z
  ·rename_i i q
   split at e
   ·cases e
   ·refine qes n _ ?_ e
    intro d hd
    refine hp d ?_
    unfold SetTable.advance at hd
    split at hd<;>exact hd
theorem qpf {t:ycj} {h:Int} {j:Nat} {b:Bool} (e:t.freeSlot h=some (j,b)):t.place[yaK t.place j]? ≠ some j:=by
 unfold SetTable.freeSlot at e
 split at e
 ·rename_i j' dm q
  cases e
  obtain⟨a,c⟩:=qes _ _ (λd hd=>by cases hd) q
  refine qpe ?_
  cases dm with
  |none=>exact a
  |some d=>exact c d rfl
 ·cases e
theorem qaN{l:Bool}{t:ycj}(g:t.led=l)(n:Nat):qpd l (t.standIn n):=⟨g,λh=>by cases h⟩
theorem qmq {l:Bool} {t:ycj} (g:qpd l t) (es:Array (Int×Value)) (h:Int) (x:Value):qpd l (layNew t es h x).2.1:=by
 unfold layNew
 split
 ·rename_i j b e
  dsimp only
  unfold SetTable.orStandIn
  split
  ·exact⟨g.1,λhp=>qmo (g.2 hp) (qpf e)⟩
  ·exact qaN g.1 _
 ·exact qaN g.1 _
theorem qki (o:Array (Option Nat)) (m:Nat):qlg (((yag m).filterMap λj=>(o.getD j none).map (j,·)).map (·.1)).toArray:=by
 have s:List.Sublist (((yag m).filterMap λj=>(o.getD j none).map (j,·)).map (·.1)) (yag m):=by
  have key:∀l:List Nat,List.Sublist ((l.filterMap λj=>(o.getD j none).map (j,·)).map (·.1)) l:=by
   intro l
   induction l with
   |nil=>exact .slnil
   |cons a l ih=>
    cases h:o.getD a none with
    |none=>rw[List.filterMap_cons_none (by rw[h];rfl)];exact ih.cons _
    |some b=>rw[List.filterMap_cons_some (by rw[h];rfl),mC_];exact ih.cons₂ _
  exact key _
 have p:=List.Pairwise.sublist s (List.pairwise_lt_range (n:=m))
 intro i j u v hij hu hv
 rw[List.getElem?_toArray]at hu hv
 obtain⟨h1,rfl⟩:=gI_.mp hu
 obtain⟨h2,rfl⟩:=gI_.mp hv
 exact List.pairwise_iff_getElem.mp p i j h1 h2 hij
theorem qiI {l:Bool} {t:ycj} (g:qpd l t) (es:Array (Int×Value)) (n:Nat):qpd l (yfO t es n).2.1:=by
 unfold yfO
 split
 ·rename_i t' od e
  dsimp only
  split
  ·unfold SetTable.relaid SetTable.laid at e
   cases hc:SetTable.layClean (SetTable.sizeAbove n-1) (es.map (·.1)) with
   |none=>rw[hc]at e;cases e
   |some ow=>
    rw[hc]at e
    cases e
    exact⟨g.1,λ_=>qki ow _⟩
  ·exact qaN g.1 _
 ·exact qaN g.1 _
end L2.St
set_option maxHeartbeats 1000000
namespace L2.St
open PySem
def qlh(e:Int×Value):Int:=match e.2 with|.int n _=>n|_=>0
def addI(σ:List Int)(k:Int):List Int:=if k∈σ then σ else σ++[k]
def qbx (prog:yar) (w:World) (l:Bool) (h:Heap) (S:Addr) (σ:List Int):Prop :=
 ∃o es ep t,h.get? S=some o/\o.ExactSet/\o.data=.set es ep t/\ygq (ycz prog w) es.toList/\(es.toList.map qlh).Perm σ/\t.fits es.size=true/\qpd l t
section
variable{prog:yar}{w:World}{A:yau}{E:Value->yab->Prop}{s:yab}{l:Bool}{S:Addr}{σ:List Int}{k:Int}{tk:Tok}
theorem qnQ {es:List (Int×Value)} (hel:ygq (ycz prog w) es) {e:Int×Value} (he:e∈es):(ycz prog w).is k e.2=decide (qlh e=k):=by
 obtain⟨⟨k',h,_⟩,_⟩:=hel e he
 obtain⟨t,q⟩:=yeB h
 unfold qlh
 rw[q]
 show yds k (.int k' t)=_
 by_cases z:k'=k
 ·subst z;simp[yds]
 ·rw[decide_eq_false z]
  cases y:yds k (.int k' t) with
  |false=>rfl
  |true=>exact absurd (Value.isInt_inj _ _ _ (show yds k' (.int k' t)=true by simp[yds]) y) z
theorem qgQ {es:Array (Int×Value)} (p:(es.toList.map qlh).Perm σ):es.size=σ.length:=by
 rw[<-p.length_eq,lM_,ya1]
theorem qmr (σ:List Int) (k:Int):(addI σ k).length<=σ.length+1:=by
 unfold addI;split
 ·exact ybw _
 ·rw[lA_];exact yah _
theorem qms {o:Obj} {es:Array (Int×Value)} {ep:Nat} {t:ycj} (ho:s.heap.get? S=some o) (hex:o.ExactSet) (hd:o.data=.set es ep t) {es1:Array (Int×Value)} {t2:ycj} {σ':List Int}
  (hel:ygq (ycz prog w) es1.toList) (hp:(es1.toList.map qlh).Perm σ') (hz:es1.size<=1000) (hf:t2.fits es1.size=true) (g:qpd l t2) {gv:Bool->Sem Unit} (hg:∀(b:Bool)(sV:yab)(Q':Unit->yab->Prop),Q' () sV->wpAny (model prog w) A (gv b) Q' E sV)
  {wd:Bool} {R:Option Bool->yab->Prop} (h:∀h',ybK S s.heap h'->qbx prog w l h' S σ'->R (some true) {s with heap:=h' }) :
  wpAny (model prog w) A (storeSet S es1 t2 >>= λ_=>if(!wd&&t2.tooFull)=true then(gv (yfO t2 es1 (ycR es1.size)).2.2 >>= λ_=>storeSet S (yfO t2 es1 (ycR es1.size)).1 (yfO t2 es1 (ycR es1.size)).2.1 >>= λ_=>pure (some true))else pure (some true)) R E s:=by
 have put:∀(hh:Heap)(oo:Obj)(ea:Array (Int×Value))(e0:Nat)(ta:ycj)(eb:Array (Int×Value))(tb:ycj),hh.get? S=some oo->oo.data=.set ea e0 ta->(hh.update S (ygU eb tb)).get? S=some {oo with data:=.set eb (e0+1) tb}:=λhh oo ea e0 ta eb tb q r=>by
  have z:=Heap.get?_update_self (ygU eb tb) q (by rw[putSet_of eb tb r];rfl)
  rwa [putSet_of eb tb r]at z
 have h1:=put s.heap o es ep t es1 t2 ho hd
 have sb:=yaQ s.heap S (ygU es1 t2)
 refine yaa (ygD ho hd ?_ (by rw[ybA];omega))
 split
 ·have pm:=relayAll_perm t2 es1 (ycR es1.size)
  have ft:=relayAll_fits t2 es1 (ycR es1.size)
  have gd:=qiI g es1 (ycR es1.size)
  refine yaa (hg _ _ _ (yaa (ygD h1 rfl (yac (h _ (sb.trans (yaQ _ S _)) ?_)) ?_)))
  ·exact⟨_,_,_,_,put _ _ _ _ _ _ _ h1 rfl,hex,rfl,hel.perm pm,(pm.map qlh).trans hp,ft,gd⟩
  ·rw[<-ya1,pm.length_eq,ya1,ybA];omega
 ·exact yac (h _ sb ⟨_,_,_,_,h1,hex,rfl,hel,hp,hf,g⟩)
theorem add_int {Q:Bool->yab->Prop} (hS:qbx prog w l s.heap S σ) (hb:σ.length<1000) (h:∀h' b,ybK S s.heap h'->qbx prog w l h' S (addI σ k)->Q b {s with heap:=h' }) :
  wpAny (model prog w) A (setAddHashed S (.int k tk) (yeM k)) Q E s:=by
 obtain⟨o,es,ep,t,ho,hex,hd,hel,hp,hf,g⟩:=hS
 have hz:=qgQ hp
 have hk:(ycz prog w).is k (.int k tk)=true:=intKind_is prog w k tk
 unfold setAddHashed setAddHashedIn
 refine ya2 (yaa (ycl ho hd hf ?_))
 dsimp only
 rw[byScan_of (knd:=ycz prog w) (x:=.int k tk) rfl (by rw[hz];unfold scanBound;omega) hel,if_pos rfl]
 unfold setAddByScan
 refine yaa (yaa (yca (yaa (wpAny_setScan_of (knd:=ycz prog w) hk ho hd hf hel ?_))))
 cases hr:List.findIdx? (λe=>(ycz prog w).is k e.2) es.toList with
 | some j=>
  obtain⟨hj,hpj,_⟩:=List.findIdx?_eq_some_iff_getElem.mp hr
  have hm:k∈σ:=hp.mem_iff.mp (by
   rw[qnQ hel (ydI hj),decide_eq_true_eq]at hpj
   exact mP_.mpr ⟨_,ydI hj,hpj⟩)
  have e:s={s with heap:=s.heap}:=by cases s;rfl
  refine yac (yac ?_)
  rw[e]
  exact h _ _ (ygz S s.heap) ⟨o,es,ep,t,ho,hex,hd,hel,(by unfold addI;rw[if_pos hm];exact hp),hf,g⟩
 | none=>
  have hm:k ∉ σ:=λhm=>by
   obtain⟨e,he,q⟩:=mP_.mp (hp.mem_iff.mpr hm)
   have z:=List.findIdx?_eq_none_iff.mp hr e he
   rw[qnQ hel he,q,decide_eq_true rfl]at z
   cases z
  have gw:∀(b:Bool)(sV:yab)(Q':Unit->yab->Prop),Q' () sV->wpAny (model prog w) A (match b with|true=>rule "set.scan.the-table-gave-way"|false=>pure ()) Q' E sV:=λb sV Q' q=>by
   cases b
   ·exact yac q
   ·exact yca q
  have pm:=layNew_perm t es (yeM k) (.int k tk)
  have ft:=layNew_fits t es (yeM k) (.int k tk)
  have gd:=qmq g es (yeM k) (.int k tk)
  dsimp only
  show wpAny _ _ (match layNew t es (yeM k) (.int k tk) with|_=>_) _ _ _
  generalize layNew t es (yeM k) (.int k tk)=L at pm ft gd |-
  obtain⟨es1,t1,wd,gave⟩:=L
  dsimp only at pm ft gd |-
  rw[ygE]at pm
  have hel1:ygq (ycz prog w) es1.toList:=(hel.push (knd:=ycz prog w) hk rfl).perm pm
  have hp1:(es1.toList.map qlh).Perm (addI σ k):=by
   unfold addI;rw[if_neg hm]
   refine(pm.map qlh).trans ?_
   rw[ybH]
   exact hp.append_right _
  have hz1:es1.size<=1000:=by have:=qgQ hp1;have:=qmr σ k;omega
  have fin:∀h',ybK S s.heap h'->qbx prog w l h' S (addI σ k)->Q true {s with heap:=h' }:=λh' a b=>h h' true a b
  refine yaa (gw _ _ _ ?_)
  have go:=λ(R:Option Bool->yab->Prop)=>qms (R:=R) (E:=E) (A:=A) (l:=l) ho hex hd hel1 hp1 hz1 ft gd (gv:=λb=>match b with|true=>rule "set.scan.the-table-gave-way"|false=>pure ()) gw (wd:=wd)
  split
  ·rw[hashByValue_scannable 8 (x:=.int k tk) rfl]
   refine yaa (yac ?_)
   exact go _ λh' a b=>yac (fin h' a b)
  ·refine yaa (yac ?_)
   exact go _ λh' a b=>yac (fin h' a b)
end
end L2.St
set_option maxHeartbeats 3200000
namespace L2.St
open PySem
def addL(σ:List Int)(vs:List Int):List Int:=vs.foldl addI σ
theorem qfO:∀(vs σ:List Int),σ.length<=(addL σ vs).length
 | [],σ=>yah _
 |v::vs,σ=>by
  refine yaP ?_ (qfO vs (addI σ v))
  unfold addI;split
  ·exact yah _
  ·rw[lA_];exact yb8 _ _
theorem qbx.keep {prog:yar} {w:World} {l:Bool} {h h':Heap} {S:Addr} {σ:List Int} (x:qbx prog w l h S σ) (k:∀o,h.get? S=some o->h'.get? S=some o):qbx prog w l h' S σ:=by
 obtain⟨o,es,ep,t,ho,r⟩:=x
 exact⟨o,es,ep,t,k o ho,r⟩
section
variable{prog:yar}{w:World}{A:yau}{R:ydU->yab->Prop}{I S:Addr}{fp wr:List Addr}{G:Array yfI->Array yfI->Prop}{n:Nat}{P:Nat->Value->Prop}{St:Nat->yab->Prop}{l:Bool}
theorem qmt (W:WalksS prog w A.in1 I fp wr G n P St) (hSf:S ∉ fp) (val:Nat->Int) (hval:∀i v,P i v->∃t,v=.int (val i) t):∀(k i:Nat)(s:yab)(σ:List Int),i+k=n->St i s->qbx prog w l s.heap S σ->(addL σ ((ydw i k).map val)).length<1000 ->
  (∀s',Moved (S::wr) G s s'->qbx prog w l s'.heap S (addL σ ((ydw i k).map val))->R (.ok (.ret .none)) s')->ybI (model prog w) A (.builtin "set.update.loop" ⟨[.ref S,.ref I],[]⟩) R s:=by
 have hSw:S ∉ wr:=λh=>hSf (W.sub _ h)
 have up:∀b∈wr,b∈S::wr:=λb hb=>mM _ hb
 intro k
 induction k with
 | zero=>
  intro i s σ hk hst hS _ hR
  obtain rfl:i=n:=hk
  refine yaI ydc (by
   rw[yaB ycc _]
   show wpAny (model prog w) A.in1 (yck (.ref I) >>= _) _ _ s
   refine yaa (W.done s _ _ hst λs' hm=>yac (hR s' (hm.mono up) (hS.keep λo=>hm.heap S o hSw))))
 |succ k ih=>
  intro i s σ hk hst hS hb hR
  have hlt:i<n:=by omega
  refine yaI ydc ?_
  rw[yaB ycc _]
  show wpAny (model prog w) A.in1 (yck (.ref I) >>= _) _ _ s
  refine yaa (W.item i s _ _ hlt hst λv s1 hP hst1 hm=>?_)
  obtain⟨t,rfl⟩:=hval i v hP
  have hS1:=hS.keep (h':=s1.heap) λo=>hm.heap S o hSw
  have hl:σ.length<1000:=ygl (qfO _ σ) hb
  show wpAny (model prog w) A.in1 (ydJ [yej (val i) t] (setAdd S (.int (val i) t)) >>= _) _ _ s1
  refine yaa (ya2 ?_)
  unfold setAdd
  refine ya2 (yaa ((ycz prog w).pyHash (k:=val i) (intKind_is prog w _ _) ?_))
  refine add_int (s:={s1 with toks:=s1.toks+1}) (σ:=σ) (k:=val i) hS1 hl λh' b sb hS2=>?_
  refine yac ⟨yaO ycc _,ih (i+1) _ (addI σ (val i)) (by omega) (W.frame _ s1 _ _ hst1 (ybw _) λb hb o e=>?_) hS2 hb λs2 hm2 hS3=>hR s2 (Moved.trans W.gtrans ((hm.mono up).then_heap (ybw _) λb o hb e=>?_) hm2) hS3⟩
  ·exact(sb.2 b λz=>hSf (z▸hb)).trans e
  ·exact(sb.2 b λz=>hb (by rw[z];exact mS_)).trans e
end
def qnR(w:World):Bool := !(w.params.followText "set-order")
section
variable{prog:yar}{w:World}{A:yau}{E:Value->yab->Prop}{s:yab}
def qli(w:World):Obj:={cls:=.type "set",dict:=none,data:=.set #[] 0 (.fresh 0 0 (qnR w))}
theorem qpg (a:Value) {Q:Value->yab->Prop} (h:Q (.ref s.heap.objs.size) {s with heap:=s.heap.push (qli w)}) :
  ybI (model prog w) A (.call (.builtin "set.__new__") ⟨[.type "set",a],[]⟩) (wants Q E) s:=by
 refine codeAny_of_tree ?_
 show wpAny (model prog w) A.in1 (ydG "set.__new__" ⟨[.type "set",a],[]⟩ >>= λ_=>again (.builtin "set.__new__" ⟨[.type "set",a],[]⟩)) _ _ s
 refine yaa (ybC (PySem.F.newCall_set_1 a) (yac ⟨yaO F.plain_set_new _,yaI F.entry_set_new (by
  rw[yaB F.plain_set_new _]
  unfold yaX.«set.__new__» Builtin.Frozenset.newClass
  have hsub:=sub_set_self
  obtain⟨hp,g,d,tk,os⟩:=s
  dsimp only
  wp_walk
  refine ye1 (yac ?_)
  dsimp only
  simp only[newObj]
  refine yaa (wpAny_alloc (yac ?_))
  exact yac h)⟩))
end
end L2.St
set_option maxHeartbeats 3200000
namespace L2.St
open PySem
theorem qdC (ns:List Int) (n:Nat) (h:ns.length=n):(ydw 0 n).map (λi=>ns.getD i 0)=ns:=by
 subst h
 refine ygF λi=>?_
 rw[gM_]
 by_cases c:i<ns.length
 ·rw[gG (by rw[ygm];exact c),List.getElem_range',ybg,gG c]
  simp[List.getD_eq_getElem?_getD,gG c]
 ·rw[List.getElem?_eq_none (by rw[ygm];omega),List.getElem?_eq_none (by omega)];rfl
theorem ints_len {vs:List Value} {ns:List Int} (h:ybX vs ns):ns.length=vs.length:=by
 induction h with
 |nil=>rfl
 |cons _ _ _ ih=>rw[lC_,lC_,ih]
section
variable{prog:yar}{w:World}{A:yau}{E:Value->yab->Prop}{s:yab}
theorem qkj (h:Heap) (S:Addr) (e:h.get? S=some (qli w)):qbx prog w (qnR w) h S [] :=
 ⟨_,#[],0,_,e,⟨rfl,rfl,rfl⟩,rfl,(λe he=>by simp at he),.nil,rfl,rfl,λ_=>qmp⟩
theorem call_setL {a:Addr} {items:Array Value} {ns:List Int} {Q:Value->yab->Prop} (hh:A.handled=none) (hl:s.heap.IsList a items) (hi:ybX items.toList ns) (hb:(addL [] ns).length<1000)
  (h:∀(h':Heap)(tk:Nat),qbx prog w (qnR w) h' s.heap.objs.size (addL [] ns)->(∀b o,s.heap.get? b=some o->h'.get? b=some o)->Q (.ref s.heap.objs.size) {s with heap:=h',toks:=tk}) :
  wpAny (model prog w) A (call (.type "set") [.ref a]) Q E s:=by
 obtain⟨c,tl,hmro⟩:=F.called_set.mro
 have hmade:=F.called_set.made
 have hsub:=F.called_set.sub
 have h1:=F.called_set.notType
 have h2:=F.called_set.canCreate
 have hct:=F.typeCall_set_1 (.ref a)
 refine ygR (codeAny_of_tree ?_)
 show wpAny _ _ (callAny (.type "set") _) _ _ _
 refine yac ⟨yge _ (by decide +kernel),yaI F.entry_type_call ?_⟩
 rw[Around.under_plain (weight_type_call_type "set" [.ref a] []) rfl]
 repeat (any_goals (first|assumption|wp_step))
 refine ydV (qpg (.ref a) (E:=E) (Q:=λob sV=>ob=.ref s.heap.objs.size/\sV={s with heap:=s.heap.push (qli w)}) ⟨rfl,rfl⟩) λr sV hr=>?_
 cases r with
 |error e=>exact hr
 | ok fl=>
  cases fl with
  | ret ob=>
   obtain⟨rfl,rfl⟩:=hr
   have hS:(s.heap.push (qli w)).get? s.heap.objs.size=some (qli w):=Heap.get?_push_size _ rfl
   have hT:yex {s with heap:=s.heap.push (qli w)} (.ref s.heap.objs.size) "set":=⟨_,hS,rfl⟩
   have hli:=F.called_set.init.lookup
   have hbi:=F.called_set.init.bind (.ref s.heap.objs.size)
   repeat (any_goals (first|assumption|wp_step))
   refine ydV (ycW (R:=wants (λr sJ=>r=.none/\∃h' tk,sJ={s with heap:=h',toks:=tk}/\qbx prog w (qnR w) h' s.heap.objs.size (addL [] ns)/\∀b o,s.heap.get? b=some o->h'.get? b=some o) E) F.called_set.init.plain F.entry_set_init (check_set_init_1 hT ?_)) λrK sJ hr2=>?_
   ·obtain ⟨ol,hol,hcl,nl,hdl⟩:=hl
    obtain⟨ocls,odict,odata,oslots⟩:=ol
    simp only at hcl hdl
    subst hcl;subst hdl
    have hol':(s.heap.push (qli w)).get? a=some {cls:=.type "list",dict:=odict,data:=.seq items nl,slots:=oslots}:=Heap.get?_push_of_some _ hol
    have hsls:=F.sub_list_set
    have hslf:=F.sub_list_frozenset
    have hne:(ycB "list"==ycB "dict")=false:=by decide
    have hl1:(s.heap.push (qli w)).IsList a items:=⟨_,hol',rfl,nl,rfl⟩
    have hlS:a<s.heap.objs.size:=yae hol
    have hh3:A.in1.in1.in1.handled=none:=by simp[hh]
    have sz:(s.heap.push (qli w)).objs.size=s.heap.objs.size+1:=yaN _ _
    have hSf:s.heap.objs.size ∉ [(s.heap.push (qli w)).objs.size,a]:=by
     rw[sz];intro z
     rcases List.mem_cons.mp z with z|z
     ·exact absurd z (yao (ydH _))
     ·exact absurd (ms_.mp z) (ybL hlS)
    unfold yaX.«set.__init__» noKeywords Builtin.Frozenset.updateFrom
    generalize hPI:yf4=PI
    wp_walk
    subst hPI
    refine ya4 hl1 (yaa (wpAny_runValue ?_))
    have e0:=qdC ns items.size ((ints_len hi).trans (ya1))
    refine qmt (l:=qnR w) (ydk hh3 _ a (by rw[sz];exact yao (yb3 hlS)) items).toS (S:=s.heap.objs.size) hSf (λi=>ns.getD i 0) (λi v hv=>PyProof.Rows.IntsAre.int_at hi i v (by rw[Array.getElem?_toList];exact hv)) items.size 0 _ [] (ybf _)
     ⟨⟨_,Heap.get?_push_size _ rfl,rfl,rfl⟩,(hl1.push _)⟩ (qkj _ _ (Heap.get?_push_of_some _ hS)) (by rw[e0];exact hb) λs' hm hS'=>?_
    rw[e0]at hS'
    obtain⟨h',g',d',tk',os'⟩:=s'
    obtain rfl:g'=s.gens:=hm.gens
    obtain rfl:d'=s.drawn:=hm.drawn
    obtain rfl:os'=s.os:=hm.os
    show wpAny _ _ _ _ _ _
    refine yac ?_
    show wpAny _ _ (ret yaM) _ _ _
    refine yac ⟨rfl,h',tk',rfl,hS',λb o e=>?_⟩
    have hb':=yae e
    refine hm.heap b o ?_ (Heap.get?_push_of_some _ (Heap.get?_push_of_some _ e))
    rw[sz];intro z
    rcases List.mem_cons.mp z with z|z
    ·exact absurd z (yao hb')
    ·exact absurd (ms_.mp z) (yao (yb3 hb'))
   ·cases rK with
    |error e=>exact hr2
    | ok fl2=>
     cases fl2 with
     |ret r=>
      obtain⟨rfl,h',tk,rfl,hS',hk'⟩:=hr2
      repeat (any_goals (first|assumption|wp_step))
      exact h _ _ hS' hk'
     |_=>exact hr2.elim
  |_=>exact hr.elim
end
end L2.St
set_option maxHeartbeats 3200000
namespace L2.St
open PySem
theorem uK:Slot "set_iterator" "__next__" "set_iterator.__next__":=.of (owner:="set_iterator") (n:="__next__") (by rw[ycf,ybz];kernel_rfl) (by decide +kernel) (by decide +kernel) (by decide +kernel) (by first|exact .inl (by decide +kernel)|exact .inr (by decide +kernel)) (by rw[ycr];kernel_rfl)
theorem qet:Slot "set_iterator" "__iter__" "set_iterator.__iter__":=.of (owner:="set_iterator") (n:="__iter__") (by rw[ycf,ybz];kernel_rfl) (by decide +kernel) (by decide +kernel) (by decide +kernel) (by first|exact .inl (by decide +kernel)|exact .inr (by decide +kernel)) (by rw[ycr];kernel_rfl)
theorem qeu:yeY table "set_iterator.__next__"=some yaX.«set_iterator.__next__»:=entryFor_of_tree (by kernel_rfl)
theorem qkk:yeY table "set_iterator.__iter__"=some yaX.«dict_keyiterator.__iter__»:=yfF (id':="dict_keyiterator.__iter__") (by kernel_rfl) rfl (by decide +kernel) (by kernel_rfl)
theorem qph:yeY table "set.__iter__"=some yaX.«frozenset.__iter__»:=yfF (id':="frozenset.__iter__") (by kernel_rfl) rfl (by decide +kernel) (by kernel_rfl)
theorem qev(a:Value):ycQ "set_iterator.__next__" ⟨[a],[]⟩:=by unfold ycQ;kernel_rfl
theorem qkl(a:Value):ycQ "set_iterator.__iter__" ⟨[a],[]⟩:=by unfold ycQ;kernel_rfl
theorem qbP {α:Type}:∀(l:List α)(i:Nat)(h:i<l.length),ydP (l[i]::l.eraseIdx i) l
 |a::l,0,h => .refl _
 |a::l,i+1,h=>by
  have ih:=qbP l i (Nat.lt_of_succ_lt_succ h)
  rw[List.eraseIdx_cons_succ,List.getElem_cons_succ]
  exact(List.Perm.swap _ _ _).trans (ih.cons _)
theorem qkm {α:Type} (nx:Nat->Nat):∀(f k:Nat)(left:List α)(out:Array α),left.length=f->ydP (ygn nx f k left out).toList (out.toList++left)
 |0,k,left,out,h=>by
  unfold ygn
  rw[List.length_eq_zero_iff.mp h,yaR]
 |f+1,k,left,out,h=>by
  unfold ygn
  have hl:nx k%left.length<left.length:=ycY _ (by omega)
  rw[gG hl]
  dsimp only
  refine(qkm nx f (k+1) _ _ (by rw[yey hl];omega)).trans ?_
  rw[ygE,aA_]
  exact List.Perm.append_left _ (qbP _ _ hl)
theorem qkn {α:Type} (nx:Nat->Nat) (xs:Array α):ydP (pickOrder nx xs).toList xs.toList:=by
 have h:=qkm nx xs.size 0 xs.toList #[] (ya1)
 exact h
section
variable{prog:yar}{w:World}{A:yau}{E:Value->yab->Prop}{s:yab}
theorem qew {M:Model} {src:Source} {n:Nat} {Q:Nat->yab->Prop} (hn:n≠0) (h:∀i d,i<n->Q i {s with drawn:=d}):wpAny M A (choose src n) Q E s :=
 λ_ _ _=>⟨hn,h _ _ (ycY _ (Nat.pos_of_ne_zero hn))⟩
theorem qfP {α:Type}:∀(n:Nat)(xs:List α)(s:yab){Q:List α->yab->Prop},xs.length=n->(∀ys d,ydP ys xs->Q ys {s with drawn:=d})->wpAny (model prog w) A (drawOrder n xs) Q E s
 |0,xs,s,Q,hn,h=>by
  have e:xs=[]:=List.length_eq_zero_iff.mp hn
  subst e
  unfold drawOrder
  exact yac (h [] s.drawn .nil)
 |n+1,[],s,Q,hn,h=>by cases hn
 |n+1,x::xs,s,Q,hn,h=>by
  unfold drawOrder
  refine yaa (qew (by simp) λi d hi=>?_)
  rw[gG hi]
  dsimp only
  refine yaa (qfP n _ _ (by rw[yey hi];omega) λys d' hp=>yac ?_)
  exact h _ d' ((List.Perm.cons _ hp).trans (qbP _ _ hi))
end
end L2.St
set_option maxHeartbeats 3200000
namespace L2.St
open PySem
def qgR(h:Heap)(I S:Addr)(f:Value)(i n ep:Nat):Prop:=∃o,h.get? I=some o/\o.cls=.type "set_iterator"/\o.data=.fields #[f,.int i 0,.ref S,.int n 0,.int ep 0]
theorem qgR.ty{s:yab}{I S:Addr}{f:Value}{i n ep:Nat}(x:qgR s.heap I S f i n ep):s.TypeIs (.ref I) "set_iterator":=let ⟨o,h,c,_⟩:=x;⟨o,h,c⟩
theorem qgR.keep{h h':Heap}{I S:Addr}{f:Value}{i n ep:Nat}(x:qgR h I S f i n ep)(k:∀o,h.get? I=some o->h'.get? I=some o):qgR h' I S f i n ep:=let ⟨o,h,c⟩:=x;⟨o,k o h,c⟩
section
variable{prog:yar}{w:World}{A:yau}{E:Value->yab->Prop}{s:yab}{I S:Addr}{o:Obj}{es:Array (Int×Value)}{ep:Nat}{t:ycj}
theorem qby {h:Heap} {f:Value} {i n:Nat} (x:qgR h I S f i n ep) (j:Nat) (v:Value):∃o',(h.update I (yb5 (·.setIfInBounds j v))).get? I=some o'/\o'.cls=.type "set_iterator"/\o'.data=.fields (#[f,.int i 0,.ref S,.int n 0,.int ep 0].setIfInBounds j v):=by
 obtain⟨o,h1,c,d⟩:=x
 exact⟨_,Heap.get?_update_self _ h1 (yfB (yc9 d _)),(ygx ..).trans c,yc9 d _⟩
theorem qmu {i sl nx:Nat} {x:Value} {Q:Option Value->yab->Prop} (hit:qgR s.heap I S (.int sl 0) i es.size ep) (ho:s.heap.get? S=some o) (hd:o.data=.set es ep t) (hf:t.fits es.size=true)
  (hn:∀(E':Value->yab->Prop)(Q':Option (Value×Nat)->yab->Prop),Q' (some (x,nx)) s->wpAny (model prog w) A.in1 (yed S sl i ep) Q' E' s)
  (hQ:∀h',qgR h' I S (.int nx 0) (i+1) es.size ep->ybK I s.heap h'->Q (some x) {s with heap:=h' }):wpAny (model prog w) A (yck (.ref I)) Q E s:=by
 have hT:=hit.ty (s:=s)
 obtain⟨oi,hoi,hc,hdi⟩:=id hit
 unfold yck
 refine yaa (yb4 (wpAny_callSpecial?_slot (name:=ybd "__next__") hT uK (yaH uK hT qeu ?_ (qev _))))
 unfold yaX.«set_iterator.__next__»
 refine yaa (yac ?_)
 refine yaa (yee hoi hdi ?_)
 dsimp only
 refine yaa (ycy ho hd hf ?_)
 rw[if_neg (by simp)]
 refine yaa (hn _ _ ?_)
 dsimp only
 obtain⟨o1,g1,c1,d1⟩:=qby hit 0 (.int nx 0)
 refine yaa (yb7 hoi hdi (by simp) ?_)
 have it1:qgR (s.heap.update I (yb5 (·.setIfInBounds 0 (.int nx 0)))) I S (.int nx 0) i es.size ep:=⟨o1,g1,c1,d1⟩
 obtain⟨o2,g2,c2,d2⟩:=qby it1 1 (.int ((i:Int)+1) 0)
 refine yaa (yb7 g1 d1 (by simp) ?_)
 refine yac ⟨x,rfl,yac (hQ _ ⟨o2,g2,c2,d2⟩ ((yaQ ..).trans (yaQ ..)))⟩
theorem qmv {i p:Nat} {T:Addr} {oT:Obj} {ps:Array Value} {c:Nat} {k:Int} {x:Value} {Q:Option Value->yab->Prop} (hit:qgR s.heap I S (.ref T) i es.size ep) (ho:s.heap.get? S=some o) (hd:o.data=.set es ep t) (hf:t.fits es.size=true)
  (hT1:s.heap.get? T=some oT) (hT2:oT.data=.seq ps c) (hp:ps[i]? = some (.int p 0)) (hx:es[p]? = some (k,x))
  (hQ:∀h',qgR h' I S (.ref T) (i+1) es.size ep->ybK I s.heap h'->Q (some x) {s with heap:=h' }):wpAny (model prog w) A (yck (.ref I)) Q E s:=by
 have hT:=hit.ty (s:=s)
 obtain⟨oi,hoi,hc,hdi⟩:=id hit
 unfold yck
 refine yaa (yb4 (wpAny_callSpecial?_slot (name:=ybd "__next__") hT uK (yaH uK hT qeu ?_ (qev _))))
 unfold yaX.«set_iterator.__next__»
 refine yaa (yac (yaa (yee hoi hdi ?_)))
 dsimp only
 refine yaa (ycy ho hd hf ?_)
 rw[if_neg (by simp)]
 refine yaa (yaE hT1 hT2 ?_)
 simp only[ybj,hp]
 unfold setNextDrawn
 refine yaa (yaa (ycl ho hd hf ?_))
 dsimp only
 rw[if_neg (by simp),hx]
 refine yac ?_
 obtain⟨o2,g2,c2,d2⟩:=qby hit 1 (.int ((i:Int)+1) 0)
 refine yaa (yb7 hoi hdi (by simp) ?_)
 exact yac ⟨x,rfl,yac (hQ _ ⟨o2,g2,c2,d2⟩ (yaQ ..))⟩
theorem qdP {α:Type} {Q:α->yab->Prop} (hh:A.handled=none) (h:∀e h',yex {s with heap:=h' } e "StopIteration"->(∀b o,s.heap.get? b=some o->h'.get? b=some o)->E e {s with heap:=h' }) :
  wpAny (model prog w) A (ygg (.type "StopIteration") [] >>= λe=>ygP e) Q E s:=by
 refine yaa ?_
 simp only[ygg,newTuple]
 refine yaa (yay ?_ (by size_fits))
 refine yaa (m:=ycP _ _) (ybC (a:=yaM) (by first|rfl|(simp only[ycP];rfl)) (yay ?_ (by size_fits)))
 simp only[ygP]
 refine yaa (yfU ?_)
 rw[hh]
 refine yaa (yac (ygL ?_))
 refine h _ _ ?_ λb o e=>Heap.get?_push_of_some _ (Heap.get?_push_of_some _ e)
 exact⟨_,Heap.get?_push_size _ rfl,rfl⟩
theorem qpi {i sl:Nat} {Q:Option Value->yab->Prop} (hh:A.handled=none) (hit:qgR s.heap I S (.int sl 0) i es.size ep) (ho:s.heap.get? S=some o) (hd:o.data=.set es ep t) (hf:t.fits es.size=true)
  (hn:∀(E':Value->yab->Prop)(Q':Option (Value×Nat)->yab->Prop),Q' none s->wpAny (model prog w) A.in1 (yed S sl i ep) Q' E' s)
  (hQ:∀h',(∀b o,b≠I->s.heap.get? b=some o->h'.get? b=some o)->Q none {s with heap:=h' }):wpAny (model prog w) A (yck (.ref I)) Q E s:=by
 have hT:=hit.ty (s:=s)
 obtain⟨oi,hoi,hc,hdi⟩:=id hit
 unfold yck
 refine yaa (yb4 (wpAny_callSpecial?_slot (name:=ybd "__next__") hT uK (yaH uK hT qeu ?_ (qev _))))
 unfold yaX.«set_iterator.__next__»
 refine yaa (yac (yaa (yee hoi hdi ?_)))
 dsimp only
 refine yaa (ycy ho hd hf ?_)
 rw[if_neg (by simp)]
 refine yaa (hn _ _ ?_)
 dsimp only
 refine yaa (yb7 hoi hdi (by simp) ?_)
 have sb:=yaQ s.heap I (yb5 (·.setIfInBounds 2 yaM))
 refine qdP (s:={s with heap:=s.heap.update I (yb5 (·.setIfInBounds 2 yaM))}) hh λe h' ty k=>?_
 exact yaa (ycw (b:=true) ty yec (yac (hQ h' λb o hb q=>k b o ((sb.2 b hb).trans q))))
theorem qpj {i:Nat} {T:Addr} {oT:Obj} {ps:Array Value} {c:Nat} {Q:Option Value->yab->Prop} (hh:A.handled=none) (hit:qgR s.heap I S (.ref T) i es.size ep) (ho:s.heap.get? S=some o) (hd:o.data=.set es ep t) (hf:t.fits es.size=true)
  (hT1:s.heap.get? T=some oT) (hT2:oT.data=.seq ps c) (hp:ps[i]? = none)
  (hQ:∀h',(∀b o,b≠I->s.heap.get? b=some o->h'.get? b=some o)->Q none {s with heap:=h' }):wpAny (model prog w) A (yck (.ref I)) Q E s:=by
 have hT:=hit.ty (s:=s)
 obtain⟨oi,hoi,hc,hdi⟩:=id hit
 unfold yck
 refine yaa (yb4 (wpAny_callSpecial?_slot (name:=ybd "__next__") hT uK (yaH uK hT qeu ?_ (qev _))))
 unfold yaX.«set_iterator.__next__»
 refine yaa (yac (yaa (yee hoi hdi ?_)))
 dsimp only
 refine yaa (ycy ho hd hf ?_)
 rw[if_neg (by simp)]
 refine yaa (yaE hT1 hT2 ?_)
 simp only[ybj,hp]
 obtain⟨o1,g1,c1,d1⟩:=qby hit 0 (.int 0 0)
 refine yaa (yb7 hoi hdi (by simp) ?_)
 refine yaa (yb7 g1 d1 (by simp) ?_)
 have sb:=(yaQ s.heap I (yb5 (·.setIfInBounds 0 (ybm 0)))).trans (yaQ (s.heap.update I (yb5 (·.setIfInBounds 0 (ybm 0)))) I (yb5 (·.setIfInBounds 2 yaM)))
 refine qdP (s:={s with heap:=(s.heap.update I (yb5 (·.setIfInBounds 0 (ybm 0)))).update I (yb5 (·.setIfInBounds 2 yaM))}) hh λe h' ty k=>?_
 exact yaa (ycw (b:=true) ty yec (yac (hQ h' λb o hb q=>k b o ((sb.2 b hb).trans q))))
end
end L2.St
set_option maxHeartbeats 3200000
namespace L2.St
open PySem
section
variable{prog:yar}{w:World}{A:yau}{E:Value->yab->Prop}{s:yab}{I S:Addr}{o:Obj}{es:Array (Int×Value)}{ep:Nat}{t:ycj}
theorem qex {Q:Bool->yab->Prop} (h:Q (w.params.followText "set-order") s):wpAny (model prog w) A setsByText Q E s:=by
 unfold setsByText
 exact yaa (ye1 (yac h))
theorem qsS {sl i:Nat} {Q:Option (Value×Nat)->yab->Prop} (hb:w.params.followText "set-order"=true) (ho:s.heap.get? S=some o) (hd:o.data=.set es ep t) (hf:t.fits es.size=true)
  (h:Q (((pickOrder (w.params.setOrder S ep) es)[i]?).map λe=>(e.2,sl)) s):wpAny (model prog w) A (yed S sl i ep) Q E s:=by
 unfold yed
 refine yaa (ycl ho hd hf (yaa (qex ?_)))
 rw[hb]
 dsimp only
 rw[if_pos rfl,if_neg (by simp)]
 unfold setWalk
 refine yaa (yaa (ycl ho hd hf (yaa (qex ?_))))
 rw[hb,if_pos rfl]
 exact yaa (ye1 (yac (yac h)))
theorem qsT {sl i:Nat} {Q:Option (Value×Nat)->yab->Prop} (hb:w.params.followText "set-order"=false) (hl:t.led=true) (hp:(!t.plain&&decide (es.size>1))=false) (ho:s.heap.get? S=some o) (hd:o.data=.set es ep t) (hf:t.fits es.size=true)
  (h:Q (match es[yaK t.place sl]?,t.place[yaK t.place sl]? with|some (_,x),some j=>some (x,j+1)|_,_=>none) s):wpAny (model prog w) A (yed S sl i ep) Q E s:=by
 unfold yed
 refine yaa (ycl ho hd hf (yaa (qex ?_)))
 rw[hb]
 dsimp only
 rw[if_neg (by decide)]
 show wpAny _ _ (if(!t.plain&&decide (es.size>1))=true then _ else _) _ _ _
 rw[hp,if_neg (by decide)]
 show wpAny _ _ ((if(!t.led && !es.isEmpty)=true then unsupported "set:maker-not-led" else pure ()) >>= _) _ _ _
 rw[hl,if_neg (by simp)]
 exact yaa (yac (yac h))
theorem qmw {f:Nat->Nat} {vs:List Value} (hh:A.handled=none) (hne:S≠I) (hd:o.data=.set es ep t) (hf:t.fits es.size=true) (hlen:vs.length=es.size)
  (hn:∀(A':yau)(i:Nat)(s:yab)(E':Value->yab->Prop)(Q':Option (Value×Nat)->yab->Prop),s.heap.get? S=some o->i<=vs.length->Q' ((vs[i]?).map λx=>(x,f (i+1))) s->wpAny (model prog w) A' (yed S (f i) i ep) Q' E' s) :
  WalksS prog w A I [I,S] [I] (λa b=>b=a) vs.length (λi v=>vs[i]? = some v) (λi s=>qgR s.heap I S (.int (f i) 0) i es.size ep/\s.heap.get? S=some o) where
 sub:=λb hb=>by rw[ms_.mp hb];exact mS_
 grefl:=λ_=>rfl
 gtrans:=λ_ _ _ a b=>b.trans a
 frame:=λi s h' tk st _ k=>⟨st.1.keep (k I (by simp)),k S (by simp) _ st.2⟩
 item:=λi s Q E hi st hQ=>by
  have e:vs[i]? = some vs[i]:=gG hi
  refine qmu (x:=vs[i]) (nx:=f (i+1)) st.1 st.2 hd hf (λE' Q' q=>hn _ i s E' Q' st.2 (ycM hi) (by rw[e];exact q)) λh' it sb=>?_
  exact hQ _ _ e ⟨it,(sb.2 S hne).trans st.2⟩ ⟨λb o hb q=>(sb.2 b λz=>hb (by rw[z];exact mS_)).trans q,rfl,rfl,rfl,yah _⟩
 done:=λs Q E st hQ=>by
  refine qpi hh st.1 st.2 hd hf (λE' Q' q=>hn _ _ s E' Q' st.2 (yah _) (by rw[List.getElem?_eq_none (yah _)];exact q)) λh' k=>?_
  exact hQ _ ⟨λb o hb q=>k b o (λz=>hb (by rw[z];exact mS_)) q,rfl,rfl,rfl,yah _⟩
 self:=λi s Q E st hQ=>by
  have hT:=st.1.ty (s:=s)
  refine ydq hT qet (yaH qet hT qkk ?_ (qkl _))
  show wpAny _ _ (ret (.ref I)) _ _ s
  exact yac ⟨_,rfl,"set_iterator",_,hT,uK.lookup,hQ⟩
theorem qmx {T:Addr} {oT:Obj} {c:Nat} {ps:List Nat} {vs:List Value} (hh:A.handled=none) (hne:S≠I) (hnT:T≠I) (hd:o.data=.set es ep t) (hf:t.fits es.size=true) (hT2:oT.data=.seq (ps.map λ(i:Nat)=>ybm i).toArray c)
  (hlen:ps.length=vs.length) (hv:∀i p:Nat,ps[i]? = some p->∃k x,es[p]? = some (k,x)/\vs[i]? = some x) :
  WalksS prog w A I [I,S,T] [I] (λa b=>b=a) vs.length (λi v=>vs[i]? = some v) (λi s=>qgR s.heap I S (.ref T) i es.size ep/\s.heap.get? S=some o/\s.heap.get? T=some oT) where
 sub:=λb hb=>by rw[ms_.mp hb];exact mS_
 grefl:=λ_=>rfl
 gtrans:=λ_ _ _ a b=>b.trans a
 frame:=λi s h' tk st _ k=>⟨st.1.keep (k I (by simp)),k S (by simp) _ st.2.1,k T (by simp) _ st.2.2⟩
 item:=λi s Q E hi st hQ=>by
  have e:ps[i]? = some (ps[i]'(by omega)):=gG (by omega)
  obtain⟨k,x,e1,e2⟩:=hv i _ e
  refine qmv (p:=ps[i]'(by omega)) (x:=x) st.1 st.2.1 hd hf st.2.2 hT2 (by rw[List.getElem?_toArray,gM_,e];rfl) e1 λh' it sb=>?_
  exact hQ _ _ e2 ⟨it,(sb.2 S hne).trans st.2.1,(sb.2 T hnT).trans st.2.2⟩ ⟨λb o hb q=>(sb.2 b λz=>hb (by rw[z];exact mS_)).trans q,rfl,rfl,rfl,yah _⟩
 done:=λs Q E st hQ=>by
  refine qpj hh st.1 st.2.1 hd hf st.2.2 hT2 (by rw[List.getElem?_toArray,gM_,List.getElem?_eq_none (by omega)];rfl) λh' k=>?_
  exact hQ _ ⟨λb o hb q=>k b o (λz=>hb (by rw[z];exact mS_)) q,rfl,rfl,rfl,yah _⟩
 self:=λi s Q E st hQ=>by
  have hT:=st.1.ty (s:=s)
  refine ydq hT qet (yaH qet hT qkk ?_ (qkl _))
  show wpAny _ _ (ret (.ref I)) _ _ s
  exact yac ⟨_,rfl,"set_iterator",_,hT,uK.lookup,hQ⟩
end
end L2.St
set_option maxHeartbeats 3200000
namespace L2.St
open PySem
theorem qfQ {es:List (Int×Value)} {prog:yar} {w:World} (hel:ygq (ycz prog w) es):∀{vs:List Value},ydP vs (es.map (·.2))->∃ns,ybX vs ns/\ns.Perm (es.map qlh):=by
 have h1:∀{vs:List Value},(∀v∈vs,∃k t,v=.int k t)->∃ns,ybX vs ns/\ns=vs.map λv=>qlh (0,v):=by
  intro vs
  induction vs with
  |nil=>intro _;exact⟨[],.nil,rfl⟩
  |cons v vs ih=>
   intro h
   obtain⟨k,t,rfl⟩:=h v mS_
   obtain⟨ns,a,b⟩:=ih λv hv=>h v (mM _ hv)
   exact⟨k::ns,.cons k t a,by rw[b];rfl⟩
 intro vs p
 obtain ⟨ns,a,rfl⟩:=h1 (vs:=vs) (λv hv=>by
  obtain⟨e,he,rfl⟩:=mP_.mp (p.mem_iff.mp hv)
  obtain⟨⟨k,hk,_⟩,_⟩:=hel e he
  obtain⟨t,q⟩:=yeB hk
  exact⟨k,t,q⟩)
 refine⟨_,a,(p.map _).trans ?_⟩
 rw[mm_]
 exact List.Perm.refl _
def qrn (prog:yar) (w:World) (S:Addr) (n0:Nat) (σ:List Int) (I:Addr) (s:yab):Prop :=
 ∃(vs:List Value)(ns:List Int)(fp:List Addr)(St:Nat->yab->Prop),ybX vs ns/\ns.Perm σ/\(∀A':yau,A'.handled=none->WalksS prog w A' I fp [I] (λa b=>b=a) vs.length (λi v=>vs[i]? = some v) St)/\St 0 s/\(∀b∈fp,b=S\/n0<=b)/\n0<=I/\∀s' i,St i s'->s'.TypeIs (.ref I) "set_iterator"
section
variable{prog:yar}{w:World}{A:yau}{E:Value->yab->Prop}{s:yab}{S:Addr}{σ:List Int}
theorem qmy {Q:Value->yab->Prop} (hb:σ.length<1000) (hS:qbx prog w (qnR w) s.heap S σ) (hQ:∀I h' d,qrn prog w S s.heap.objs.size σ I {s with heap:=h',drawn:=d}->(∀b o,s.heap.get? b=some o->h'.get? b=some o)->Q (.ref I) {s with heap:=h',drawn:=d}) :
  wpAny (model prog w) A (yf4 (.ref S)) Q E s:=by
 obtain⟨o,es,ep,t,ho,hex,hd,hel,hp,hf,g⟩:=hS
 have hT:s.TypeIs (.ref S) "set":=⟨o,ho,hex.1⟩
 have hlt:S<s.heap.objs.size:=yae ho
 refine ydq hT F.slot_set_iter (yaH F.slot_set_iter hT qph ?_ (F.args_set_iter_1 _))
 unfold yaX.«frozenset.__iter__»
 refine yaa (m:=Builtin.Frozenset.slot0 "__iter__" ⟨[.ref S],[]⟩) (yac ?_)
 unfold Builtin.Frozenset.sizeOf
 refine yaa (yaa (ycy ho hd hf (yac ?_)))
 unfold setDrawn
 refine yaa (yaa (ycl ho hd hf (yaa (qex (yac ?_)))))
 show wpAny _ _ (if(!(w.params.followText "set-order")&&(!t.plain&&decide (es.size>1)))=true then _ else _) _ _ _
 by_cases hdr:(!(w.params.followText "set-order")&&(!t.plain&&decide (es.size>1)))=true
 ·rw [if_pos hdr]
  refine yaa (qfP es.size (yag es.size) s lR_ λys d hy=>?_)
  have hz:=qgQ hp
  refine yaa (wpAny_newTuple ?_ (by rw[lM_,hy.length_eq,lR_,ybA];omega))
  refine yaa (ygG (Heap.get?_push_of_some _ ho) hd hf ?_)
  unfold newFields
  refine yaa (yay (yac ⟨_,rfl,"set_iterator",_,⟨_,Heap.get?_push_size _ rfl,rfl⟩,uK.lookup,?_⟩))
  have sz:∀ob:Obj,(s.heap.push ob).objs.size=s.heap.objs.size+1:=λob=>yaN _ _
  have l1:∀p∈ys,p<es.size:=λp h=>mR_.mp (hy.mem_iff.mp h)
  have pv:ydP (ys.map λp=>(es.toList.map (·.2)).getD p yaM) (es.toList.map (·.2)):=by
   refine(hy.map _).trans ?_
   have:=Srt.map_getD_range yaM (es.toList.map (·.2))
   rw[lM_,ya1]at this
   rw[this]
  obtain⟨ns,a1,a2⟩:=qfQ hel pv
  refine hQ _ _ _ ⟨_,ns,_,_,a1,a2.trans hp,λA' hh=>qmx (T:=s.heap.objs.size) (ps:=ys) (o:=o) (t:=t) hh ?_ ?_ hd hf (oT:={cls:=.type "tuple",data:=.seq (ys.map λ(i:Nat)=>ybm i).toArray}) rfl (by rw[lM_]) λi p e=>?_,⟨⟨_,Heap.get?_push_size _ rfl,rfl,rfl⟩,Heap.get?_push_of_some _ (Heap.get?_push_of_some _ ho),Heap.get?_push_of_some _ (Heap.get?_push_size _ rfl)⟩,?_,?_,λs' i st=>st.1.ty⟩ λb o e=>Heap.get?_push_of_some _ (Heap.get?_push_of_some _ e)
  ·rw[sz];exact yao (yb3 hlt)
  ·rw[sz];exact yao (ydH _)
  ·have hp':=l1 p (ybt e)
   refine⟨es[p].1,es[p].2,Array.getElem?_eq_getElem hp',?_⟩
   rw[gM_,e,ybg,List.getD_eq_getElem?_getD,gM_,Array.getElem?_toList,Array.getElem?_eq_getElem hp']
   rfl
  ·intro b hb
   rw[sz]at hb
   rcases List.mem_cons.mp hb with rfl|hb
   ·exact .inr (ybw _)
   ·rcases List.mem_cons.mp hb with rfl|hb
    ·exact .inl rfl
    ·rw[ms_.mp hb];exact .inr (yah _)
  ·rw[sz];exact ybw _
 ·rw [if_neg hdr]
  refine yaa (yac (yaa (ygG ho hd hf ?_)))
  unfold newFields
  refine yaa (yay (yac ⟨_,rfl,"set_iterator",_,⟨_,Heap.get?_push_size _ rfl,rfl⟩,uK.lookup,?_⟩))
  have fin:∀(f:Nat->Nat)(vs:List Value),f 0=0->ydP vs (es.toList.map (·.2))->(∀(A':yau)(i:Nat)(s:yab)(E':Value->yab->Prop)(Q':Option (Value×Nat)->yab->Prop),s.heap.get? S=some o->i<=vs.length->Q' ((vs[i]?).map λx=>(x,f (i+1))) s->wpAny (model prog w) A' (yed S (f i) i ep) Q' E' s) ->
    Q (.ref s.heap.objs.size) {s with heap:=s.heap.push {cls:=.type "set_iterator",data:=.fields [ybm 0,ybm 0,.ref S,ybm es.size,ybm ep].toArray} }:=λf vs f0 pv hn=>by
   obtain⟨ns,a1,a2⟩:=qfQ hel pv
   have hlen:vs.length=es.size:=by rw[pv.length_eq,lM_,ya1]
   refine hQ _ _ s.drawn ⟨vs,ns,_,_,a1,a2.trans hp,λA' hh=>qmw (o:=o) (t:=t) (f:=f) hh (yao hlt) hd hf hlen hn,⟨⟨_,Heap.get?_push_size _ rfl,rfl,by rw[f0];rfl⟩,Heap.get?_push_of_some _ ho⟩,?_,yah _,λs' i st=>st.1.ty⟩ λb o e=>Heap.get?_push_of_some _ e
   intro b hb
   rcases List.mem_cons.mp hb with rfl|hb
   ·exact .inr (yah _)
   ·exact .inl (ms_.mp hb)
  cases hbt:w.params.followText "set-order" with
  |true=>
   refine fin (λ_=>0) ((pickOrder (w.params.setOrder S ep) es).toList.map (·.2)) rfl ((qkn _ _).map _) λA' i s' E' Q' ho' hi hq=>?_
   refine qsS hbt ho' hd hf ?_
   rw[gM_,Array.getElem?_toList,Option.map_map]at hq
   exact hq
  | false=>
   have hl:t.led=true:=by rw[g.1];unfold qnR;rw[hbt];rfl
   rw[hbt,yfG,ybu,Bool.not_eq_true]at hdr
   have hpl:t.place.size=es.size:=by
    simp only[SetTable.fits,yan,beq_iff_eq]at hf
    exact hf.1
   have rs:qlg t.place:=by
    cases hpn:t.plain with
    |true=>exact g.2 hpn
    |false=>
     rw[hpn,yfG,ybu,decide_eq_false_iff_not]at hdr
     intro i j u v hij hu hv
     have:t.place[j]? = none:=Array.getElem?_eq_none (by omega)
     rw[this]at hv;cases hv
   refine fin (λi=>if i=0 then 0 else t.place.getD (i-1) 0+1) (es.toList.map (·.2)) rfl (.refl _) λA' i s' E' Q' ho' hi hq=>?_
   refine qsT hbt hl hdr ho' hd hf ?_
   have eb:yaK t.place (if i=0 then 0 else t.place.getD (i-1) 0+1)=i:=by
    by_cases z:i=0
    ·subst z;exact qiG rs
    ·rw[if_neg z]
     rw[lM_,ya1]at hi
     have hs:i-1<t.place.size:=by omega
     have q:=Array.getElem?_eq_getElem hs
     rw[ycT,q]
     have:=qiH rs q
     rw[show i-1+1=i by omega]at this
     exact this
   rw[eb]
   rw[gM_,Array.getElem?_toList,if_neg (Nat.succ_ne_zero i),Nat.add_sub_cancel]at hq
   by_cases z:i<es.size
   ·have q:=Array.getElem?_eq_getElem (show i<t.place.size by omega)
    rw[Array.getElem?_eq_getElem z,q]
    rw[Array.getElem?_eq_getElem z,ycT,q]at hq
    exact hq
   ·rw[Array.getElem?_eq_none (by omega)]
    rw[Array.getElem?_eq_none (by omega)]at hq
    exact hq
theorem collect_set {Q:List Value->yab->Prop} (hh:A.handled=none) (hb:σ.length<1000) (hS:qbx prog w (qnR w) s.heap S σ)
  (hQ:∀vs ns h' d tk,ybX vs ns->ns.Perm σ->(∀b o,s.heap.get? b=some o->h'.get? b=some o)->Q vs {s with heap:=h',drawn:=d,toks:=tk}):wpAny (model prog w) A (collect (.ref S)) Q E s:=by
 have hlt:S<s.heap.objs.size:=by obtain⟨o,_,_,_,ho,_⟩:=hS;exact yae ho
 have kp:∀(ob:Obj) b o,s.heap.get? b=some o->(s.heap.push ob).get? b=some o:=λob b o e=>Heap.get?_push_of_some _ e
 unfold collect
 refine yaa (wpAny_runValue (yaI F.entry_proto_collect ?_))
 rw[yaB F.plain_proto_collect _]
 show wpAny (model prog w) A.in1 (newList [] >>= λl=>again (.builtin "list.__iadd__" ⟨[l,.ref S],[]⟩)) _ _ s
 refine yaa (yay (yac ⟨yaO ygH _,yaI F.entry_list_iadd ?_⟩))
 rw[yaB ygH _]
 have hS1:=hS.keep (h':=s.heap.push {cls:=.type "list",data:=.seq ([]:List Value).toArray}) λo=>kp _ S o
 have hT:yex {s with heap:=s.heap.push {cls:=.type "list",data:=.seq ([]:List Value).toArray} } (.ref S) "set":=by obtain⟨o,_,_,_,ho,hex,_⟩:=hS1;exact⟨o,ho,hex.1⟩
 show wpAny (model prog w) A.in1 (yen (.ref s.heap.objs.size) (.ref S) (.ref s.heap.objs.size)) _ _ _
 unfold yen
 refine yaa (ydZ hT ?_)
 have h1:ye2 (.ref s.heap.objs.size) (.ref S)=false:=by
  simp only[ye2,beq_eq_false_iff_ne,ne_eq]
  exact ybL hlt
 rw[if_neg (by rw[h1];decide)]
 refine yaa (qmy (s:={s with heap:=s.heap.push {cls:=.type "list",data:=.seq ([]:List Value).toArray} }) hb hS1 λI h2 d W k2=>?_)
 have hT2:yex {s with heap:=h2,drawn:=d} (.ref S) "set":=by obtain⟨o,_,_,_,ho,hex,_⟩:=hS1;exact⟨o,k2 S o ho,hex.1⟩
 have hsp:splitId "set.__len__"=some ("set","__len__"):=by decide +kernel
 refine yaa (ya2 ?_)
 unfold Builtin.List.listLengthHint
 refine yaa (wpAny_specialOf hT2 F.slot_set_len.lookup ?_)
 dsimp only
 rw[hsp]
 dsimp only
 refine yaa (ycw (b:=true) hT2 (by rw[ycr];kernel_rfl) ?_)
 rw[if_neg (by decide),if_pos (by decide +kernel)]
 refine yaa (ydZ hT2 ?_)
 dsimp only
 refine yac ?_
 rw[if_pos (by decide +kernel)]
 refine yaa (yca ?_)
 obtain⟨vs,ns,fp,St,hI,hP,hW,st,hfp,hIn,hty⟩:=W
 have g0:h2.get? s.heap.objs.size=some (PyProof.Rows.seqObj "list" #[] 0):=k2 _ _ (Heap.get?_push_size _ rfl)
 unfold Builtin.List.listTouch
 refine yaa (yaa (yez (xs := #[]) (n:=0) g0 rfl ?_ (ybB _) (by rw[ybA];decide)))
 have g1:=PyProof.Rows.get?_update_seq g0 λa=>a.push yaM
 refine yez g1 rfl ?_ (by rw[ybA];decide) (by rw[ybA];decide)
 have g2:=PyProof.Rows.get?_update_seq g1 λa=>a.pop
 have sb:=(yaQ h2 s.heap.objs.size (yco λa=>a.push yaM)).trans (yaQ (h2.update s.heap.objs.size (yco λa=>a.push yaM)) s.heap.objs.size (yco λa=>a.pop))
 generalize (h2.update s.heap.objs.size (yco λa=>a.push yaM)).update s.heap.objs.size (yco λa=>a.pop)=h3 at g2 sb
 have hz:vs.length=σ.length:=by rw[<-ints_len hI,hP.length_eq]
 have sz:(s.heap.push {cls:=.type "list",data:=.seq ([]:List Value).toArray}).objs.size=s.heap.objs.size+1:=yaN _ _
 have nf:s.heap.objs.size ∉ fp:=λh=>by
  rcases hfp _ h with z|z
  ·exact absurd z (ybL hlt)
  ·have z:s.heap.objs.size+1<=s.heap.objs.size:=by rw[<-sz];exact z
   exact absurd z (Nat.not_succ_le_self _)
 have st3:=(hW A.in1 hh).frame 0 _ h3 s.toks st (yah _) λb hb o e=>(sb.2 b λz=>nf (z▸hb)).trans e
 refine yac ⟨yaO F.plain_extend_loop _,codeAny_extend_loopS (hW A.in1 hh) (by rw[ybA];omega) _ nf _ vs.length 0 _ _ _ (by omega) (ybB _) st3 g2 (ItemsOf.nil _) λs' acc c hm hS' hacc=>?_⟩
 show wpAny (model prog w) A (load s.heap.objs.size >>= _) _ _ s'
 refine yaa (wpAny_load hS' (yac ?_))
 have ea:acc.toList=vs:=by
  refine ygF λj=>?_
  rw[Array.getElem?_toList]
  by_cases c:j<vs.length
  ·have q:=Array.getElem?_eq_getElem (show j<acc.size by rw[hacc.1];exact c)
   rw[q];exact(hacc.2 j _ q).symm
  ·rw[Array.getElem?_eq_none (by rw[hacc.1];omega),List.getElem?_eq_none (by omega)]
 rw[ea]
 obtain⟨h',g',d',tk',os'⟩:=s'
 obtain rfl:g'=s.gens:=hm.gens
 obtain rfl:d'=d:=hm.drawn
 obtain rfl:os'=s.os:=hm.os
 refine hQ vs ns h' d' tk' hI hP λb o e=>hm.heap b o (λz=>?_) ((sb.2 b (yao (yae e))).trans (k2 b o (kp _ b o e)))
 have hb':=yae e
 rcases List.mem_cons.mp z with z|z
 ·exact absurd z (yao hb')
 ·rw[ms_.mp z]at hb'
  have q:s.heap.objs.size+1<=I:=by rw[<-sz];exact hIn
  exact absurd hb' (Nat.not_lt.mpr (Nat.le_of_succ_le q))
end
end L2.St
set_option maxHeartbeats 3200000
namespace L2
open PySem PySem.Spec PyProof.Rows
def qmz (k:Int):List Int->List Int
 | []=>[k]
 |a::l=>if k<=a then k::a::l else a::qmz k l
theorem qc0 (k:Int):∀l:List Int,(qmz k l).Perm (k::l)
 | [] => .refl _
 |a::l=>by
  unfold qmz
  split
  ·exact .refl _
  ·exact((qc0 k l).cons a).trans (.swap _ _ _)
theorem qfR (k:Int):∀l:List Int,l.Pairwise (·<=·)->(qmz k l).Pairwise (·<=·)
 | [],_=>by unfold qmz;exact List.pairwise_singleton _ _
 | a :: l,h=>by
  unfold qmz
  have h1:=List.pairwise_cons.mp h
  split
  ·rename_i c
   exact List.pairwise_cons.mpr ⟨λx hx=>by
    rcases List.mem_cons.mp hx with rfl|hx
    ·exact c
    ·exact ydb c (h1.1 x hx),h⟩
  ·rename_i c
   refine List.pairwise_cons.mpr ⟨λx hx=>?_,qfR k l h1.2⟩
   rcases List.mem_cons.mp ((qc0 k l).mem_iff.mp hx)with rfl|hx
   ·omega
   ·exact h1.1 x hx
def v6(ns:List Int):List Int:=(St.addL [] ns).foldr qmz []
theorem qbz:∀l:List Int,(l.foldr qmz []).Perm l
 | [] => .refl _
 |a::l=>(qc0 a _).trans ((qbz l).cons a)
theorem qc1:∀l:List Int,(l.foldr qmz []).Pairwise (·<=·)
 | [] => .nil
 |a::l=>qfR a _ (qc1 l)
theorem qmA {ns ms:List Int} (p:ms.Perm (St.addL [] ns)) (s:ms.Pairwise (·<=·)):ms=v6 ns :=
 List.Perm.eq_of_pairwise (le:=(·<=·)) (λa b _ _ h1 h2=>yff h1 h2) s (qc1 _) (p.trans (qbz _).symm)
theorem SS.keptD {X:Cx} {H0 H:Hp} {s0 s:yab} {h':Heap} (z:SS X H0 s0 H s) (k:∀b u,s.heap.get? b=some u->h'.get? b=some u) (tk:Nat) (d:Drawn):SS X H0 s0 H {s with heap:=h',toks:=tk,drawn:=d} :=
 ⟨z.os,z.bare,z.un.trans (Un.kept k),z.hok.kept k,z.same⟩
theorem qiJ {ns:List Int}:∀{us:List Value},ybJ us ns->zT (ns.map V.int) us:=by
 induction ns with
 |nil=>intro us h;cases h;exact .nil
 |cons n ns ih=>intro us h;cases h with|cons _ t r=>exact .cons ⟨t,rfl⟩ (ih r)
def tSS(K:yas)(te:TA):TE:=λσ H Q=>te σ H λvs H1=>∃(a:Addr)(ns:List Int),vs=[V.ref a]/\SqL K H1 a (ns.map V.int)/\(St.addL [] ns).length<64/\∀p H2,H1 p=none->yA H1 H2->H2 p=some (.lst ((v6 ns).map V.int))->Q (.ref p) H2
section
variable{X:Cx}{e:Expr}{pos:Pos}
theorem qpk {ta:TA} {p p1 q:Pos} (hc:X.calm=true) (hgl:Gl X "sorted") (hml:X.mg "sorted"=none) (hg:Gl X "set") (hm:X.mg "set"=none) (ha:PA X [e] ta) (hs:yam [e] X.env=(false,eval e X.env)::yam [] X.env:=by rfl)
  (he:yam [.Call (.Name "set" p1) [e] [] q] X.env=(false,eval (.Call (.Name "set" p1) [e] [] q) X.env)::yam [] X.env:=by rfl) (hpl:(ybb pos (yam [] X.env)).any (·.1)=false:=by rfl) (hpq:(ybb q (yam [] X.env)).any (·.1)=false:=by rfl) :
  PE X (.Call (.Name "sorted" p) [.Call (.Name "set" p1) [e] [] q] [] pos) (tSS X.K ta):=by
 intro pins s σ H Q I h
 refine ycD (wT I hgl hml PyProof.Rows.boot_sorted ?_)
 refine ydX ?_ he hpl
 rw[he]
 show wpAny _ _ (spliced ((false,eval (.Call (.Name "set" p1) [e] [] q) X.env)::ybb pos (yam [] X.env))) _ _ s
 refine yf6 ?_
 refine Call_ (wT I hg hm PyProof.Rows.boot_set (yaW (thn (ha q pins s σ H _ I h) λus s1 ⟨vs,H1,I1,r1,q1⟩=>?_) hs hpq))
 obtain⟨a,ns,rfl,hx,h64,fin⟩:=q1
 obtain⟨u,rfl,ru⟩:=zT.one r1
 cases (show u=yat a from ru)
 obtain⟨its,rv,pl,hz⟩:=I1.list hx
 have hh:X.A.handled=none:=I.ok.hd hc
 refine St.call_setL (ns:=ns) hh pl.isList (yV rv) (by omega) λh1 tk1 hS k1=>?_
 refine ygu ?_
 refine Calls.call_function_entry kind_sorted plain_sorted entry_sorted (args_sorted1 _) ?_
 unfold yaX.«sorted»
 refine yaa (m:=checkCount "sorted" 1 1 _) (yac (yaa (St.collect_set (s:={s1 with heap:=h1,toks:=tk1}) (by simp[hh]) (by omega) hS λvs ns' h2 d tk2 hI hP k2=>?_)))
 have hv:vs.length=(St.addL [] ns).length:=by rw[<-St.ints_len hI,hP.length_eq]
 refine yaa (wpAny_newList ?_ (by rw[ybA];omega))
 have hD:(h2.push (seqObj "list" vs.toArray 0)).get? h2.objs.size=some (seqObj "list" vs.toArray 0):=Heap.get?_push_size _ rfl
 refine yaa (ya2 (yaH slot_list_sort ⟨_,hD,rfl⟩ entry_list_sort (list_sort_tree hD hI (by omega) λout ms a1 a2 a3=>⟨_,rfl,?_⟩) (args_list_sort _)))
 refine yac ⟨_,rfl,?_⟩
 have em:ms=v6 ns:=qmA (a2.trans hP) a3
 subst em
 have keep:∀b o,s1.heap.get? b=some o->(sortedHeap (h2.push (seqObj "list" vs.toArray 0)) h2.objs.size vs out).get? b=some o:=λb o e=>by
  have e2:=k2 b o (k1 b o e)
  have hb:=yae e2
  rw[sortedHeap_old (yao hb) (by rw[yaN];exact yb3 hb)]
  exact Heap.get?_push_of_some _ e2
 have z0:=(SS.of I1).keptD keep tk2 d
 have hlo:s1.heap.objs.size<=h2.objs.size:=by
  obtain⟨o,_,_,_,ho,_⟩:=hS
  exact ycM (yae (k2 _ _ ho))
 have hS1:H1 h2.objs.size=none:=I1.hok.fresh hlo
 obtain⟨ee,hout⟩:=sortedHeap_at (n:=0) (out:=out) hD
 have z3:=Sk.ss_lay z0 (o:=.lst ((v6 ns).map V.int)) (T:=h2.objs.size) (Heap.get?_none_of_le hlo) hS1 ⟨by rw[lM_,v6,(qbz _).length_eq,ybA];omega,out.toList,ee,qiJ a1,by rw[Array.toArray_toList];exact hout⟩
 exact⟨.ref h2.objs.size,_,z3.inv I1,rfl,fin _ _ hS1 z3.same qz⟩
end
end L2
namespace L2.Sk
open PySem PySem.Spec PyProof.Rows
theorem qfS {K:Fr0} {A:Addr->Prop} {H:Hp}:∀ns:List Int,IsL K A H (ns.map D.int) (ns.map V.int)
 | []=>rfl
 |n::ns=>⟨.int n,_,rfl,rfl,qfS ns⟩
def qmB (f:M D):M D:=bnd f λd ρ=>match d with
 |.lst ds=>match vt ds with
  |some ns=>if(St.addL [] ns).length<64 then .ok (.lst ((v6 ns).map D.int),ρ)else .bad
  |none => .bad
 |_ => .bad
theorem qpl {f:M D} {ρ ρ1:Env} {ds:List D} {ns:List Int} (h:f ρ=.ok (.lst ds,ρ1)) (hi:vt ds=some ns) (hl:(St.addL [] ns).length<64):qmB f ρ=.ok (.lst ((v6 ns).map D.int),ρ1):=by
 unfold qmB bnd
 simp only[h,hi,hl,if_true]
section
variable{X:Cx}{c:Fc}{e:Expr}{pos:Pos}
theorem qpm {f:M D} {p p1 q:Pos} (he:DE X c e f) (hc:X.calm=true) (hgl:Gl X "sorted") (hml:X.mg "sorted"=none) (hg:Gl X "set") (hm:X.mg "set"=none) (hs:yam [e] X.env=(false,eval e X.env)::yam [] X.env:=by rfl)
  (hst:yam [.Call (.Name "set" p1) [e] [] q] X.env=(false,eval (.Call (.Name "set" p1) [e] [] q) X.env)::yam [] X.env:=by rfl) (hpl:(ybb pos (yam [] X.env)).any (·.1)=false:=by rfl) (hpq:(ybb q (yam [] X.env)).any (·.1)=false:=by rfl) :
  DE X c (.Call (.Name "sorted" p) [.Call (.Name "set" p1) [e] [] q] [] pos) (qmB f):=by
 obtain⟨te,pe,we⟩:=he
 refine⟨_,qpk hc hgl hml hg hm (wy pe qdH hs) hs hst hpl hpq,λρ σ H Q r h=>?_⟩
 refine we ρ σ H _ r (Wp.bnd h λd ρ1 v H1 r1 i1 g1 h1=>?_)
 cases d<;>try exact h1.elim
 rename_i ds
 cases hn:vt ds with
 |none=>simp only[hn]at h1;exact h1.elim
 |some ns=>
  simp only[hn]at h1
  by_cases hl:(St.addL [] ns).length<64
  case neg=>simp only[hl,if_false]at h1;exact h1.elim
  simp only[hl,if_true]at h1
  obtain⟨a,ys,rfl,hA,ta,il⟩:=i1
  have ey:=yg il hn
  subst ey
  exact⟨a,ns,rfl,.inl (.inl ta),hl,λp' H2 hp sm h2=>h1 _ H2 (r1.same sm) ⟨p',_,rfl,r1.new hp,h2,qfS _⟩ (.of_same sm)⟩
end
end L2.Sk
set_option maxHeartbeats 1000000
namespace L2.Sk
open PySem PySem.Spec PyProof.Rows
end L2.Sk
set_option maxHeartbeats 1000000
namespace L2.Sk
open PySem PySem.Spec PyProof.Rows
end L2.Sk
set_option maxHeartbeats 1000000
namespace L2.Sk
open PySem PySem.Spec PyProof.Rows
end L2.Sk
set_option maxHeartbeats 1000000
namespace L2
open PySem PySem.Spec PyProof.Rows
end L2
namespace L2.Sk
open PySem PySem.Spec PyProof.Rows
end L2.Sk
set_option maxHeartbeats 2000000
namespace L2.St
open PySem
end L2.St
namespace L2.Sk
open PySem PySem.Spec PyProof.Rows
end L2.Sk
set_option maxHeartbeats 2000000
namespace L2
open PySem PySem.Spec PyProof.Rows
end L2
set_option maxHeartbeats 1000000
namespace L2.Sk
open PySem PySem.Spec PyProof.Rows
end L2.Sk
set_option maxHeartbeats 1000000
namespace L2.Sk
open PySem PySem.Spec PyProof.Rows
end L2.Sk
set_option maxHeartbeats 1000000
namespace L2.Sk
open PySem PySem.Spec PyProof.Rows
end L2.Sk
namespace L2.Sk
namespace Law
open PySem PySem.Spec PyProof.Rows
set_option maxHeartbeats 4000000
theorem qko(ds:List D)(r:Env):yz 0 (some (.lst ds)::r)=some ds:=rfl
theorem qkp(i:Nat)(o:OD)(r:Env):yz (i+1) (o::r)=yz i r:=rfl
theorem ix0(a b c:D):ixD (.tup [a,b,c]) (.int 0)=some a:=rfl
theorem ix1(a b c:D):ixD (.tup [a,b,c]) (.int 1)=some b:=rfl
theorem ix2(a b c:D):ixD (.tup [a,b,c]) (.int 2)=some c:=rfl
theorem vO(i j:Int):neB (.int i) (.int j)=some (.bl (!decide (i=j))):=rfl
theorem qan(i j:Int):eqB (.int i) (.int j)=some (.bl (decide (i=j))):=rfl
theorem qa9(ds:List D):qgy (tyD (.tup ds)) "tuple"=true:=rfl
theorem wB(ds:List D):qbI [.tup ds]=some (.int ds.length):=rfl
theorem qcf(d:D):isN d .non=some (.bl (vy d)):=rfl
theorem qgS(d:D):qoA d .non=some (.bl (!vy d)):=rfl
theorem yY(i j:Int):gtD (.int i) (.int j)=some (.bl (decide (j<i))):=rfl
theorem qey(i j:Int):ltD (.int i) (.int j)=some (.bl (decide (i<j))):=rfl
theorem qbQ(i j:Int):leD (.int i) (.int j)=some (.bl (decide (i<=j))):=rfl
local macro_rules | `(tactic| push_cast [$xs,*]) => `(tactic| simp only [qaW, qgG, qsJ, yE, qfy, qnG, qnH, qsK, qq7, qbM, qaK, qnI, qlV, vA, qhp, qhq, qlW, qhr, qlX, qjH, qgH, qjI, wY, wZ, qej, vM, qjJ, qjK, qjL, vb, qjM, qjN, qhs, qfz, qjO, qfA, qjP, qjQ, qcS, qgI, lC_, lN_, mC_, List.map_nil, List.replicate, List.nil_append, List.cons_append, List.append_nil, List.getElem?_cons_zero, List.getElem?_cons_succ, List.set_cons_zero, List.set_cons_succ, Nat.reduceAdd, Nat.reduceSub, Nat.sub_self, Nat.zero_add, reduceIte, Bool.not_true, Bool.not_false, Bool.false_eq_true, if_true, if_false, ite_true, ite_false, cond_true, cond_false, decide_true, decide_false, ix0, ix1, ix2, qa9, wB, vO, qan, qcf, qgS, yY, qey, qbQ, qko, qkp, qht, qgM, qgK, $xs,*])
theorem uG {n p:Nat} {body:MS} {ds:List D} {d:D} (h:ds.length=p) (e:∃ρ,body (qaW n ds)=.ok (.rt d ρ)):dfn n p body ds=.ok d:=by
 obtain⟨ρ,e⟩:=e
 exact qoX h e
def qpn:D->Bool
 |.int _=>true
 |_=>false
def yZ:D->Bool
 |.int i=>decide (0<=i)
 |_=>false
def qkq:D->Bool
 |.int i=>decide (0<i)
 |_=>false
def v7:D->Bool
 |.tup [a,b,c]=>qkq a&&yZ b&&(vy c||yZ c)
 |_=>false
theorem qts {ds:List D} (h:ds.length=3):∃a b c,ds=[a,b,c]:=by
 match ds,h with
 | [a,b,c],_=>exact⟨a,b,c,rfl⟩
theorem qdQ {ds:List D} (h:ds.length≠3):v7 (.tup ds)=false:=by
 match ds,h with
 | [],_=>rfl
 | [_],_=>rfl
 | [_,_],_=>rfl
 | [a,b,c],h=>exact absurd rfl h
 |_::_::_::_::_,_=>rfl
theorem qj{p q:MS}{ρ ρ':Env}(h:p ρ=.ok (.nx ρ')):qG p q ρ=q ρ':=by rw[qnJ,h]
theorem qbA{p q:MS}{ρ ρ':Env}{d:D}(h:p ρ=.ok (.rt d ρ')):qG p q ρ=.ok (.rt d ρ'):=by rw[qnJ,h]
theorem qro {e:M D} {f:D->D}:∀(ds acc:List D)(o:OD),(∀d∈ds,e [some d]=.ok (f d,[some d]))->acc.length+ds.length<=1000->∃ρ',zh (qq 0) (ret true) e ds acc [o]=.ok (acc++ds.map f,ρ')
 | [],acc,o,_,_=>⟨[o],by simp[zh]⟩
 |d::ds,acc,o,h,hl=>by
  have hl':acc.length+(ds.length+1)<=1000:=hl
  obtain⟨ρ',q⟩:=qro ds (acc++[f d]) (some d) (λx hx=>h x (mM _ hx)) (by rw[lA_,yaY];omega)
  refine⟨ρ',?_⟩
  unfold zh
  simp only[qq,ycd,ret,h d mS_,yR (show acc.length+1<=1000000 by omega),if_true,q]
  simp
theorem qfT (f:D->Bool):∀ds:List D,vz (ds.map λd=>D.bl (f d))=some (ds.map f)
 | []=>rfl
 |d::ds=>by simp[vz,qfT f ds]
theorem all_map {ds:List D} {f:D->Bool}:qi0 [.lst (ds.map λd=>D.bl (f d))]=some (.bl (ds.all f)):=by
 simp only[qi0,qfT,ybg]
 congr 2
 rw[ydd]
 rfl
theorem qpo {F:List D->R D} {f:D->Bool} {xs:M (List D)} {ds:List D} {ρ:Env} (hx:xs ρ=.ok (ds,ρ)) (hF:∀d∈ds,F [d]=.ok (.bl (f d))) (hl:ds.length<=1000) :
  zB qi0 (qa (qZ 1 [] none xs (qq 0) (ret true) (qg F (qa (dv 0) (ret [])))) (ret [])) ρ=.ok (.bl (ds.all f),ρ):=by
 obtain⟨ρ',q⟩:=qro (e:=qg F (qa (dv 0) (ret []))) (f:=λd=>D.bl (f d)) ds [] none (λx hm=>by push_cast [];rw[hF x hm]) (by simpa using hl)
 have q':zh (qq 0) (ret true) (qg F (qa (dv 0) (ret []))) ds [] (jJ 1 [] ρ)=.ok ([]++ds.map λd=>D.bl (f d),ρ'):=q
 simp only[qbM,yE,qbN,hx,q',qgG,yaJ,all_map]
 rfl
def y1:D->Bool
 |.tup ds=>decide (ds.length<=12)&&ds.all v7
 |_=>false
def leI:D->D->Bool
 |.int i,.int j=>decide (i<=j)
 |_,_=>false
def qiK (k x:D):Bool:=match k with
 |.tup [_,_,m]=>yZ x&&(vy m||leI x m)
 |_=>false
def wC:List D->List D->Bool
 |k::ks,x::xs=>qiK k x&&wC ks xs
 |_,_=>true
def qhB:D->D->Bool
 |.tup xs,.tup ks=>decide (xs.length=ks.length)&&wC ks xs
 |_,_=>false
theorem qhC {e:M D} {f:D->D->Bool}:∀(ks xs acc:List D)(o o':OD),(∀k∈ks,∀x,e [some k,some x]=.ok (.bl (f k x),[some k,some x]))->acc.length+ks.length<=1000 ->
  ∃(bs:List Bool)(ρ':Env),zh (qcJ 2 (zD (qq 0) (zD (qq 1) qcI))) (ret true) e (qct ks xs) acc [o,o']=.ok (acc++bs.map D.bl,ρ')/\bs.all id=(qct ks xs).all λp=>match p with|.tup [k,x]=>f k x|_=>false
 | [],xs,acc,o,o',_,_=>⟨[],[o,o'],by simp[qct,zh],rfl⟩
 |k::ks,[],acc,o,o',_,_=>⟨[],[o,o'],by simp[qct,zh],rfl⟩
 | k::ks,x::xs,acc,o,o',h,hl=>by
  have hl':acc.length+(ks.length+1)<=1000:=hl
  obtain⟨bs,ρ',q,r⟩:=qhC ks xs (acc++[.bl (f k x)]) (some k) (some x) (λy hy=>h y (mM _ hy)) (by rw[lA_,yaY];omega)
  refine⟨f k x::bs,ρ',?_,?_⟩
  ·unfold qct zh
   simp only[qcJ,zD,qq,qcI,lC_,lN_,Nat.reduceAdd,ybf,if_true,Option.bind_some,ycd,yde,ret,h k mS_,yR (show acc.length+1<=1000000 by omega),q]
   simp
  ·unfold qct
   rw[ych,ych,r]
   rfl
theorem qcv:∀bs:List Bool,vz (bs.map D.bl)=some bs
 | []=>rfl
 |b::bs=>by simp[vz,qcv bs]
theorem qcg:∀(ks xs:List D),((qct ks xs).all λp=>match p with|.tup [k,x]=>qiK k x|_=>false)=wC ks xs
 | [],_=>rfl
 |_::_,[]=>rfl
 |k::ks,x::xs=>by
  unfold qct wC
  rw[ych,qcg ks xs]
theorem qrp {ds:List D} {i:Nat} {d:D} (h:ds[i]? = some d):ixD (.tup ds) (.int (i:Nat))=some d:=by
 have hi:i<ds.length:=(gI_.mp h).1
 show atI ds (i:Int)=some d
 unfold atI ixN
 rw[if_pos (by omega),if_pos (by omega)]
 simpa using h
theorem wD {l:M (List D)} {ρ ρ1:Env} {j:Int} (e:l ρ=.ok ([.int j],ρ1)) (h0:0<=j) (h:j<=1000000):yX l ρ=.ok (qbK 0 j.toNat,ρ1):=by
 have h1:(-(2 ^ 62)<=j):=by omega
 have h2:(j<2 ^ 62):=by omega
 have e2:qnz [.int j]=some (qbK 0 j.toNat):=by
  simp only[qnz,h1,h2,decide_true,yaG,if_true]
 have e3:yX l ρ=lift (qnz [.int j]) ρ1:=by
  show bnd l (λds=>lift (qnz ds)) ρ=_
  rw[qq6,e]
 rw[e3,e2]
 rfl
theorem qkr {n m:Int} (h0:0<m) (h1:m<1606938044258990275541962092341162602522202993782792835301376):qcL [.int n,.int m]=some (.tup [.int (n/m),.int (n%m)]):=by
 simp only[qcL,qik,h0,h1,decide_true,yaG,if_true]
theorem at0 (d:D) (r:List D):atI (d::r) 0=some d:=by
 unfold atI ixN
 rw[if_pos (by omega),if_pos (by simp)]
 rfl
theorem qtX:ixN 1 0=some 0:=by decide
theorem qV(i j:Int):jB (.int i) (.int j)=some (.int (i+j)):=rfl
theorem yG(i j:Int):qbo (.int i) (.int j)=some (.int (i-j)):=rfl
theorem qnS {ds:List D} {k:Int} (h0:0<=k) (h1:k<ds.length):∃d∈ds,ixD (.lst ds) (.int k)=some d:=by
 obtain⟨i,rfl⟩:=yfa h0
 have hi:i<ds.length:=by omega
 refine⟨ds[i],ydI hi,?_⟩
 show atI ds (i:Int)=_
 unfold atI ixN
 rw[if_pos (by omega),if_pos (by omega)]
 show ds[(i:Int).toNat]? = _
 rw[ybj,gG hi]
theorem qez(j:Nat):(qbK 0 j).length=j:=by simp[qbK]
theorem vC {i j:Int} (h:0<j):qck (.int i) (.int j)=some (.int (i%j)):=by
 simp only[qck,qjs,h,decide_true,if_true]
theorem qbB {i j:Int} (h:0<j) (h1:j<1606938044258990275541962092341162602522202993782792835301376):qgw (.int i) (.int j)=some (.int (i/j)):=by
 simp only[qgw,qjs,qik,h,h1,decide_true,yaG,if_true]
theorem qgT {i j:Int} (h:jA i=true):uF (.int i) (.int j)=some (.int (i*j)):=by
 simp only[uF,qgv,h,Bool.true_or,if_true]
theorem qiL {i j:Int} (h:jA j=true):uF (.int i) (.int j)=some (.int (i*j)):=by
 simp only[uF,qgv,h,Bool.or_true,if_true]
theorem qks {i:Int} (h0:0<=i) (h1:i<2000000000):jA i=true:=by
 unfold jA
 rw[yan,decide_eq_true_eq,decide_eq_true_eq]
 constructor<;>omega
theorem qhD {xs ys:List D} (h:xs.length+ys.length<=1000000):jB (.lst xs) (.lst ys)=some (.lst (xs++ys)):=by
 simp only[jB,yR h,if_true]
theorem ul:∀ns:List Int,vt (ns.map D.int)=some ns
 | []=>rfl
 |n::ns=>by simp[vt,ul ns]
theorem qfU (lo:Int) (n:Nat):qbK lo (n+1)=.int lo::qbK (lo+1) n:=by
 unfold qbK
 rw[ybP,mC_,mm_]
 congr 1
 ·simp
 ·apply mL_
  intro i _
  show D.int _=D.int _
  congr 1
  show lo+((i+1:Nat):Int)=_
  omega
theorem qiM(xs:List D):qfp [.lst xs]=some (.tup xs):=rfl
theorem qsU {F:List D->R D} {f g h:M D} {ρ:Env} {a b c d:D} (hf:f ρ=.ok (a,ρ)) (hg:g ρ=.ok (b,ρ)) (hh:h ρ=.ok (c,ρ)) (e:F [a,b,c]=.ok d):qg F (qa f (qa g (qa h (ret [])))) ρ=.ok (d,ρ):=by
 have e1:qa h (ret []) ρ=.ok ([c],ρ):=by rw[yE,hh];rfl
 have e2:qa g (qa h (ret [])) ρ=.ok ([b,c],ρ):=by rw[yE,hg];dsimp only;rw[e1]
 have e3:qa f (qa g (qa h (ret []))) ρ=.ok ([a,b,c],ρ):=by rw[yE,hf];dsimp only;rw[e2]
 rw[qaK,e3]
 dsimp only
 rw[e]
theorem vE {F:List D->OD} {f:M D} {ρ:Env} {a d:D} (hf:f ρ=.ok (a,ρ)) (e:F [a]=some d):zB F (qa f (ret [])) ρ=.ok (d,ρ):=by
 have e0:qa f (ret []) ρ=.ok ([a],ρ):=by rw[yE,hf];rfl
 rw[qbM,e0]
 dsimp only
 rw[e]
theorem qmC(i j:Int):qfm [.int i,.int j]=some (.int (if j<i then j else i)):=rfl
theorem qsV:qpY (.int 10) (.int 20)=some (.int 100000000000000000000):=by
 have h:qoR 10 20=true:=by decide +kernel
 have e:(10:Int) ^ (20:Int).toNat=100000000000000000000:=by decide +kernel
 simp only[qpY,qjs,h,if_true,e]
theorem qmD {α:Type} {e:M D} {t:M Bool} {k f:α->D} {p:α->Bool} {r:Env}:∀(as:List α)(acc:List D)(o:OD),(∀a∈as,t (some (k a)::r)=.ok (p a,some (k a)::r))->(∀a∈as,p a=true->e (some (k a)::r)=.ok (f a,some (k a)::r))->acc.length+as.length<=1000000 ->
  ∃o',zh (qq 0) t e (as.map k) acc (o::r)=.ok (acc++(as.filter p).map f,o'::r)
 | [],acc,o,_,_,_=>⟨o,by simp[zh]⟩
 | a::as,acc,o,ht,he,hl=>by
  have hl':acc.length+(as.length+1)<=1000000:=hl
  have h1:=ht a mS_
  rw[mC_]
  unfold zh
  simp only[qq,ycd,h1]
  cases hp:p a with
  |false=>
   obtain⟨o',q⟩:=qmD as acc (some (k a)) (λx hx=>ht x (mM _ hx)) (λx hx=>he x (mM _ hx)) (by omega)
   refine⟨o',?_⟩
   simp only[q,ft_,hp,ybr,if_false]
  |true=>
   obtain⟨o',q⟩:=qmD as (acc++[f a]) (some (k a)) (λx hx=>ht x (mM _ hx)) (λx hx=>he x (mM _ hx)) (by rw[lA_,yaY];omega)
   refine⟨o',?_⟩
   simp only[he a mS_ hp,yR (show acc.length+1<=1000000 by omega),if_true,q,ft_,hp,mC_,aA_,ydQ]
theorem qc2 {α:Type} {e:M D} {t:M Bool} {k:α->D} {xs:M (List D)} {ρ r:Env} {fr:List Nat} (as:List α) (p:α->Bool) (f:α->D) (hx:xs ρ=.ok (as.map k,ρ)) (hr:jJ 1 fr ρ=none::r) (hl:as.length<=1000000)
  (ht:∀a∈as,t (some (k a)::r)=.ok (p a,some (k a)::r)) (he:∀a∈as,p a=true->e (some (k a)::r)=.ok (f a,some (k a)::r)):qZ 1 fr none xs (qq 0) t e ρ=.ok (.lst ((as.filter p).map f),ρ):=by
 obtain⟨o',q⟩:=qmD as [] none ht he (by simpa using hl)
 rw[qbN,hx]
 simp only[hr,q,yaJ]
 rfl
theorem y2{α:Type}(as:List α):as.filter (λ_=>true)=as:=by simp
theorem qa1 {α:Type} {e:M D} {k:α->D} {xs:M (List D)} {ρ r:Env} {fr:List Nat} (as:List α) (f:α->D) (hx:xs ρ=.ok (as.map k,ρ)) (hr:jJ 1 fr ρ=none::r) (hl:as.length<=1000000)
  (he:∀a∈as,e (some (k a)::r)=.ok (f a,some (k a)::r)):qZ 1 fr none xs (qq 0) (ret true) e ρ=.ok (.lst (as.map f),ρ):=by
 rw[qc2 as (λ_=>true) f hx hr hl (λ_ _=>rfl) λa ha _=>he a ha,y2]
theorem qc3 {α β:Type} {G:D->Env->Option Env} {b:MS} {k:α->D} {step:β->α->β} {Inv:Nat->β->Env->Prop}:∀(as:List α)(n:Nat)(s:β)(ρ:Env),Inv n s ρ ->
  (∀a∈as,∀m s ρ,n<=m->m<n+as.length->Inv m s ρ->∃ρ1 ρ2,G (k a) ρ=some ρ1/\b ρ1=.ok (.nx ρ2)/\Inv (m+1) (step s a) ρ2) ->
  ∃ρ',uH G b (as.map k) ρ=.ok (.nx ρ')/\Inv (n+as.length) (as.foldl step s) ρ'
 | [],n,s,ρ,h,_=>⟨ρ,rfl,h⟩
 | a::as,n,s,ρ,h,H=>by
  obtain⟨ρ1,ρ2,h1,h2,h3⟩:=H a mS_ n s ρ (yah _) (by rw[lC_];omega) h
  obtain⟨ρ',q,w⟩:=qc3 as (n+1) (step s a) ρ2 h3 λx hx m s ρ m1 m2=>H x (mM _ hx) m s ρ (by omega) (by rw[lC_];omega)
  refine⟨ρ',?_,?_⟩
  ·rw[mC_]
   unfold uH
   simp only[h1,h2]
   exact q
  ·rw[lC_,show n+(as.length+1)=n+1+as.length by omega]
   exact w
theorem v8{f:M D}{ρ:Env}{a:D}(hf:f ρ=.ok (a,ρ)):qa f (ret []) ρ=.ok ([a],ρ):=by rw[yE,hf];rfl
theorem qfV{f g:M D}{ρ:Env}{a b:D}(hf:f ρ=.ok (a,ρ))(hg:g ρ=.ok (b,ρ)):qa f (qa g (ret [])) ρ=.ok ([a,b],ρ):=by rw[yE,hf];simp only[v8 hg]
theorem qrq{f g h:M D}{ρ:Env}{a b c:D}(hf:f ρ=.ok (a,ρ))(hg:g ρ=.ok (b,ρ))(hh:h ρ=.ok (c,ρ)):qa f (qa g (qa h (ret []))) ρ=.ok ([a,b,c],ρ):=by rw[yE,hf];simp only[qfV hg hh]
theorem qsd{f g:M D}{ρ:Env}{a b:D}(hf:f ρ=.ok (a,ρ))(hg:g ρ=.ok (b,ρ)):qca (qa f (qa g (ret []))) ρ=.ok (.tup [a,b],ρ):=by rw[qfy,qfV hf hg];simp only[lC_,lN_,yR (show 0+1+1<=1000000 by omega),if_true]
theorem qtt{f g h:M D}{ρ:Env}{a b c:D}(hf:f ρ=.ok (a,ρ))(hg:g ρ=.ok (b,ρ))(hh:h ρ=.ok (c,ρ)):qca (qa f (qa g (qa h (ret [])))) ρ=.ok (.tup [a,b,c],ρ):=by rw[qfy,qrq hf hg hh];simp only[lC_,lN_,yR (show 0+1+1+1<=1000000 by omega),if_true]
theorem jd{F:List D->R D}{f:M D}{ρ:Env}{a d:D}(hf:f ρ=.ok (a,ρ))(e:F [a]=.ok d):qg F (qa f (ret [])) ρ=.ok (d,ρ):=by rw[qaK,v8 hf];simp only[e]
theorem zR{F:List D->R D}{f g:M D}{ρ:Env}{a b d:D}(hf:f ρ=.ok (a,ρ))(hg:g ρ=.ok (b,ρ))(e:F [a,b]=.ok d):qg F (qa f (qa g (ret []))) ρ=.ok (d,ρ):=by rw[qaK,qfV hf hg];simp only[e]
theorem qh{F:D->D->OD}{f g:M D}{ρ:Env}{a b d:D}(hf:f ρ=.ok (a,ρ))(hg:g ρ=.ok (b,ρ))(e:F a b=some d):d2 F f g ρ=.ok (d,ρ):=by rw[qsK,hf];simp only[hg,e]
theorem qR{f:M D}{ρ:Env}{b:Bool}(hf:f ρ=.ok (.bl b,ρ)):tst f ρ=.ok (b,ρ):=by rw[qlV,hf];rfl
theorem qrr{t:M Bool}{p q:MS}{ρ:Env}(h:t ρ=.ok (true,ρ)):sif t p q ρ=p ρ:=by rw[qjI,h];rfl
theorem qhE{t:M Bool}{p q:MS}{ρ:Env}(h:t ρ=.ok (false,ρ)):sif t p q ρ=q ρ:=by rw[qjI,h];rfl
theorem qbC {i:Nat} {f:M D} {ρ:Env} {ds:List D} {d:D} (h:yz i ρ=some ds) (hf:f ρ=.ok (d,ρ)) (hi:imm d=true) (hl:ds.length<1000000):zx (jg i f) ρ=.ok (.nx (ρ.set i (some (.lst (ds++[d]))))):=by
 simp only[vM,qcS,h,hf,hi,yR (show ds.length+1<=1000000 by omega),yaG,if_true]
theorem uy {G:D->Env->Option Env} {b:MS} {d:D} {ds:List D} {ρ ρ1 ρ2:Env} (h1:G d ρ=some ρ1) (h2:b ρ1=.ok (.nx ρ2)):uH G b (d::ds) ρ=uH G b ds ρ2:=by
 show(match G d ρ with|none=>R.bad|some ρ1=>_)=_
 rw[h1]
 simp only[h2]
theorem qtY {i j:Nat} {f g:M D} {ρ ρ1 ρ2:Env} {a b:D} (hf:f ρ=.ok (a,ρ1)) (hg:g ρ1=.ok (b,ρ2)):qnD i j (qa f (qa g (ret []))) ρ=.ok (.nx ((ρ2.set i (some a)).set j (some b))):=by
 rw[qjK,yE,hf]
 simp only[yE,hg,qgG]
def mD:Option Int->D
 |none => .non
 |some j => .int j
abbrev Kd:=Int×Int×Option Int
def kD(x:Kd):D:=.tup [.int x.1,.int x.2.1,mD x.2.2]
theorem qrs(m:Option Int):imm (mD m)=true:=by cases m<;>rfl
theorem qrt (x:Kd):imm (kD x)=true:=by
 simp only[kD,imm,immL,qrs,yaG]
theorem qeA {α:Type} {f:α->D}:∀{as:List α},(∀a∈as,imm (f a)=true)->immL (as.map f)=true
 | [],_=>rfl
 |a::as,h=>by simp only[mC_,immL,h a mS_,qeA λx hx=>h x (mM _ hx),yaG]
def okK(x:Kd):Prop:=0<x.1/\0<=x.2.1/\(∀j,x.2.2=some j->0<=j)
theorem qfW {x:Kd} (h:okK x):v7 (kD x)=true:=by
 obtain⟨a,b,m⟩:=x
 obtain⟨h1,h2,h3⟩:=h
 have e1:qkq (.int a)=true:=decide_eq_true h1
 have e2:yZ (.int b)=true:=decide_eq_true h2
 cases m with
 |none=>simp only[kD,mD,v7,e1,e2,vy,ybu,Bool.true_or]
 |some j=>
  have e3:yZ (.int j)=true:=decide_eq_true (h3 j rfl)
  simp only[kD,mD,v7,e1,e2,e3,ybu,Bool.or_true]
theorem qbR {ks:List Kd} (h:∀x∈ks,okK x) (hl:ks.length<=12):y1 (.tup (ks.map kD))=true:=by
 have:(ks.map kD).all v7=true:=by
  rw[ydd]
  exact List.all_eq_true.mpr λx hx=>qfW (h x hx)
 simp only[y1,lM_,hl,decide_true,this,ybu]
theorem qaX(x:Kd):ixD (kD x) (.int 0)=some (.int x.1):=rfl
theorem qmE(x:Kd):ixD (kD x) (.int 1)=some (.int x.2.1):=rfl
theorem qsW(x:Kd):ixD (kD x) (.int 2)=some (mD x.2.2):=rfl
theorem qcw(m:Option Int):vy (mD m)=m.isNone:=by cases m<;>rfl
theorem qfX {α:Type} {ds:List α} {n:Nat} {d:α} (h:ds[n]? = some d):atI ds (n:Int)=some d:=by
 unfold atI ixN
 have hl:=(gI_.mp h).1
 rw[if_pos (by omega),if_pos (by omega)]
 show ds[(n:Int).toNat]? = _
 rw[ybj];exact h
theorem qhF(lo:Int)(n:Nat):qbK lo n=(yag n).map λi=>D.int (lo+(i:Nat)):=rfl
theorem qmF {α:Type} {as:List α} {f:α->Bool}:qnw [.lst (as.map λa=>D.bl (f a))]=some (.bl (as.any f)):=by
 have:vz (as.map λa=>D.bl (f a))=some (as.map f):=by
  have:=qcv (as.map f)
  rw[mm_]at this
  exact this
 simp only[qnw,this,ybg]
 congr 2
 rw[yd5]
 rfl
theorem qmG {α:Type} {as:List α} {f:α->Bool}:qi0 [.lst (as.map λa=>D.bl (f a))]=some (.bl (as.all f)):=by
 have:vz (as.map λa=>D.bl (f a))=some (as.map f):=by
  have:=qcv (as.map f)
  rw[mm_]at this
  exact this
 simp only[qi0,this,ybg]
 congr 2
 rw[ydd]
 rfl
theorem qhG {α:Type} {as:List α} {f:α->Int}:qpX [.lst (as.map λa=>D.int (f a))]=some (.int (as.map f).sum):=by
 have:vt (as.map λa=>D.int (f a))=some (as.map f):=by
  have:=ul (as.map f)
  rw[mm_]at this
  exact this
 simp only[qpX,this,ybg]
theorem qkt {ns:List Int}:qa8 (.tup (ns.map D.int))=true:=by
 have h:∀ns:List Int,ybk (toPDs (ns.map D.int))=true/\ybY (toPDs (ns.map D.int))=0:=λns=>by
  induction ns with
  |nil=>exact⟨rfl,rfl⟩
  |cons n ns ih=>exact⟨by simp only[mC_,toPDs,yQ,ybk,ybo,ih.1,yaG],by simp only[mC_,toPDs,yQ,ybY,yd6,ih.2];rfl⟩
 obtain⟨h1,h2⟩:=h ns
 simp only[qa8,yQ,ybo,yd6,h1,h2]
 rfl
theorem qmH:∀ns ms:List Int,yaZ (.tuple (toPDs (ns.map D.int))) (.tuple (toPDs (ms.map D.int)))=decide (ns=ms):=by
 have h:∀ns ms:List Int,PyData.eqvAll (toPDs (ns.map D.int)) (toPDs (ms.map D.int))=decide (ns=ms):=λns=>by
  induction ns with
  |nil=>intro ms;cases ms<;>rfl
  | cons n ns ih=>
   intro ms
   cases ms with
   |nil=>rfl
   |cons m ms=>
    simp only[mC_,toPDs,yQ,PyData.eqvAll,yaZ,ih ms,List.cons.injEq,Bool.decide_and]
    rfl
 intro ns ms
 simp only[yaZ,h]
theorem qhH {α:Type} {e:M D} {t:M Bool} {u v f:α->D} {p:α->Bool} {r:Env}:∀(as:List α)(acc:List D)(o o':OD),(∀a∈as,t (some (u a)::some (v a)::r)=.ok (p a,some (u a)::some (v a)::r))->(∀a∈as,p a=true->e (some (u a)::some (v a)::r)=.ok (f a,some (u a)::some (v a)::r))->acc.length+as.length<=1000000 ->
  ∃o1 o2,zh (qcJ 2 (zD (qq 0) (zD (qq 1) qcI))) t e (as.map λa => .tup [u a,v a]) acc (o::o'::r)=.ok (acc++(as.filter p).map f,o1::o2::r)
 | [],acc,o,o',_,_,_=>⟨o,o',by simp[zh]⟩
 | a::as,acc,o,o',ht,he,hl=>by
  have hl':acc.length+(as.length+1)<=1000000:=hl
  have h1:=ht a mS_
  rw[mC_]
  unfold zh
  have hg:qcJ 2 (zD (qq 0) (zD (qq 1) qcI)) (.tup [u a,v a]) (o::o'::r)=some (some (u a)::some (v a)::r):=rfl
  simp only[hg,h1]
  cases hp:p a with
  |false=>
   obtain⟨o1,o2,q⟩:=qhH as acc (some (u a)) (some (v a)) (λx hx=>ht x (mM _ hx)) (λx hx=>he x (mM _ hx)) (by omega)
   refine⟨o1,o2,?_⟩
   simp only[q,ft_,hp,ybr,if_false]
  |true=>
   obtain⟨o1,o2,q⟩:=qhH as (acc++[f a]) (some (u a)) (some (v a)) (λx hx=>ht x (mM _ hx)) (λx hx=>he x (mM _ hx)) (by rw[lA_,yaY];omega)
   refine⟨o1,o2,?_⟩
   simp only[he a mS_ hp,yR (show acc.length+1<=1000000 by omega),if_true,q,ft_,hp,mC_,aA_,ydQ]
theorem qku {α:Type} {e:M D} {t:M Bool} {u v:α->D} {xs:M (List D)} {ρ r:Env} {fr:List Nat} (as:List α) (p:α->Bool) (f:α->D) (hx:xs ρ=.ok (as.map λa => .tup [u a,v a],ρ)) (hr:jJ 2 fr ρ=none::none::r) (hl:as.length<=1000000)
  (ht:∀a∈as,t (some (u a)::some (v a)::r)=.ok (p a,some (u a)::some (v a)::r)) (he:∀a∈as,p a=true->e (some (u a)::some (v a)::r)=.ok (f a,some (u a)::some (v a)::r)):qZ 2 fr none xs (qcJ 2 (zD (qq 0) (zD (qq 1) qcI))) t e ρ=.ok (.lst ((as.filter p).map f),ρ):=by
 obtain⟨o1,o2,q⟩:=qhH as [] none none ht he (by simpa using hl)
 rw[qbN,hx]
 simp only[hr,q,yaJ]
 rfl
theorem qpp {α:Type} {e:M D} {t:M Bool} {u v:α->D} {xs:M (List D)} {ρ r:Env} {fr:List Nat} (as:List α) (p:α->Bool) (f:α->D) (hx:xs ρ=.ok (as.map λa => .tup [u a,v a],ρ)) (hr:jJ 2 fr ρ=none::none::r) (hl:as.length<=1000000)
  (ht:∀a∈as,t (some (u a)::some (v a)::r)=.ok (p a,some (u a)::some (v a)::r)) (he:∀a∈as,p a=true->e (some (u a)::some (v a)::r)=.ok (f a,some (u a)::some (v a)::r)) (hi:∀a∈as,imm (f a)=true):ql3 2 fr none xs (qcJ 2 (zD (qq 0) (zD (qq 1) qcI))) t e ρ=.ok ((as.filter p).map f,ρ):=by
 obtain⟨o1,o2,q⟩:=qhH as [] none none ht he (by simpa using hl)
 have him:immL ((as.filter p).map f)=true:=qeA λb hb=>hi b (List.mem_filter.mp hb).1
 unfold ql3
 rw[qq6,hx]
 simp only[hr,q,yaJ,him,if_true]
 rfl
def kAt(ks:List Kd)(p:Nat):Kd:=(ks[p]?).getD (1,0,none)
theorem qc4 {ks:List Kd} {p:Nat} (h:p<ks.length):ks[p]? = some (kAt ks p):=by
 unfold kAt
 rw[gG h]
 rfl
theorem qbS{ks:List Kd}{p:Nat}(h:p<ks.length):kAt ks p∈ks:=ybt (qc4 h)
theorem qru{ks:List Kd}{p:Nat}(h:p<ks.length):ixD (.tup (ks.map kD)) (.int (p:Nat))=some (kD (kAt ks p)):=qrp (by rw[gM_,qc4 h];rfl)
theorem qtu (n:Nat):qbK 0 n=(yag n).map λi=>D.int (i:Nat):=by
 unfold qbK
 refine mL_ λi _=>?_
 rw[Int.zero_add]
theorem qmI {α:Type} (i:Nat) (l:List α) (f:α->Nat):qp1 (.int (i:Nat)) (.lst (l.map λa=>D.int (f a:Nat)))=some (.bl (!l.any λa=>decide (f a=i))):=by
 have h1:(l.map λa=>D.int (f a:Nat)).all flD=true:=by
  rw[ydd]
  exact List.all_eq_true.mpr λ_ _=>rfl
 have h2:(l.map λa=>D.int (f a:Nat)).any (λd=>eqV (vD d) (vD (.int (i:Nat))))=l.any λa=>decide (f a=i):=by
  rw[yd5]
  congr 1
  funext a
  show decide ((f a:Int)=(i:Nat))=decide (f a=i)
  rw[decide_eq_decide]
  omega
 have e:qpZ (.int (i:Nat)) (.lst (l.map λa=>D.int (f a:Nat)))=some (.bl (!l.any λa=>decide (f a=i))):=by
  unfold qpZ
  show(if flD (.int (i:Nat))&&(l.map λa=>D.int (f a:Nat)).all flD then some (D.bl (!(l.map λa=>D.int (f a:Nat)).any λd=>eqV (vD d) (vD (.int (i:Nat)))))else none)=_
  rw[h1,h2]
  rfl
 unfold qp1
 rw[e]
 rfl
theorem qmJ (a:Nat) {b:Nat} (h:0<b):qck (.int (a:Nat)) (.int (b:Nat))=some (.int ((a%b:Nat):Int)):=by
 rw[vC (by omega)]
 rfl
theorem qsX {n:Nat} (h:n<=18000000000000000000):jA (n:Int)=true:=by
 unfold jA
 rw[yan,decide_eq_true_eq,decide_eq_true_eq]
 constructor<;>omega
theorem qrv {a:Nat} (b:Nat) (h:a<=18000000000000000000):uF (.int (a:Nat)) (.int (b:Nat))=some (.int ((a*b:Nat):Int)):=by
 rw[qgT (qsX h)]
 rfl
end Law
end L2.Sk
namespace L2.Sk.Law
def w5:Nat->(Nat->Nat)->Nat
 |0,_=>0
 |n+1,f=>w5 n f+f n
theorem y3 {f g:Nat->Nat}:∀{n:Nat},(∀t,t<n->f t=g t)->w5 n f=w5 n g
 |0,_=>rfl
 |n+1,h=>by
  unfold w5
  rw[y3 λt ht=>h t (by omega),h n (by omega)]
theorem qc5:∀n:Nat,w5 n (λ_=>0)=0
 |0=>rfl
 |n+1=>by show w5 n (λ_=>0)+0=0;rw[qc5 n]
theorem qhI {f g:Nat->Nat}:∀n:Nat,w5 n (λt=>f t+g t)=w5 n f+w5 n g
 |0=>rfl
 |n+1=>by
  show w5 n (λt=>f t+g t)+(f n+g n)=(w5 n f+f n)+(w5 n g+g n)
  rw[qhI n];omega
theorem qfY {f:Nat->Nat->Nat} (m:Nat):∀n:Nat,w5 n (λs=>w5 m λt=>f s t)=w5 m λt=>w5 n λs=>f s t
 |0=>by show 0=w5 m λt=>0;rw[qc5]
 |n+1=>by
  show w5 n (λs=>w5 m λt=>f s t)+w5 m (λt=>f n t)=w5 m λt=>w5 n (λs=>f s t)+f n t
  rw[qfY m n,qhI]
theorem qfZ {f:Nat->Nat} {n:Nat}:∀k:Nat,(∀t,n<=t->f t=0)->w5 (n+k) f=w5 n f
 |0,_=>rfl
 |k+1,h=>by
  show w5 (n+k) f+f (n+k)=_
  rw[qfZ k h,h (n+k) (by omega),Nat.add_zero]
structure Kw where
 w:Int
 v:Int
 m:Option Int
def okT(k:Kw)(t:Nat)(r:Int):Bool:=decide ((t:Int)*k.w<=r)&&(match k.m with|none=>true|some j=>decide ((t:Int)<=j))
def qdv (N:Nat) (φ:Int->Nat):List Kw->Int->Int->Nat
 | [],_,y=>φ y
 |k::ks,r,y=>w5 (N+1) λt=>if okT k t r then qdv N φ ks (r-t*k.w) (y+t*k.v)else 0
theorem qkv {b:Bool} {n:Nat} {f:Nat->Nat}:(if b then w5 n f else 0)=w5 n λt=>if b then f t else 0:=by
 cases b with
 |true=>rfl
 |false=>simp only[ybr,if_false];rw[qc5]
theorem qmK {a k:Kw} (ha:0<=a.w) (hk:0<=k.w) (s t:Nat) (r:Int):(okT a s r&&okT k t (r-s*a.w))=(okT k t r&&okT a s (r-t*k.w)):=by
 have h1:0<=(s:Int)*a.w:=ydl (by omega) ha
 have h2:0<=(t:Int)*k.w:=ydl (by omega) hk
 unfold okT
 generalize (s:Int)*a.w=p at *
 generalize (t:Int)*k.w=q at *
 have e:(decide (p<=r)&&decide (q<=r-p))=(decide (q<=r)&&decide (p<=r-q)):=by
  rw[ybc]
  simp only[yan,decide_eq_true_eq]
  omega
 generalize (match a.m with|none=>true|some j=>decide ((s:Int)<=j))=x
 generalize (match k.m with|none=>true|some j=>decide ((t:Int)<=j))=y
 cases x<;>cases y<;>simp only[yfV,Bool.and_false,ydi]<;>exact e
theorem qf0 {N:Nat} {φ:Int->Nat} {k:Kw} (hk:0<=k.w):∀(ks:List Kw)(r y:Int),(∀a∈ks,0<=a.w) ->
  qdv N φ (ks++[k]) r y=w5 (N+1) λt=>if okT k t r then qdv N φ ks (r-t*k.w) (y+t*k.v)else 0
 | [],r,y,_=>rfl
 | a::ks,r,y,h=>by
  have ha:=h a mS_
  have h':∀b∈ks,0<=b.w:=λb hb=>h b (mM _ hb)
  show(w5 (N+1) λs=>if okT a s r then qdv N φ (ks++[k]) (r-s*a.w) (y+s*a.v)else 0)=_
  have e1:∀s,(if okT a s r then qdv N φ (ks++[k]) (r-s*a.w) (y+s*a.v)else 0)=w5 (N+1) λt=>if okT a s r&&okT k t (r-s*a.w)then qdv N φ ks (r-s*a.w-t*k.w) (y+s*a.v+t*k.v)else 0:=λs=>by
   rw[qf0 hk ks _ _ h',qkv]
   refine y3 λt _=>?_
   cases okT a s r<;>simp
  rw[y3 λs _=>e1 s,qfY]
  refine y3 λt _=>?_
  show _=if okT k t r then(w5 (N+1) λs=>if okT a s (r-t*k.w)then qdv N φ ks (r-t*k.w-s*a.w) (y+t*k.v+s*a.v)else 0)else 0
  rw[qkv]
  refine y3 λs _=>?_
  rw[qmK ha hk]
  have e2:r-(s:Int)*a.w-t*k.w=r-t*k.w-s*a.w:=by omega
  have e3:y+(s:Int)*a.v+t*k.v=y+t*k.v+s*a.v:=by omega
  rw[e2,e3]
  cases okT k t r<;>cases okT a s (r-t*k.w)<;>rfl
def ofn(k:Kw)(r:Int):Nat:=(match k.m with|none=>r/k.w|some j=>if j<r/k.w then j else r/k.w).toNat
theorem qba {k:Kw} (hw:1<=k.w) (hm:∀j,k.m=some j->0<=j) {r:Int} (hr:0<=r) (t:Nat):okT k t r=decide (t<=ofn k r):=by
 have hd:0<=r/k.w:=yfh hr (by omega)
 have he:((t:Int)*k.w<=r) ↔ ((t:Int)<=r/k.w):=(Int.le_ediv_iff_mul_le (by omega)).symm
 unfold okT ofn
 cases hk:k.m with
 |none=>
  dsimp only
  rw[yfV,ybc,decide_eq_true_eq,decide_eq_true_eq,he]
  omega
 |some j=>
  have hj:=hm j hk
  dsimp only
  rw[ybc,yan,decide_eq_true_eq,decide_eq_true_eq,decide_eq_true_eq,he]
  split<;>omega
theorem qdR {k:Kw} (hw:1<=k.w) (hm:∀j,k.m=some j->0<=j) {r:Int} (hr:0<=r) {t:Nat} (h:t<=ofn k r):(t:Int)*k.w<=r/\(t:Int)<=r:=by
 have h1:okT k t r=true:=by rw[qba hw hm hr];exact decide_eq_true h
 unfold okT at h1
 rw[yan,decide_eq_true_eq]at h1
 refine⟨h1.1,ydb ?_ h1.1⟩
 have:=yea hw (show(0:Int)<=t by omega)
 omega
theorem qf1 {f:Nat->Nat} {n:Nat}:∀N:Nat,n<=N->w5 (N+1) (λt=>if decide (t<=n)then f t else 0)=((yag (n+1)).map f).sum:=by
 intro N hN
 obtain⟨k,rfl⟩:=ydo hN
 have e:n+k+1=(n+1)+k:=by omega
 rw [e,qfZ k (λt ht=>by
  have:¬t<=n:=by omega
  simp[this])]
 have e2:∀m,w5 m f=((yag m).map f).sum:=by
  intro m
  induction m with
  |zero=>rfl
  |succ m ih=>
   show w5 m f+f m=_
   rw[ih,yc6,ybH,ybZ]
   simp
 rw[<-e2]
 refine y3 λt ht=>?_
 have:t<=n:=by omega
 simp[this]
def qeB(k:Kw)(found:List (List Int×Int)):List (List Int×Int):=found.flatMap λp=>(yag (ofn k p.2+1)).map λ(t:Nat)=>(p.1++[(t:Int)],p.2-(t:Int)*k.w)
def qL:List Kw->List Int->Int
 |k::ks,t::ts=>t*k.v+qL ks ts
 |_,_=>0
theorem qbb (k:Kw) (t:Int):∀(pre:List Kw)(ld:List Int),pre.length=ld.length->qL (pre++[k]) (ld++[t])=qL pre ld+t*k.v
 | [],[],_=>by simp[qL]
 |a::pre,s::ld,h=>by
  have:=qbb k t pre ld (by simpa using h)
  simp only[ye3,qL,this]
  omega
def z7(k:Kw):Prop:=1<=k.w/\∀j,k.m=some j->0<=j
theorem qc6 {α β:Type} (f:α->List β) (g:β->Nat):∀l:List α,((l.flatMap f).map g).sum=(l.map λa=>((f a).map g).sum).sum
 | []=>rfl
 |a::l=>by rw[fC_,ybH,ybZ,mC_,ybl,qc6 f g l]
theorem qkw {N:Nat} {φ:Int->Nat}:∀(ks pre:List Kw)(found:List (List Int×Int)),(∀k∈ks,z7 k)->(∀p∈found,p.1.length=pre.length/\0<=p.2/\p.2<=N) ->
  ((ks.foldl (λf k=>qeB k f) found).map λp=>φ (qL (pre++ks) p.1)).sum=(found.map λp=>qdv N φ ks p.2 (qL pre p.1)).sum
 | [],pre,found,_,_=>by rw[yaR];rfl
 | k::ks,pre,found,hk,hf=>by
  have gk:=hk k mS_
  have e0:pre++k::ks=(pre++[k])++ks:=by simp
  rw [fo_,e0,qkw ks (pre++[k]) (qeB k found) (λa ha=>hk a (mM _ ha)) (λp hp=>by
   unfold qeB at hp
   obtain⟨q,hq,hp⟩:=List.mem_flatMap.mp hp
   obtain⟨t,ht,rfl⟩:=mP_.mp hp
   have ht':t<=ofn k q.2:=by have:=mR_.mp ht;omega
   obtain⟨h1,h2,h3⟩:=hf q hq
   obtain⟨g1,_⟩:=qdR gk.1 gk.2 h2 ht'
   have g2:0<=(t:Int)*k.w:=ydl (by omega) (by have:=gk.1;omega)
   refine⟨by simp[h1],by show 0<=q.2-t*k.w;omega,by show q.2-t*k.w<=N;omega⟩)]
  unfold qeB
  rw[qc6]
  congr 1
  apply mL_
  intro p hp
  obtain⟨h1,h2,h3⟩:=hf p hp
  rw[mm_]
  show _=w5 (N+1) λt=>if okT k t p.2 then qdv N φ ks (p.2-t*k.w) (qL pre p.1+t*k.v)else 0
  have hn:ofn k p.2<=N:=by
   have:=(qdR gk.1 gk.2 h2 (yah (ofn k p.2))).2
   omega
  have e1:(λt:Nat=>if okT k t p.2 then qdv N φ ks (p.2-t*k.w) (qL pre p.1+t*k.v)else 0)=λt=>if decide (t<=ofn k p.2)then qdv N φ ks (p.2-t*k.w) (qL pre p.1+t*k.v)else 0:=by
   funext t
   rw[qba gk.1 gk.2 h2]
  rw[e1,qf1 N hn]
  congr 1
  apply mL_
  intro t _
  show qdv N φ ks (p.2-t*k.w) (qL (pre++[k]) (p.1++[(t:Int)]))=_
  rw[qbb k t pre p.1 h1.symm]
end L2.Sk.Law
namespace L2.Sk
namespace Law
open PySem PySem.Spec PyProof.Rows
set_option maxHeartbeats 4000000
theorem qbT {N:Nat}:∀(ks:List Kw)(φ:Int->Nat)(r y:Int),qdv N φ ks r y=qdv N (λx=>φ (x+y)) ks r 0
 | [],φ,r,y=>by show φ y=φ (0+y);rw[Int.zero_add]
 | k::ks,φ,r,y=>by
  show(w5 (N+1) λt=>if okT k t r then qdv N φ ks (r-t*k.w) (y+t*k.v)else 0)=w5 (N+1) λt=>if okT k t r then qdv N (λx=>φ (x+y)) ks (r-t*k.w) (0+t*k.v)else 0
  refine y3 λt _=>?_
  rw[qbT ks φ _ (y+t*k.v),qbT ks (λx=>φ (x+y)) _ (0+t*k.v)]
  have e:(λx:Int=>φ (x+(y+t*k.v)))=λx=>φ (x+(0+t*k.v)+y):=by
   funext x
   congr 1
   omega
  rw[e]
def qkx(ks:List Kw)(r:Int):List (List Int×Int):=ks.foldl (λf k=>qeB k f) [([],r)]
end Law
end L2.Sk
namespace L2.Sk.Law
theorem qky:∀(n:Nat)(f:Nat->Nat),(∀i,i<=n->f i<n)->∃i j,i<j/\j<=n/\f i=f j
 |0,f,h=>absurd (h 0 (yah _)) (yc5 _)
 | n + 1,f,h=>by
  by_cases hv:∃i,i<n+1/\f i=f (n+1)
  ·obtain⟨i,hi,e⟩:=hv
   exact⟨i,n+1,hi,yah _,e⟩
  ·have ne:∀i,i<=n->f i≠f (n+1):=λi hi e=>hv ⟨i,by omega,e⟩
   obtain ⟨i,j,h1,h2,e⟩:=qky n (λi=>if f (n+1)<f i then f i-1 else f i) λi hi=>by
    have a:=h i (by omega)
    have b:=h (n+1) (yah _)
    have c:=ne i hi
    show(if f (n+1)<f i then f i-1 else f i)<n
    split<;>omega
   refine⟨i,j,h1,by omega,?_⟩
   have c1:=ne i (by omega)
   have c2:=ne j h2
   have e':(if f (n+1)<f i then f i-1 else f i)=(if f (n+1)<f j then f j-1 else f j):=e
   split at e'<;>split at e'<;>omega
def qkz(ws l:List Nat):Prop:=∀x∈l,x∈ws
theorem qeC {a x y z:Nat} (ha:0<a) (h:(x+z)%a=(y+z)%a):x%a=y%a:=by
 have h1:(x+z)%a=((y+z)%a):=h
 have h2:((x+z)+(a-z%a))%a=((y+z)+(a-z%a))%a:=by
  rw[ydx (x+z),ydx (y+z),h1]
 have hz:=ycY z ha
 have hd:=ycg z a
 have e:∀w:Nat,(w+z)+(a-z%a)=w+a*(z/a+1):=λw=>by
  have:a*(z/a+1)=a*(z/a)+a:=by rw[Nat.mul_add,Nat.mul_one]
  omega
 rw[e,e,yc7,yc7]at h2
 exact h2
theorem few {ws:List Nat} {a:Nat} (ha:0<a):∀(n:Nat)(l:List Nat),l.length=n->qkz ws l->∃l',qkz ws l'/\l'.length<a/\l'.sum%a=l.sum%a:=by
 intro n
 induction n using yfi with
 | _ n ih=>
  intro l hl hf
  by_cases h:l.length<a
  ·exact⟨l,hf,h,rfl⟩
  ·obtain ⟨i,j,h1,h2,e⟩:=qky a (λi=>(l.take i).sum%a) λi _=>ycY _ ha
   have hj:j<=l.length:=by omega
   let m:=l.take i++l.drop j
   have hm:m.length<n:=by
    show(l.take i++l.drop j).length<n
    rw[lA_,ycU,ydF]
    omega
   have fm:qkz ws m:=λx hx=>by
    rcases mA_.mp hx with hx|hx
    ·exact hf x (List.mem_of_mem_take hx)
    ·exact hf x (List.mem_of_mem_drop hx)
   obtain⟨l',g1,g2,g3⟩:=ih m.length hm m rfl fm
   refine⟨l',g1,g2,g3.trans ?_⟩
   have s1:m.sum=(l.take i).sum+(l.drop j).sum:=ybZ
   have s2:l.sum=(l.take j).sum+(l.drop j).sum:=by
    rw[<-ybZ,ydR]
   rw[s1,s2,ydx,ydx (l.take j).sum]
   have e':(l.take i).sum%a=(l.take j).sum%a:=e
   rw[e']
def Rst(ws:List Nat)(a x:Nat):Prop:=∃l,qkz ws l/\l.sum%a=x%a
theorem Rst.add {ws:List Nat} {a x y:Nat} (hx:Rst ws a x) (hy:Rst ws a y):Rst ws a (x+y):=by
 obtain⟨l,f1,e1⟩:=hx
 obtain⟨m,f2,e2⟩:=hy
 refine⟨l++m,λz hz=>(mA_.mp hz).elim (f1 z) (f2 z),?_⟩
 rw[ybZ,ydx,e1,e2,<-ydx]
theorem Rst.zero(ws:List Nat)(a:Nat):Rst ws a 0:=⟨[],(λ_ h=>absurd h (by simp)),rfl⟩
theorem Rst.mul {ws:List Nat} {a x:Nat} (hx:Rst ws a x):∀k:Nat,Rst ws a (k*x)
 |0=>by rw[Nat.zero_mul];exact Rst.zero ws a
 |k+1=>by rw[ybN];exact(Rst.mul hx k).add hx
theorem Rst.congr {ws:List Nat} {a x y:Nat} (hx:Rst ws a x) (h:x%a=y%a):Rst ws a y:=by
 obtain⟨l,f,e⟩:=hx
 exact⟨l,f,e.trans h⟩
theorem Rst.mod {ws:List Nat} {a x y:Nat} (ha:0<a) (hx:Rst ws a x) (hy:Rst ws a y):Rst ws a (x%y):=by
 refine((hx.add (hy.mul ((x/y)*(a-1)))).congr ?_)
 have hd:=ycg x y
 have e:x+x/y*(a-1)*y=x%y+a*(x/y*y):=by
  obtain⟨b,rfl⟩:∃b,a=b+1:=⟨a-1,by omega⟩
  have e1:b+1-1=b:=by omega
  rw[e1,yfq,Nat.one_mul]
  have e2:x/y*b*y=b*(x/y*y):=by rw[ybO (x/y) b,yfW]
  have e3:y*(x/y)=x/y*y:=ybO _ _
  omega
 rw[e,yc7]
theorem Rst.gcd {ws:List Nat} {a:Nat} (ha:0<a):∀(x y:Nat),Rst ws a x->Rst ws a y->Rst ws a (yaS x y):=by
 intro x
 induction x using yfi with
 | _ x ih=>
  intro y hx hy
  by_cases h:x=0
  ·subst h
   rw[Nat.gcd_zero_left]
   exact hy
  ·rw[Nat.gcd_rec]
   exact ih (y%x) (ycY _ (by omega)) x (hy.mod ha hx) hx
theorem Rst.fold {ws:List Nat} {a:Nat} (ha:0<a):∀(l:List Nat)(d:Nat),qkz ws l->Rst ws a d->Rst ws a (l.foldl yaS d)
 | [],d,_,h=>h
 |w::l,d,hf,h=>by
  rw[fo_]
  refine Rst.fold ha l _ (λx hx=>hf x (mM _ hx)) (Rst.gcd ha d w h ⟨[w],λx hx=>?_,by simp⟩)
  rw[ms_]at hx
  subst hx
  exact hf x mS_
theorem qdS {b:Nat}:∀l:List Nat,(∀x∈l,x<=b)->l.sum<=l.length*b
 | [],_=>by simp
 |x::l,h=>by
  have h1:=h x mS_
  have h2:=qdS l λy hy=>h y (mM _ hy)
  rw[ybl,lC_,ybN]
  omega
theorem qmL {ws:List Nat} {a b n:Nat} (ha:a∈ws) (h0:0<a) (hb:∀x∈ws,x<=b) (hg:ws.foldl yaS 0=1) (hn:a*b<=n):∃l,qkz ws l/\l.sum=n:=by
 have r1:Rst ws a 1:=by
  have:=Rst.fold h0 ws 0 (λ_ h=>h) (Rst.zero ws a)
  rw[hg]at this
  exact this
 obtain⟨l,f,e⟩:=Rst.mul r1 n
 rw[Nat.mul_one]at e
 obtain⟨l',f',hl,e'⟩:=few h0 l.length l rfl f
 have hs:=qdS l' λx hx=>hb x (f' x hx)
 have hle:l'.sum<=n:=by
  have:l'.length*b<=a*b:=yd7 _ (by omega)
  omega
 have em:l'.sum%a=n%a:=e'.trans e
 have hk:∃k,n=l'.sum+k*a:=by
  have d1:=ycg n a
  have d2:=ycg l'.sum a
  have hq:l'.sum/a<=n/a:=Nat.div_le_div_right hle
  refine⟨n/a-l'.sum/a,?_⟩
  rw[Nat.sub_mul,ybO (n/a) a,ybO (l'.sum/a) a]
  have:a*(l'.sum/a)<=a*(n/a):=Nat.mul_le_mul_left _ hq
  omega
 obtain⟨k,hk⟩:=hk
 refine⟨l'++yap k a,λx hx=>?_,?_⟩
 ·rcases mA_.mp hx with hx|hx
  ·exact f' x hx
  ·rw[yb0 hx]
   exact ha
 ·rw[ybZ,ycJ,hk]
end L2.Sk.Law
namespace L2.Sk
namespace Law
open PySem PySem.Spec PyProof.Rows
set_option maxHeartbeats 4000000
open Classical in
noncomputable def rch(ws:List Nat)(n:Nat):Bool:=decide (∃l,qkz ws l/\l.sum=n)
open Classical in
theorem qdD {ws:List Nat} {n:Nat}:rch ws n=true ↔ ∃l,qkz ws l/\l.sum=n:=by
 unfold rch
 exact decide_eq_true_iff
theorem qmM(ws:List Nat):rch ws 0=true:=qdD.mpr ⟨[],(λ_ h=>absurd h (by simp)),rfl⟩
theorem qmN {ws:List Nat} (hw:∀w∈ws,0<w) {n:Nat} (hn:0<n):rch ws n=ws.any λw=>decide (w<=n)&&rch ws (n-w):=by
 rw[ybc,qdD,List.any_eq_true]
 constructor
 ·rintro⟨l,f,e⟩
  cases l with
  |nil=>simp at e;omega
  |cons w l=>
   rw[ybl]at e
   refine⟨w,f w mS_,?_⟩
   rw[yan,decide_eq_true_eq,qdD]
   exact⟨by omega,l,λx hx=>f x (mM _ hx),by omega⟩
 ·rintro⟨w,hm,h⟩
  rw[yan,decide_eq_true_eq,qdD]at h
  obtain⟨h1,l,f,e⟩:=h
  refine⟨w::l,λx hx=>?_,by rw[ybl,e];omega⟩
  rcases List.mem_cons.mp hx with rfl|hx
  ·exact hm
  ·exact f x hx
theorem qmO{ws:List Nat}{a b n:Nat}(ha:a∈ws)(h0:0<a)(hb:∀x∈ws,x<=b)(hg:ws.foldl yaS 0=1)(hn:a*b<=n):rch ws n=true:=qdD.mpr (qmL ha h0 hb hg hn)
noncomputable def qf2(ws:List Nat)(n:Nat):List Nat:=(yag n).filter λi => !rch ws i
theorem qc7 {ws:List Nat} {n:Nat} (h:∀i,n<=i->rch ws i=true):∀k,qf2 ws (n+k)=qf2 ws n
 |0=>rfl
 | k+1=>by
  have e:qf2 ws (n+(k+1))=qf2 ws (n+k):=by
   unfold qf2
   rw[show n+(k+1)=(n+k)+1 by omega,yc6,ybS,ft_,h (n+k) (by omega)]
   simp
  rw[e,qc7 h k]
theorem qkA {α:Type} {e:M D} {t:M Bool} {k:α->D} {xs:M (List D)} {ρ r:Env} {fr:List Nat} {i j:Nat} (as:List α) (p:α->Bool) (f:α->D) (hx:xs ρ=.ok (as.map k,ρ)) (hr:jJ 1 fr ρ=none::r) (hl:as.length<=1000000)
  (ht:∀a∈as,t (some (k a)::r)=.ok (p a,some (k a)::r)) (he:∀a∈as,p a=true->e (some (k a)::r)=.ok (f a,some (k a)::r)) (hb:∀o:OD,ρ.set j ((o::r)[i]?).join=ρ) :
  qZ 1 fr (some (i,j)) xs (qq 0) t e ρ=.ok (.lst ((as.filter p).map f),ρ):=by
 obtain⟨o',q⟩:=qmD as [] none ht he (by simpa using hl)
 rw[qbN,hx]
 simp only[hr,q,yaJ]
 show R.ok (D.lst ((as.filter p).map f),ρ.set j ((o'::r)[i]?).join)=_
 rw[hb o']
theorem qrw{t u:M Bool}{ρ:Env}(h1:t ρ=.ok (false,ρ))(h2:u ρ=.ok (false,ρ)):tor t u ρ=.ok (false,ρ):=by rw[qlW,h1];exact h2
theorem qrx{t u:M Bool}{ρ:Env}(h1:t ρ=.ok (false,ρ)):qle t u ρ=.ok (false,ρ):=by rw[qhq,h1];rfl
theorem qry{t u:M Bool}{ρ:Env}{b:Bool}(h1:t ρ=.ok (true,ρ))(h2:u ρ=.ok (b,ρ)):qle t u ρ=.ok (b,ρ):=by rw[qhq,h1];exact h2
theorem vF{F:List D->R D}{f g h:M D}{ρ:Env}{a b c d:D}(hf:f ρ=.ok (a,ρ))(hg:g ρ=.ok (b,ρ))(hh:h ρ=.ok (c,ρ))(e:F [a,b,c]=.ok d):qg F (qa f (qa g (qa h (ret [])))) ρ=.ok (d,ρ):=qsU hf hg hh e
theorem qmP (xs:List D) (j:Nat) (h:j<=xs.length):qlK xs none (some (j:Int))=xs.take j:=by
 unfold qlK
 rw[HT.sIx_none,HT.sIx_nat,yd2 h]
 simp
theorem j4{i:Nat}{f:M D}{ρ ρ1:Env}{d:D}(h:f ρ=.ok (d,ρ1)):zG i f ρ=.ok (.nx (ρ1.set i (some d))):=by rw[wZ,h]
theorem z8{f:M D}{ρ ρ1:Env}{d:D}(h:f ρ=.ok (d,ρ1)):jc f ρ=.ok (.rt d ρ1):=by rw[wY,h]
theorem qc8{f:M D}{ρ ρ1:Env}{d:D}(h:f ρ=.ok (d,ρ1)):zx f ρ=.ok (.nx ρ1):=by rw[vM,h]
end Law
end L2.Sk
namespace L2.Sk.Law
abbrev Kn:=Nat×Nat
def mxN:List Nat->Nat
 | []=>0
 |n::ns=>max n (mxN ns)
theorem qhJ:∀{ns:List Nat}{n:Nat},n∈ns->n<=mxN ns
 |m::ns,n,h=>by
  unfold mxN
  rcases List.mem_cons.mp h with rfl|h
  ·exact Nat.le_max_left _ _
  ·exact yaP (qhJ h) (Nat.le_max_right _ _)
theorem qeD:∀{ns:List Nat},ns≠[]->mxN ns∈ns
 | [n],_=>by simp[mxN]
 |n::m::ns,_=>by
  have ih:=qeD (ns:=m::ns) (by simp)
  show max n (mxN (m::ns))∈_
  rcases Nat.le_total n (mxN (m::ns))with h|h
  ·rw[Nat.max_eq_right h];exact mM _ ih
  ·rw[Nat.max_eq_left h];exact mS_
theorem qrz {ns:List Nat} {z:Nat} (h1:z∈ns) (h2:∀n∈ns,n<=z):mxN ns=z:=by
 have hne:ns≠[]:=λe=>by rw[e]at h1;cases h1
 exact Nat.le_antisymm (h2 _ (qeD hne)) (qhJ h1)
def qmQ(ks:List Kn)(t:List Nat):Nat:=mxN ((ks.filter λk=>decide (k.1<=t.length)).map λk=>t.getD (t.length-k.1) 0+k.2)
def tab (ks:List Kn):Nat->List Nat
 |0=>[]
 |n+1=>tab ks n++[qmQ ks (tab ks n)]
theorem qhK(ks:List Kn)(n:Nat):tab ks (n+1)=tab ks n++[qmQ ks (tab ks n)]:=rfl
def W(ks:List Kn)(r:Nat):Nat:=(tab ks (r+1)).getD r 0
theorem qc9 (ks:List Kn):∀n,(tab ks n).length=n
 |0=>rfl
 |n+1=>by unfold tab;rw[lA_,qc9 ks n];rfl
theorem qnT (ks:List Kn):∀{n i:Nat},i<n->(tab ks n).getD i 0=W ks i
 | n+1,i,h=>by
  by_cases e:i=n
  ·subst e;rfl
  ·have hi:i<n:=by omega
   rw[<-qnT ks hi,qhK]
   rw[List.getD_eq_getElem?_getD,List.getD_eq_getElem?_getD,List.getElem?_append_left (by rw[qc9];exact hi)]
section
variable{ks:List Kn}(hw:∀k∈ks,1<=k.1)
include hw
theorem qse (r:Nat):W ks r=mxN ((ks.filter λk=>decide (k.1<=r)).map λk=>W ks (r-k.1)+k.2):=by
 have e:W ks r=qmQ ks (tab ks r):=by
  unfold W
  rw[qhK,List.getD_eq_getElem?_getD,List.getElem?_append_right (by rw[qc9];exact yah _),qc9]
  simp
 rw[e]
 unfold qmQ
 rw[qc9]
 congr 1
 refine mL_ λk hk=>?_
 obtain⟨h1,h2⟩:=List.mem_filter.mp hk
 have h3:=hw k h1
 have h4:k.1<=r:=of_decide_eq_true h2
 rw[qnT ks (by omega)]
theorem qtv {r:Nat} {k:Kn} (hk:k∈ks) (h:k.1<=r):W ks (r-k.1)+k.2<=W ks r:=by
 rw[qse hw r]
 exact qhJ (mP_.mpr ⟨k,List.mem_filter.mpr ⟨hk,decide_eq_true h⟩,rfl⟩)
theorem qtZ (r:Nat):W ks r=0\/∃k∈ks,k.1<=r/\W ks r=W ks (r-k.1)+k.2:=by
 by_cases hne:((ks.filter λk=>decide (k.1<=r)).map λk=>W ks (r-k.1)+k.2)=[]
 ·left;rw[qse hw r,hne];rfl
 ·right
  have h:=qeD hne
  rw[<-qse hw r]at h
  obtain⟨k,hk,e⟩:=mP_.mp h
  obtain⟨h1,h2⟩:=List.mem_filter.mp hk
  exact⟨k,h1,of_decide_eq_true h2,e.symm⟩
end
def wS(l:List Kn):Nat:=(l.map (·.1)).sum
def vS(l:List Kn):Nat:=(l.map (·.2)).sum
theorem vP(k:Kn)(l:List Kn):wS (k::l)=k.1+wS l:=by simp[wS]
theorem qao(k:Kn)(l:List Kn):vS (k::l)=k.2+vS l:=by simp[vS]
theorem v9(l m:List Kn):wS (l++m)=wS l+wS m:=by simp[wS]
theorem qap(l m:List Kn):vS (l++m)=vS l+vS m:=by simp[vS]
section
variable{ks:List Kn}(hw:∀k∈ks,1<=k.1)
include hw
theorem qeE:∀(l:List Kn)(r:Nat),(∀k∈l,k∈ks)->wS l<=r->vS l<=W ks r
 | [],r,_,_=>ybB _
 |k::l,r,h,hr=>by
  rw[vP]at hr
  rw[qao]
  have ih:=qeE l (r-k.1) (λx hx=>h x (mM _ hx)) (by omega)
  have:=qtv hw (h k mS_) (show k.1<=r by omega)
  omega
theorem qnU:∀(n r:Nat),r<n->∃l,(∀k∈l,k∈ks)/\wS l<=r/\vS l=W ks r:=by
 intro n
 induction n with
 |zero=>intro r h;omega
 | succ n ih=>
  intro r h
  rcases qtZ hw r with e|⟨k,hk,h1,e⟩
  ·exact⟨[],(λ_ z=>absurd z (by simp)),ybB _,by rw[e];rfl⟩
  ·have hk1:=hw k hk
   obtain⟨l,h2,h3,h4⟩:=ih (r-k.1) (by omega)
   refine⟨k::l,λx hx=>?_,by rw[vP];omega,by rw[qao,e,h4];omega⟩
   rcases List.mem_cons.mp hx with rfl|hx
   ·exact hk
   ·exact h2 x hx
end
theorem seg (h:Nat) (h0:0<h) (l:List Kn) (hl:h<=l.length):∃a b c,l=a++b++c/\b≠[]/\wS b%h=0:=by
 obtain⟨i,j,hij,hj,e⟩:=qky h (λi=>wS (l.take i)%h) (λi _=>ycY _ h0)
 have e2:l.take j=l.take i++(l.take j).drop i:=by
  have:(l.take j).take i=l.take i:=by rw[List.take_take,yd2 (by omega)]
  rw[<-this,ydR]
 refine⟨l.take i,(l.take j).drop i,l.drop j,?_,?_,?_⟩
 ·rw[<-e2,ydR]
 ·intro z
  have:=congrArg List.length z
  simp only[ydF,ycU,lN_]at this
  omega
 ·have e3:wS (l.take i)%h=wS (l.take j)%h:=e
  rw[e2,v9]at e3
  have e4:(0+wS (l.take i))%h=(wS ((l.take j).drop i)+wS (l.take i))%h:=by rw[ybf,e3,Nat.add_comm]
  have:=qeC h0 e4
  rw[<-this];exact Nat.zero_mod _
def qsY(ks:List Kn)(p:Kn):Prop:=p∈ks/\∀k∈ks,k.2*p.1<=p.2*k.1
theorem qhL {ks:List Kn} {p:Kn} (hp:qsY ks p):∀l:List Kn,(∀k∈l,k∈ks)->vS l*p.1<=p.2*wS l
 | [],_=>by simp[vS,wS]
 |k::l,h=>by
  have h1:=hp.2 k (h k mS_)
  have h2:=qhL hp l λx hx=>h x (mM _ hx)
  rw[qao,vP,yfq,Nat.mul_add]
  omega
theorem qrA {H:Nat}:∀l:List Kn,(∀k∈l,k.1<=H)->wS l<=l.length*H
 | [],_=>by simp[wS]
 |k::l,h=>by
  have h1:=h k mS_
  have h2:=qrA l λx hx=>h x (mM _ hx)
  rw[vP,lC_,ybN]
  omega
theorem qpq {ks:List Kn} (hw:∀k∈ks,1<=k.1) {p:Kn} (hp:qsY ks p) {H r:Nat} (hH:∀k∈ks,k.1<=H) (hr:p.1+(p.1-1)*H<=r):W ks r=W ks (r-p.1)+p.2:=by
 have hp1:=hw p hp.1
 refine Nat.le_antisymm ?_ (qtv hw hp.1 (by omega))
 obtain⟨l,h1,h2,h3⟩:=qnU hw (r+1) r (by omega)
 rw[<-h3]
 by_cases hs:wS l<=r-p.1
 ·have:=qeE hw l (r-p.1) h1 hs
  omega
 ·have hlen:p.1<=l.length:=by
   have:=qrA l λk hk=>hH k (h1 k hk)
   apply ybQ
   intro hlt
   have:l.length*H<=(p.1-1)*H:=yd7 _ (by omega)
   omega
  obtain⟨a,b,c,e,hb,hm⟩:=seg p.1 hp1 l hlen
  have hmem:∀k,k∈a\/k∈b\/k∈c->k∈ks:=λk hk=>h1 k (by
   rw[e]
   rcases hk with hk|hk|hk
   ·exact ycm _ (ycm _ hk)
   ·exact ycm _ (mr_ _ hk)
   ·exact mr_ _ hk)
  have eb:wS b=p.1*(wS b/p.1):=by
   have:=ycg (wS b) p.1
   omega
  generalize hq:wS b/p.1=q at eb
  have hvb:vS b<=p.2*q:=by
   have:=qhL hp b λk hk=>hmem k (.inr (.inl hk))
   rw[eb,<-yfW,ybO p.2 p.1,yfW,ybO (vS b)]at this
   exact Nat.le_of_mul_le_mul_left this hp1
  have hq1:1<=q:=by
   apply ybQ
   intro hlt
   have:q=0:=by omega
   rw[this,Nat.mul_zero]at eb
   cases b with
   |nil=>exact hb rfl
   |cons k b=>
    rw[vP]at eb
    have:=hw k (hmem k (.inr (.inl mS_)))
    omega
  have rep_w:∀n,wS (yap n p)=p.1*n:=λn=>by
   induction n with
   |zero=>rfl
   |succ n ih=>rw[rS_,vP,ih,ye4];omega
  have rep_v:∀n,vS (yap n p)=p.2*n:=λn=>by
   induction n with
   |zero=>rfl
   |succ n ih=>rw[rS_,qao,ih,ye4];omega
  obtain⟨q',rfl⟩:∃q',q=q'+1:=⟨q-1,by omega⟩
  have el:wS l=wS a+wS b+wS c:=by rw[e,v9,v9]
  have ev:vS l=vS a+vS b+vS c:=by rw[e,qap,qap]
  have hm1:p.1*(q'+1)=p.1*q'+p.1:=ye4 _ _
  have hm2:p.2*(q'+1)=p.2*q'+p.2:=ye4 _ _
  have:=qeE hw (a++yap q' p++c) (r-p.1) (λk hk=>by
   rcases mA_.mp hk with hk|hk
   ·rcases mA_.mp hk with hk|hk
    ·exact hmem k (.inl hk)
    ·rw[(List.mem_replicate.mp hk).2];exact hp.1
   ·exact hmem k (.inr (.inr hk))) (by rw[v9,v9,rep_w];omega)
  rw[qap,qap,rep_v]at this
  omega
def qhM(ks:List Kn)(p:Kn)(r:Nat):Bool:=decide (W ks r≠W ks (r-p.1)+p.2)
def qda (ks:List Kn) (p:Kn):Nat->Nat
 |0=>p.1
 |n+1=>if p.1<=n/\qhM ks p n=true then n+1 else qda ks p n
theorem qhN {ks:List Kn} {p:Kn}:∀n,qda ks p n<=max p.1 n
 |0=>Nat.le_max_left _ _
 | n+1=>by
  unfold qda
  split
  ·exact Nat.le_max_right _ _
  ·have:=qhN (ks:=ks) (p:=p) n
   omega
theorem qeF {ks:List Kn} {p:Kn}:∀n,p.1<=qda ks p n
 |0=>yah _
 |n+1=>by
  unfold qda
  split
  ·omega
  ·exact qeF n
end L2.Sk.Law
namespace L2.Sk.Law
def zW:List Kw->Int->List (List Int)
 | [],_=>[[]]
 |k::ks,r=>(yag (ofn k r+1)).flatMap λt:Nat=>(zW ks (r-(t:Int)*k.w)).map λl=>(t:Int)::l
theorem qdT:∀(ks:List Kw)(found:List (List Int×Int)),(ks.foldl (λf k=>qeB k f) found).map (·.1)=found.flatMap λp=>(zW ks p.2).map λl=>p.1++l
 | [],found=>by
  simp only[List.foldl_nil,zW,mC_,ycO,yaR]
  induction found with
  |nil=>rfl
  |cons p found ih=>rw[mC_,fC_,ih];rfl
 |k::ks,found=>by
  rw[fo_,qdT ks (qeB k found)]
  unfold qeB
  rw[List.flatMap_assoc]
  congr 1
  funext p
  simp only[zW]
  rw[List.flatMap_map,List.map_flatMap]
  congr 1
  funext t
  rw[mm_]
  congr 1
  funext l
  simp
theorem qgU (ks:List Kw) (r:Int):(ks.foldl (λf k=>qeB k f) [([],r)]).map (·.1)=zW ks r:=by
 rw[qdT]
 simp
def mxZ:List Int->Int
 | []=>0
 |a::l=>l.foldl max a
theorem qdb:∀(l:List Int)(a:Int),a<=l.foldl max a/\(∀x∈l,x<=l.foldl max a)/\(l.foldl max a=a\/l.foldl max a∈l)
 | [],a=>⟨ycp _,(λ_ h=>by cases h),.inl rfl⟩
 | b :: l,a=>by
  obtain⟨h1,h2,h3⟩:=qdb l (max a b)
  rw[fo_]
  refine⟨by omega,λx hx=>?_,?_⟩
  ·rcases List.mem_cons.mp hx with rfl|hx
   ·omega
   ·exact h2 x hx
  ·rcases h3 with h3|h3
   ·rw[h3]
    rcases Int.le_total a b with h|h
    ·right;rw[Int.max_eq_right h];exact mS_
    ·left;exact Int.max_eq_left h
   ·exact .inr (mM _ h3)
theorem qkB {l:List Int} {x:Int} (h:x∈l):x<=mxZ l:=by
 cases l with
 |nil=>cases h
 |cons a l=>
  obtain⟨h1,h2,_⟩:=qdb l a
  rcases List.mem_cons.mp h with rfl|h
  ·exact h1
  ·exact h2 x h
theorem qgV {l:List Int} (h:l≠[]):mxZ l∈l:=by
 cases l with
 |nil=>exact absurd rfl h
 | cons a l=>
  rcases(qdb l a).2.2 with e|e
  ·show l.foldl max a∈_
   rw[e];exact mS_
  ·exact mM _ e
def zY:List Kw->Int->Int
 | [],_=>0
 |k::ks,r=>mxZ ((yag (ofn k r+1)).map λt:Nat=>(t:Int)*k.v+zY ks (r-(t:Int)*k.w))
theorem qgW{k:Kw}{ks:List Kw}{r:Int}{t:Nat}(h:t<=ofn k r):(t:Int)*k.v+zY ks (r-(t:Int)*k.w)<=zY (k::ks) r:=qkB (mP_.mpr ⟨t,mR_.mpr (by omega),rfl⟩)
theorem qkC (k:Kw) (ks:List Kw) (r:Int):∃t,t<=ofn k r/\(t:Int)*k.v+zY ks (r-(t:Int)*k.w)=zY (k::ks) r:=by
 have h:=qgV (l:=(yag (ofn k r+1)).map λt:Nat=>(t:Int)*k.v+zY ks (r-(t:Int)*k.w)) (by simp)
 obtain⟨t,ht,e⟩:=mP_.mp h
 exact⟨t,by have:=mR_.mp ht;omega,e⟩
theorem qcx:∀(ks:List Kw)(r:Int)(l:List Int),l∈zW ks r->qL ks l<=zY ks r
 | [],r,l,h=>by
  have:l=[]:=ms_.mp h
  subst this
  exact ycp _
 |k::ks,r,l,h=>by
  obtain⟨t,ht,h2⟩:=List.mem_flatMap.mp h
  obtain⟨l',hl',rfl⟩:=mP_.mp h2
  have h3:=qcx ks _ l' hl'
  have h4:=qgW (k:=k) (ks:=ks) (r:=r) (t:=t) (by have:=mR_.mp ht;omega)
  show(t:Int)*k.v+qL ks l'<=_
  omega
def yi(k:Kw)(ks:List Kw)(r:Int):Nat:=(yag (ofn k r+1)).findIdx λt:Nat=>decide ((t:Int)*k.v+zY ks (r-(t:Int)*k.w)=zY (k::ks) r)
def qpr:List Kw->Int->List Int
 | [],_=>[]
 |k::ks,r=>(yi k ks r:Int)::qpr ks (r-(yi k ks r:Int)*k.w)
theorem qiN (k:Kw) (ks:List Kw) (r:Int):yi k ks r<=ofn k r/\(yi k ks r:Int)*k.v+zY ks (r-(yi k ks r:Int)*k.w)=zY (k::ks) r/\∀t,t<yi k ks r->(t:Int)*k.v+zY ks (r-(t:Int)*k.w)<zY (k::ks) r:=by
 obtain⟨t0,h0,e0⟩:=qkC k ks r
 have hlt:yi k ks r<(yag (ofn k r+1)).length:=by
  unfold yi
  rw[yfr]
  exact⟨t0,mR_.mpr (by omega),decide_eq_true e0⟩
 rw[lR_]at hlt
 refine⟨by omega,?_,λt ht=>?_⟩
 ·have:=yfP (xs:=yag (ofn k r+1)) (p:=λt:Nat=>decide ((t:Int)*k.v+zY ks (r-(t:Int)*k.w)=zY (k::ks) r)) (w:=by rw[lR_];exact hlt)
  have:=of_decide_eq_true this
  rw[ycF]at this
  exact this
 ·have hn:=yfs (xs:=yag (ofn k r+1)) (p:=λt:Nat=>decide ((t:Int)*k.v+zY ks (r-(t:Int)*k.w)=zY (k::ks) r)) (i:=t) ht
  rw[ycF]at hn
  have h1:=qgW (k:=k) (ks:=ks) (r:=r) (t:=t) (by omega)
  have h2:¬((t:Int)*k.v+zY ks (r-(t:Int)*k.w)=zY (k::ks) r):=by simpa using hn
  omega
theorem qdU:∀(ks:List Kw)(r:Int),∃rest,(zW ks r).filter (λl=>decide (qL ks l=zY ks r))=qpr ks r::rest
 | [],r=>⟨[],rfl⟩
 | k::ks,r=>by
  obtain⟨h1,h2,h3⟩:=qiN k ks r
  obtain⟨rest,ih⟩:=qdU ks (r-(yi k ks r:Int)*k.w)
  have split:yag (ofn k r+1)=yag (yi k ks r)++(yi k ks r::(ydw (yi k ks r+1) (ofn k r-yi k ks r))):=by
   rw[yb1,yb1,<-ye5]
   have:=yd8 (s:=0) (m:=yi k ks r) (n:=ofn k r-yi k ks r+1)
   rw[ybf]at this
   rw[this]
   congr 1
   omega
  simp only[zW]
  rw[split,yf0,fC_,ybS,ybS]
  have z:((yag (yi k ks r)).flatMap λt:Nat=>(zW ks (r-(t:Int)*k.w)).map λl=>(t:Int)::l).filter (λl=>decide (qL (k::ks) l=zY (k::ks) r))=[]:=by
   rw[yft]
   intro l hl
   obtain⟨t,ht,h4⟩:=List.mem_flatMap.mp hl
   obtain⟨l',hl',rfl⟩:=mP_.mp h4
   have h5:=h3 t (mR_.mp ht)
   have h6:=qcx ks _ l' hl'
   have e:qL (k::ks) ((t:Int)::l')=(t:Int)*k.v+qL ks l':=rfl
   rw[e]
   simp
   omega
  rw[z,yaJ,yfj]
  have e:(λl=>decide (qL (k::ks) l=zY (k::ks) r))∘(λl=>(yi k ks r:Int)::l)=λl=>decide (qL ks l=zY ks (r-(yi k ks r:Int)*k.w)):=by
   funext l
   have e1:qL (k::ks) ((yi k ks r:Int)::l)=(yi k ks r:Int)*k.v+qL ks l:=rfl
   simp only[ycK,e1,<-h2]
   rw[decide_eq_decide]
   omega
  rw[e,ih]
  exact⟨_,rfl⟩
end L2.Sk.Law
namespace L2.Sk.Law
def qt:List Kw->List Int->Int
 |k::ks,t::l=>t*k.w+qt ks l
 |_,_=>0
theorem qch (k:Kw) (t:Int):∀(pre:List Kw)(ld:List Int),pre.length=ld.length->qt (pre++[k]) (ld++[t])=qt pre ld+t*k.w
 | [],[],_=>by simp[qt]
 |a::pre,[],h=>by simp at h
 | [],b::ld,h=>by simp at h
 |a::pre,b::ld,h=>by
  have:=qch k t pre ld (by simpa using h)
  simp only[ye3,qt,this]
  omega
def mnO:List Int->Option Int
 | []=>none
 |a::l=>some (l.foldl min a)
theorem qdc:∀(l:List Int)(a:Int),l.foldl min a<=a/\(∀x∈l,l.foldl min a<=x)/\(l.foldl min a=a\/l.foldl min a∈l)
 | [],a=>⟨ycp _,(λ_ h=>by cases h),.inl rfl⟩
 | b :: l,a=>by
  obtain⟨h1,h2,h3⟩:=qdc l (min a b)
  rw[fo_]
  refine⟨by omega,λx hx=>?_,?_⟩
  ·rcases List.mem_cons.mp hx with rfl|hx
   ·omega
   ·exact h2 x hx
  ·rcases h3 with h3|h3
   ·rw[h3]
    rcases Int.le_total a b with h|h
    ·left;exact Int.min_eq_left h
    ·right;rw[Int.min_eq_right h];exact mS_
   ·exact .inr (mM _ h3)
theorem qrB {l:List Int} {x:Int} (h:x∈l):∃m,mnO l=some m/\m<=x:=by
 cases l with
 |nil=>cases h
 |cons a l=>
  obtain⟨h1,h2,_⟩:=qdc l a
  rcases List.mem_cons.mp h with rfl|h
  ·exact⟨_,rfl,h1⟩
  ·exact⟨_,rfl,h2 x h⟩
theorem qps {l:List Int} {m:Int} (h:mnO l=some m):m∈l:=by
 cases l with
 |nil=>cases h
 | cons a l=>
  have h:l.foldl min a=m:=yaw h
  rcases(qdc l a).2.2 with e|e
  ·rw[h]at e
   rw[e];exact mS_
  ·rw[h]at e
   exact mM _ e
end L2.Sk.Law
namespace L2.Sk.Law
structure Sel (f:List Int->Option Int) (le:Int->Int->Prop):Prop where
 no:f []=none
 is:∀l,l≠[]->∃m,f l=some m/\m∈l/\∀x∈l,le m x
 add:∀{a b:Int}(c:Int),le a b->le (c+a) (c+b)
 anti:∀{a b:Int},le a b->le b a->a=b
 tr:∀{a b c:Int},le a b->le b c->le a c
 rf:∀a:Int,le a a
def mxO:List Int->Option Int
 | []=>none
 |a::l=>some (l.foldl max a)
theorem qgX:Sel mnO (λa b=>a<=b):=by
 refine⟨rfl,λl hl=>?_,λc h=>by omega,λh1 h2=>by omega,λh1 h2=>by omega,λa=>ycp _⟩
 cases l with
 |nil=>exact absurd rfl hl
 |cons a l=>
  refine⟨_,rfl,qps rfl,λx hx=>?_⟩
  obtain⟨m,e,h⟩:=qrB hx
  have e:l.foldl min a=m:=yaw e
  rw[e]
  exact h
theorem qaq:Sel mxO (λa b=>b<=a):=by
 refine⟨rfl,λl hl=>?_,λc h=>by omega,λh1 h2=>by omega,λh1 h2=>by omega,λa=>ycp _⟩
 cases l with
 |nil=>exact absurd rfl hl
 |cons a l=>exact⟨_,rfl,qgV (l:=a::l) (by simp),λx hx=>qkB (l:=a::l) hx⟩
section
variable{f:List Int->Option Int}{le:Int->Int->Prop}(S:Sel f le)
theorem Sel.some_of (S:Sel f le) {l:List Int} {m:Int} (h:f l=some m):m∈l/\∀x∈l,le m x:=by
 by_cases hl:l=[]
 ·subst hl
  rw[S.no]at h
  cases h
 ·obtain⟨m',e,h1,h2⟩:=S.is l hl
  rw[h]at e
  cases e
  exact⟨h1,h2⟩
theorem Sel.mem_of (S:Sel f le) {l:List Int} {x:Int} (h:x∈l):∃m,f l=some m/\le m x:=by
 obtain⟨m,e,_,h2⟩:=S.is l (λe=>by rw[e]at h;cases h)
 exact⟨m,e,h2 x h⟩
end
def fR (f:List Int->Option Int):List Kw->Int->Option Int
 | [],r=>if r=0 then some 0 else none
 |k::ks,r=>f ((yag (ofn k r+1)).filterMap λt:Nat=>(fR f ks (r-(t:Int)*k.w)).map λh=>(t:Int)*k.v+h)
def wF(f:List Int->Option Int)(k:Kw)(ks:List Kw)(r:Int)(t:Nat):Option Int:=(fR f ks (r-(t:Int)*k.w)).map λh=>(t:Int)*k.v+h
theorem qeG(f:List Int->Option Int)(k:Kw)(ks:List Kw)(r:Int):fR f (k::ks) r=f ((yag (ofn k r+1)).filterMap (wF f k ks r)):=by rw[fR];rfl
theorem qkD {f:List Int->Option Int} {le:Int->Int->Prop} (S:Sel f le) {k:Kw} {ks:List Kw} {r:Int} {t:Nat} (ht:t<=ofn k r) {h':Int} (e:fR f ks (r-(t:Int)*k.w)=some h'):∃h,fR f (k::ks) r=some h/\le h ((t:Int)*k.v+h'):=by
 rw[qeG]
 refine S.mem_of (List.mem_filterMap.mpr ⟨t,mR_.mpr (by omega),?_⟩)
 unfold wF
 rw[e]
 rfl
theorem qsZ {f:List Int->Option Int} {le:Int->Int->Prop} (S:Sel f le) {k:Kw} {ks:List Kw} {r h:Int} (e:fR f (k::ks) r=some h):∃t,t<=ofn k r/\wF f k ks r t=some h:=by
 rw[qeG]at e
 obtain⟨t,ht,et⟩:=List.mem_filterMap.mp (S.some_of e).1
 exact⟨t,by have:=mR_.mp ht;omega,et⟩
def fT(f:List Int->Option Int)(k:Kw)(ks:List Kw)(r:Int):Nat:=(yag (ofn k r+1)).findIdx λt:Nat=>decide (wF f k ks r t=fR f (k::ks) r)
def qbc (f:List Int->Option Int):List Kw->Int->List Int
 | [],_=>[]
 |k::ks,r=>(fT f k ks r:Int)::qbc f ks (r-(fT f k ks r:Int)*k.w)
theorem qgY {f:List Int->Option Int} {le:Int->Int->Prop} (S:Sel f le) {k:Kw} {ks:List Kw} {r h:Int} (e:fR f (k::ks) r=some h):fT f k ks r<=ofn k r/\wF f k ks r (fT f k ks r)=some h/\∀t,t<fT f k ks r->wF f k ks r t≠some h:=by
 obtain⟨t0,h0,e0⟩:=qsZ S e
 have hlt:fT f k ks r<(yag (ofn k r+1)).length:=by
  unfold fT
  rw[yfr]
  exact⟨t0,mR_.mpr (by omega),decide_eq_true (by rw[e0,e])⟩
 rw[lR_]at hlt
 refine⟨by omega,?_,λt ht=>?_⟩
 ·have:=yfP (xs:=yag (ofn k r+1)) (p:=λt:Nat=>decide (wF f k ks r t=fR f (k::ks) r)) (w:=by rw[lR_];exact hlt)
  have:=of_decide_eq_true this
  rw[ycF]at this
  exact this.trans e
 ·have hn:=yfs (xs:=yag (ofn k r+1)) (p:=λt:Nat=>decide (wF f k ks r t=fR f (k::ks) r)) (i:=t) ht
  rw[ycF,e]at hn
  simpa using hn
theorem vd {k:Kw} {ks:List Kw} {r:Int} {l:List Int}:l∈zW (k::ks) r ↔ ∃(t:Nat)(l':List Int),t<=ofn k r/\l'∈zW ks (r-(t:Int)*k.w)/\l=(t:Int)::l':=by
 constructor
 ·intro h
  obtain⟨t,ht,h2⟩:=List.mem_flatMap.mp h
  obtain⟨l',hl',rfl⟩:=mP_.mp h2
  exact⟨t,l',by have:=mR_.mp ht;omega,hl',rfl⟩
 ·rintro⟨t,l',ht,hl',rfl⟩
  exact List.mem_flatMap.mpr ⟨t,mR_.mpr (by omega),mP_.mpr ⟨l',hl',rfl⟩⟩
theorem qkE {f:List Int->Option Int} {le:Int->Int->Prop} (S:Sel f le):∀(ks:List Kw)(r:Int),∀l∈zW ks r,qt ks l=r->∃h,fR f ks r=some h/\le h (qL ks l)
 | [],r,l,hl,hw=>by
  have:l=[]:=ms_.mp hl
  subst this
  have hw:(0:Int)=r:=hw
  subst hw
  exact⟨0,by simp[fR],S.rf _⟩
 |k::ks,r,l,hl,hw=>by
  obtain⟨t,l',ht,hl',rfl⟩:=vd.mp hl
  have hw:(t:Int)*k.w+qt ks l'=r:=hw
  obtain⟨h',e',le'⟩:=qkE S ks _ l' hl' (by omega)
  obtain⟨h,e,q⟩:=qkD S ht e'
  exact⟨h,e,S.tr q (S.add _ le')⟩
theorem qhO {f:List Int->Option Int} {le:Int->Int->Prop} (S:Sel f le):∀(ks:List Kw)(r h:Int),fR f ks r=some h->∃rest,(zW ks r).filter (λl=>decide (qt ks l=r)&&decide (qL ks l=h))=qbc f ks r::rest
 | [],r,h,e=>by
  have:r=0/\h=0:=by
   unfold fR at e
   split at e
   ·exact⟨by assumption,(yaw e).symm⟩
   ·cases e
  obtain⟨rfl,rfl⟩:=this
  exact⟨[],rfl⟩
 | k :: ks,r,h,e=>by
  obtain⟨h1,h2,h3⟩:=qgY S e
  obtain ⟨h',e',eh⟩:∃h',fR f ks (r-(fT f k ks r:Int)*k.w)=some h'/\(fT f k ks r:Int)*k.v+h'=h:=by
   unfold wF at h2
   cases ec:fR f ks (r-(fT f k ks r:Int)*k.w) with
   |none=>rw[ec]at h2;cases h2
   |some h'=>rw[ec]at h2;exact⟨h',rfl,yaw h2⟩
  obtain⟨rest,ih⟩:=qhO S ks _ h' e'
  have split:yag (ofn k r+1)=yag (fT f k ks r)++(fT f k ks r::(ydw (fT f k ks r+1) (ofn k r-fT f k ks r))):=by
   rw[yb1,yb1,<-ye5]
   have:=yd8 (s:=0) (m:=fT f k ks r) (n:=ofn k r-fT f k ks r+1)
   rw[ybf]at this
   rw[this]
   congr 1
   omega
  simp only[zW]
  rw[split,yf0,fC_,ybS,ybS]
  have z:((yag (fT f k ks r)).flatMap λt:Nat=>(zW ks (r-(t:Int)*k.w)).map λl=>(t:Int)::l).filter (λl=>decide (qt (k::ks) l=r)&&decide (qL (k::ks) l=h))=[]:=by
   rw[yft]
   intro l hl
   obtain⟨t,ht,h4⟩:=List.mem_flatMap.mp hl
   obtain⟨l',hl',rfl⟩:=mP_.mp h4
   have ht:=mR_.mp ht
   have h5:=h3 t ht
   intro hc
   rw[yan,decide_eq_true_eq,decide_eq_true_eq]at hc
   have hc1:(t:Int)*k.w+qt ks l'=r:=hc.1
   have hc2:(t:Int)*k.v+qL ks l'=h:=hc.2
   obtain⟨q,eq,leq⟩:=qkE S ks _ l' hl' (show qt ks l'=r-(t:Int)*k.w by omega)
   obtain⟨z,ez,lez⟩:=qkD S (k:=k) (t:=t) (show t<=ofn k r by omega) eq
   rw[e]at ez
   cases ez
   refine h5 ?_
   unfold wF
   rw[eq]
   show some ((t:Int)*k.v+q)=some h
   congr 1
   have:le ((t:Int)*k.v+q) ((t:Int)*k.v+qL ks l'):=S.add _ leq
   rw[hc2]at this
   exact S.anti this lez
  rw[z,yaJ,yfj]
  have ee:(λl=>decide (qt (k::ks) l=r)&&decide (qL (k::ks) l=h))∘(λl=>(fT f k ks r:Int)::l)=(λl=>decide (qt ks l=r-(fT f k ks r:Int)*k.w)&&decide (qL ks l=h')):=by
   funext l
   have e1:qL (k::ks) ((fT f k ks r:Int)::l)=(fT f k ks r:Int)*k.v+qL ks l:=rfl
   have e2:qt (k::ks) ((fT f k ks r:Int)::l)=(fT f k ks r:Int)*k.w+qt ks l:=rfl
   simp only[ycK,e1,e2,<-eh]
   congr 1
   ·rw[decide_eq_decide]
    omega
   ·rw[decide_eq_decide]
    omega
  rw[ee,ih]
  exact⟨_,rfl⟩
def qeH:List Kw->List Int->Prop
 | [],[]=>True
 |k::ks,t::l=>0<=t/\(∀j,k.m=some j->t<=j)/\qeH ks l
 |_,_=>False
theorem qkF:∀(ks:List Kw)(l:List Int),qeH ks l->ks.length=l.length
 | [],[],_=>rfl
 |k::ks,t::l,h=>by rw[lC_,lC_,qkF ks l h.2.2]
 | [],t::l,h=>h.elim
 |k::ks,[],h=>h.elim
theorem wf:∀(ks:List Kw)(l:List Int),(∀k∈ks,z7 k)->qeH ks l->0<=qt ks l
 | [],[],_,_=>ycp _
 |k::ks,t::l,hk,h=>by
  have:=wf ks l (λx hx=>hk x (mM _ hx)) h.2.2
  have h2:0<=t*k.w:=ydl h.1 (by have:=(hk k mS_).1;omega)
  show 0<=t*k.w+qt ks l
  omega
 | [],t::l,_,h=>h.elim
 |k::ks,[],_,h=>h.elim
theorem ve:∀(ks:List Kw)(r:Int)(l:List Int),(∀k∈ks,z7 k)->0<=r->qt ks l=r->(l∈zW ks r ↔ qeH ks l)
 | [],r,l,_,_,_=>by
  cases l with
  |nil=>exact⟨λ_=>trivial,λ_=>ms_.mpr rfl⟩
  |cons a l=>exact⟨(λh=>by have:=ms_.mp h;cases this),λh=>h.elim⟩
 |k::ks,r,[],_,_,_=>⟨(λh=>by obtain⟨t,l',_,_,e⟩:=vd.mp h;cases e),λh=>h.elim⟩
 | k :: ks,r,t::l,hk,h0,hw=>by
  have gk:=hk k mS_
  have hks:=λx hx=>hk x (mM k hx)
  have hw:t*k.w+qt ks l=r:=hw
  constructor
  ·intro h
   obtain⟨n,l',hn,hl',e⟩:=vd.mp h
   obtain⟨rfl,rfl⟩:=List.cons.inj e
   have ok:=qba gk.1 gk.2 h0 n
   rw[decide_eq_true hn]at ok
   unfold okT at ok
   rw[yan,decide_eq_true_eq]at ok
   refine⟨by omega,λj ej=>?_,(ve ks _ l hks (by have:=ok.1;omega) (by omega)).mp hl'⟩
   have:=ok.2
   rw[ej]at this
   exact of_decide_eq_true this
  ·intro h
   have wn:=wf ks l hks h.2.2
   have ht:((t.toNat:Nat):Int)=t:=by have:=h.1;omega
   refine vd.mpr ⟨t.toNat,l,?_,?_,by rw[ht]⟩
   ·have ok:okT k t.toNat r=true:=by
     unfold okT
     rw[yan,decide_eq_true_eq,ht]
     refine⟨by omega,?_⟩
     cases em:k.m with
     |none=>rfl
     |some j=>exact decide_eq_true (h.2.1 j em)
    rw[qba gk.1 gk.2 h0]at ok
    exact of_decide_eq_true ok
   ·rw[ht]
    exact(ve ks _ l hks (by omega) (by omega)).mpr h.2.2
theorem qhP (k:Kw) (t:Int):∀(ks:List Kw)(l:List Int),qeH ks l->0<=t->(∀j,k.m=some j->t<=j)->qeH (ks++[k]) (l++[t])
 | [],[],_,h1,h2=>⟨h1,h2,trivial⟩
 |a::ks,b::l,h,h1,h2=>⟨h.1,h.2.1,qhP k t ks l h.2.2 h1 h2⟩
 | [],b::l,h,_,_=>h.elim
 |a::ks,[],h,_,_=>h.elim
theorem qkG:∀(ks:List Kw)(l:List Int),qeH ks l->qeH ks.reverse l.reverse/\qt ks.reverse l.reverse=qt ks l/\qL ks.reverse l.reverse=qL ks l
 | [],[],_=>⟨trivial,rfl,rfl⟩
 | k::ks,t::l,h=>by
  obtain⟨a,b,c⟩:=qkG ks l h.2.2
  have ln:=qkF _ _ a
  rw[ycL,ycL]
  refine⟨qhP k t _ _ a h.1 h.2.1,?_,?_⟩
  ·rw[qch k t _ _ ln,b]
   show qt ks l+t*k.w=t*k.w+qt ks l
   omega
  ·rw[qbb k t _ _ ln,c]
   show qL ks l+t*k.v=t*k.v+qL ks l
   omega
 | [],t::l,h=>h.elim
 |k::ks,[],h=>h.elim
theorem qdd {f:List Int->Option Int} {le:Int->Int->Prop} (S:Sel f le) {ks:List Kw} {r h:Int} (e:fR f ks r=some h):qbc f ks r∈zW ks r/\qt ks (qbc f ks r)=r/\qL ks (qbc f ks r)=h:=by
 obtain⟨rest,q⟩:=qhO S ks r h e
 have:qbc f ks r∈(zW ks r).filter (λl=>decide (qt ks l=r)&&decide (qL ks l=h)):=by rw[q];exact mS_
 obtain⟨a,b⟩:=List.mem_filter.mp this
 rw[yan,decide_eq_true_eq,decide_eq_true_eq]at b
 exact⟨a,b.1,b.2⟩
theorem qgZ {f:List Int->Option Int} {le:Int->Int->Prop} (S:Sel f le) {ks:List Kw} (hk:∀k∈ks,z7 k) {r:Int} (h0:0<=r) {h:Int} (e:fR f ks r=some h):∃h',fR f ks.reverse r=some h'/\le h' h:=by
 obtain⟨a,b,c⟩:=qdd S e
 have v:=(ve ks r _ hk h0 b).mp a
 obtain⟨v1,v2,v3⟩:=qkG ks _ v
 have hkr:∀k∈ks.reverse,z7 k:=λk hx=>hk k (List.mem_reverse.mp hx)
 obtain⟨h',e',q⟩:=qkE S ks.reverse r _ ((ve ks.reverse r _ hkr h0 (v2.trans b)).mpr v1) (v2.trans b)
 rw[v3,c]at q
 exact⟨h',e',q⟩
theorem qrC {f:List Int->Option Int} {le:Int->Int->Prop} (S:Sel f le) {ks:List Kw} (hk:∀k∈ks,z7 k) {r:Int} (h0:0<=r):fR f ks.reverse r=fR f ks r:=by
 have hkr:∀k∈ks.reverse,z7 k:=λk hx=>hk k (List.mem_reverse.mp hx)
 cases e:fR f ks r with
 |some h=>
  obtain⟨h',e',q⟩:=qgZ S hk h0 e
  obtain⟨h2,e2,q2⟩:=qgZ S hkr h0 e'
  rw[ycZ,e]at e2
  cases e2
  rw[e',S.anti q q2]
 | none=>
  cases e':fR f ks.reverse r with
  |none=>rfl
  |some h'=>
   obtain⟨h2,e2,q2⟩:=qgZ S hkr h0 e'
   rw[ycZ,e]at e2
   cases e2
end L2.Sk.Law
namespace L2.Sk.Law
theorem qnV:∀(i:Nat)(p:Kn),wS (yap i p)=i*p.1
 |0,p=>by simp[wS]
 |i+1,p=>by rw[rS_,vP,qnV i p,ybN];omega
theorem qnW:∀(i:Nat)(p:Kn),vS (yap i p)=i*p.2
 |0,p=>by simp[vS]
 |i+1,p=>by rw[rS_,qao,qnW i p,ybN];omega
def kwN(k:Kn):Kw:=⟨(k.1:Nat),(k.2:Nat),none⟩
theorem qrD {k:Kn} (r:Nat):ofn (kwN k) (r:Nat)=r/k.1:=by
 unfold ofn kwN
 show(((r:Nat):Int)/(k.1:Nat)).toNat=_
 rw[<-Int.natCast_ediv,ybj]
theorem qdV:∀(ks:List Kn)(l:List Kn)(r:Nat),(∀k∈ks,1<=k.1)->(∀k∈l,k∈ks)->wS l<=r->((vS l:Nat):Int)<=zY (ks.map kwN) (r:Nat)
 | [],l,r,_,hl,_=>by
  cases l with
  |nil=>exact ycp _
  |cons k l=>exact absurd (hl k mS_) (by simp)
 | k :: ks,l,r,hw,hl,hr=>by
  have part:∀l:List Kn,(∀x∈l,x∈k::ks)->∃(t:Nat)(l':List Kn),(∀x∈l',x∈ks)/\wS l=t*k.1+wS l'/\vS l=t*k.2+vS l':=λl=>by
   induction l with
   |nil=>intro _;exact⟨0,[],(λ_ h=>by cases h),by simp[wS],by simp[vS]⟩
   | cons x l ih=>
    intro h
    obtain⟨t,l',a,b,c⟩:=ih λy hy=>h y (mM _ hy)
    rcases List.mem_cons.mp (h x mS_)with rfl|hx
    ·exact⟨t+1,l',a,by rw[vP,b,ybN];omega,by rw[qao,c,ybN];omega⟩
    ·refine⟨t,x::l',λy hy=>?_,by rw[vP,b,vP];omega,by rw[qao,c,qao];omega⟩
     rcases List.mem_cons.mp hy with rfl|hy
     ·exact hx
     ·exact a y hy
  obtain⟨t,l',a,b,c⟩:=part l hl
  have hk1:=hw k mS_
  have ht:t<=ofn (kwN k) (r:Nat):=by
   rw[qrD,ycS (by omega)]
   omega
  have ih:=qdV ks l' (r-t*k.1) (λx hx=>hw x (mM _ hx)) a (by omega)
  have g:=qgW (k:=kwN k) (ks:=ks.map kwN) (r:=(r:Nat)) (t:=t) ht
  have e:((r:Nat):Int)-(t:Int)*(kwN k).w=((r-t*k.1:Nat):Int):=by
   show((r:Nat):Int)-(t:Int)*(k.1:Nat)=_
   have:((t*k.1:Nat):Int)=(t:Int)*(k.1:Nat):=ybe _ _
   omega
  rw[e]at g
  have ev:(t:Int)*(kwN k).v=((t*k.2:Nat):Int):=(ybe _ _).symm
  rw[ev]at g
  rw[mC_,c]
  omega
theorem qdW:∀(ks:List Kn)(r:Nat),(∀k∈ks,1<=k.1)->∃l:List Kn,(∀k∈l,k∈ks)/\wS l<=r/\((vS l:Nat):Int)=zY (ks.map kwN) (r:Nat)
 | [],r,_=>⟨[],(λ_ h=>by cases h),ybB _,rfl⟩
 | k :: ks,r,hw=>by
  have hk1:=hw k mS_
  obtain⟨t,ht,e⟩:=qkC (kwN k) (ks.map kwN) ((r:Nat):Int)
  rw[qrD,ycS (by omega)]at ht
  obtain⟨l,a,b,c⟩:=qdW ks (r-t*k.1) (λx hx=>hw x (mM _ hx))
  have e1:((r:Nat):Int)-(t:Int)*(kwN k).w=((r-t*k.1:Nat):Int):=by
   show((r:Nat):Int)-(t:Int)*(k.1:Nat)=_
   have:((t*k.1:Nat):Int)=(t:Int)*(k.1:Nat):=ybe _ _
   omega
  rw[e1,<-c]at e
  have ev:(t:Int)*(kwN k).v=((t*k.2:Nat):Int):=(ybe _ _).symm
  rw[ev]at e
  refine⟨yap t k++l,λx hx=>?_,?_,?_⟩
  ·rcases mA_.mp hx with hx|hx
   ·rw[yb0 hx]
    exact mS_
   ·exact mM _ (a x hx)
  ·rw [v9]
   have:wS (yap t k)=t*k.1:=by
    exact qnV t k
   omega
  ·rw [qap,mC_,<-e]
   have:vS (yap t k)=t*k.2:=by
    exact qnW t k
   omega
theorem qrE (ks:List Kn) (hw:∀k∈ks,1<=k.1) (r:Nat):zY (ks.map kwN) (r:Nat)=((W ks r:Nat):Int):=by
 obtain⟨l,a,b,c⟩:=qdW ks r hw
 obtain⟨l2,a2,b2,c2⟩:=qnU hw (r+1) r (by omega)
 have h1:=qeE hw l r a b
 have h2:=qdV ks l2 r hw a2 b2
 rw[c2]at h2
 omega
end L2.Sk.Law
namespace L2.Sk
namespace Law
open PySem PySem.Spec PyProof.Rows
set_option maxHeartbeats 4000000
local macro_rules|`(%[$x|0])=>`(qa $x (ret []))|`(%[$x,$xs,*|0])=>`(qa $x %[$xs,*|0])
local macro_rules|`(%[$x|1])=>`(⟨rfl,rfl,rfl,by decide +kernel,rfl,by decide +kernel,by decide +kernel⟩)|`(%[$f,$d,$m,$F,$p|2])=>`(⟨$f,$d,?_,$m,($F).kp,($F).binds fun _ _ _ _ _ _ us hl=>match us,hl with | $p,_=>rfl⟩)|`(%[$s,$f|3])=>do let K:=Lean.mkIdent `K;`(yaf $K yad $s=some (some (.ref $f)))|`(%[$s,$t,$n:num|4])=>do let K:=Lean.mkIdent `K;let f:=Lean.mkIdent (Lean.Name.mkSimple ("f"++toString n.getNat));let oc:=Lean.mkIdent (Lean.Name.mkSimple ("oc"++toString n.getNat));let od:=Lean.mkIdent (Lean.Name.mkSimple ("od"++toString n.getNat));let kV:=Lean.mkIdent (Lean.Name.mkSimple ("kV"++toString n.getNat));let dc:=Lean.mkIdent (Lean.Name.mkSimple ("dc"++toString n.getNat));let pm:=Lean.mkIdent (Lean.Name.mkSimple ("pm"++toString n.getNat));let an:=Lean.mkIdent (Lean.Name.mkSimple ("an"++toString n.getNat));let cd:=Lean.mkIdent (Lean.Name.mkSimple ("cd"++toString n.getNat));let ct:=Lean.mkIdent (Lean.Name.mkSimple ("ct"++toString n.getNat));let sl:=Lean.mkIdent (Lean.Name.mkSimple ("sl"++toString n.getNat));`($(K).lookup $f=some ⟨$oc,$od,.func (yal $s $s (qo $t) (ql $t) (qd $t) .none $kV $dc $pm $an $cd $ct),$sl⟩)|`(%[$s,$c|5])=>do let K:=Lean.mkIdent `K;`(yaj $K $c $s=true)|`(%[$f|6])=>do let K:=Lean.mkIdent `K;`(yai $K (.ref $f)=true)|`(%[$q,$s,$n:num|7])=>do let w:=Lean.mkIdent `w;let b:=Lean.mkIdent `base;let l:=Lean.mkIdent `l;let X:=Lean.mkIdent `X;let G:=Lean.mkIdent `G;let T:=Lean.mkIdent `T;let ln:=Lean.mkIdent (Lean.Name.mkSimple ("l"++toString n.getNat));let cn:=Lean.mkIdent (Lean.Name.mkSimple ("c"++toString n.getNat));let kn:=Lean.mkIdent (Lean.Name.mkSimple ("k"++toString n.getNat));let an:=Lean.mkIdent (Lean.Name.mkSimple ("a"++toString n.getNat));`($q (P:=$(l).prog) (w:=$w) (base:=$b) (qB (st:=$s) $ln $cn $kn) (yak $X $G $an) $T)
theorem j6:∀(ks:List Kw)(r:Int)(l:List Int),(∀k∈ks,z7 k)->0<=r->(l∈zW ks r ↔ qeH ks l/\qt ks l<=r)
 | [],r,l,_,h0=>by
  cases l with
  |nil=>exact⟨λ_=>⟨trivial,h0⟩,λ_=>ms_.mpr rfl⟩
  |cons a l=>exact⟨(λh=>by have:=ms_.mp h;cases this),λh=>h.1.elim⟩
 |k::ks,r,[],_,_=>⟨(λh=>by obtain⟨t,l',_,_,e⟩:=vd.mp h;cases e),λh=>h.1.elim⟩
 | k :: ks,r,t::l,hk,h0=>by
  have gk:=hk k mS_
  have hks:=λx hx=>hk x (mM k hx)
  have ew:qt (k::ks) (t::l)=t*k.w+qt ks l:=rfl
  rw[ew]
  constructor
  ·intro h
   obtain⟨n,l',hn,hl',e⟩:=vd.mp h
   obtain⟨rfl,rfl⟩:=List.cons.inj e
   have ok:=qba gk.1 gk.2 h0 n
   rw[decide_eq_true hn]at ok
   unfold okT at ok
   rw[yan,decide_eq_true_eq]at ok
   obtain⟨v,w⟩:=(j6 ks _ l hks (by have:=ok.1;omega)).mp hl'
   refine⟨⟨by omega,λj ej=>?_,v⟩,by omega⟩
   have:=ok.2
   rw[ej]at this
   exact of_decide_eq_true this
  ·rintro ⟨h,hw⟩
   have wn:=wf ks l hks h.2.2
   have ht:((t.toNat:Nat):Int)=t:=by have:=h.1;omega
   refine vd.mpr ⟨t.toNat,l,?_,?_,by rw[ht]⟩
   ·have ok:okT k t.toNat r=true:=by
     unfold okT
     rw[yan,decide_eq_true_eq,ht]
     refine⟨by omega,?_⟩
     cases em:k.m with
     |none=>rfl
     |some j=>exact decide_eq_true (h.2.1 j em)
    rw[qba gk.1 gk.2 h0]at ok
    exact of_decide_eq_true ok
   ·rw[ht]
    exact(j6 ks _ l hks (by omega)).mpr ⟨h.2.2,by omega⟩
def vw(k:Kw):Kw:=⟨k.w,k.w,k.m⟩
theorem qkH {ks:List Kw} (h:∀k∈ks,z7 k):∀k∈ks.map vw,z7 k:=λk hk=>by
 obtain⟨a,ha,rfl⟩:=mP_.mp hk
 exact h a ha
theorem qcy:∀(ks:List Kw)(r:Int),zW (ks.map vw) r=zW ks r
 | [],r=>rfl
 | k::ks,r=>by
  show((yag (ofn (vw k) r+1)).flatMap λt:Nat=>(zW (ks.map vw) (r-(t:Int)*k.w)).map λl=>(t:Int)::l)=_
  have e:(λt:Nat=>(zW (ks.map vw) (r-(t:Int)*k.w)).map λl=>(t:Int)::l)=λt:Nat=>(zW ks (r-(t:Int)*k.w)).map λl=>(t:Int)::l:=by
   funext t
   rw[qcy ks]
  rw[e]
  rfl
theorem qcz:∀(ks:List Kw)(l:List Int),qL (ks.map vw) l=qt ks l
 | [],[]=>rfl
 | [],_::_=>rfl
 |k::ks,[]=>rfl
 |k::ks,t::l=>by
  show t*k.w+qL (ks.map vw) l=t*k.w+qt ks l
  rw[qcz ks l]
theorem qkI {α:Type} (p:α->Bool):∀l:List α,(l.map λa=>if p a then 1 else 0).sum=(l.filter p).length
 | []=>rfl
 |a::l=>by
  rw[mC_,ybl,qkI p l,ft_]
  cases p a with
  |true=>rw[if_pos rfl,if_pos rfl,lC_];omega
  |false=>rw[if_neg (by decide),if_neg (by decide)];omega
theorem qhQ (x:Int):∀(vs σ:List Int),x∈St.addL σ vs ↔ x∈σ\/x∈vs
 | [],σ=>by simp[St.addL]
 | v :: vs,σ=>by
  show x∈St.addL (St.addI σ v) vs ↔ _
  rw[qhQ x vs,yaD]
  have:x∈St.addI σ v ↔ x∈σ\/x=v:=by
   unfold St.addI
   split
   ·rename_i c
    exact⟨.inl,λh=>h.elim id λe=>e▸c⟩
   ·rw[mA_,ms_]
  rw[this,or_assoc]
theorem qdX:∀(vs σ:List Int),σ.Nodup->(St.addL σ vs).Nodup
 | [],σ,h=>h
 | v::vs,σ,h=>by
  refine qdX vs (St.addI σ v) ?_
  unfold St.addI
  split
  ·exact h
  ·rename_i c
   rw[List.nodup_append]
   refine⟨h,List.nodup_cons.mpr ⟨by simp,.nil⟩,λa ha b hb e=>?_⟩
   rw[ms_]at hb
   subst hb;subst e
   exact c ha
theorem qiO {φ:Int->Nat} {ks:List Kw} {k:Kw} (hk:z7 k) (hks:∀a∈ks,z7 a) {s:Int} (h0:0<=s) (h1:s<=200) (y:Int) :
  qdv 200 φ (ks++[k]) s y=((yag (ofn k s+1)).map λ(t:Nat)=>qdv 200 φ ks (s-t*k.w) (y+t*k.v)).sum:=by
 rw[qf0 (by have:=hk.1;omega) ks s y λa ha=>by have:=(hks a ha).1;omega]
 have hn:ofn k s<=200:=by
  have:=(qdR hk.1 hk.2 h0 (yah (ofn k s))).2
  omega
 have e1:(λt:Nat=>if okT k t s then qdv 200 φ ks (s-t*k.w) (y+t*k.v)else 0)=λt=>if decide (t<=ofn k s)then qdv 200 φ ks (s-t*k.w) (y+t*k.v)else 0:=by
  funext t
  rw[qba hk.1 hk.2 h0]
 rw[e1,qf1 200 hn]
def ZnM(ks:List Kw)(s z:Int):Nat:=qdv 200 (λy=>if y=z then 1 else 0) ks s 0
theorem qpt {ks:List Kw} {k:Kw} (hk:z7 k) (hks:∀a∈ks,z7 a) {s:Int} (h0:0<=s) (h1:s<=200) (z:Int):ZnM (ks++[k]) s z=((yag (ofn k s+1)).map λ(t:Nat)=>ZnM ks (s-t*k.w) (z-t*k.v)).sum:=by
 unfold ZnM
 rw[qiO hk hks h0 h1]
 congr 1
 refine mL_ λt _=>?_
 rw[qbT]
 have e:(λx:Int=>if x+(0+t*k.v)=z then 1 else 0)=λx=>if x=z-t*k.v then 1 else 0:=by
  funext x
  by_cases h:x=z-t*k.v
  ·rw[if_pos h,if_pos (by omega)]
  ·rw[if_neg h,if_neg (by omega)]
 rw[e]
theorem qiP {φ:Int->Nat} {ks:List Kw} (hks:∀a∈ks,z7 a) {r:Int} (h0:0<=r) (h1:r<=200):((qkx ks r).map λp=>φ (qL ks p.1)).sum=qdv 200 φ ks r 0:=by
 have:=qkw (N:=200) (φ:=φ) ks [] [([],r)] hks (λp hp=>by
  rw[ms_]at hp
  subst hp
  exact⟨rfl,h0,by show r<=200;exact h1⟩)
 rw[yaJ]at this
 unfold qkx
 rw[this]
 simp[qL]
def EnM(ks:List Kw)(s:Nat):Nat:=ZnM (ks.map vw) (s:Nat) (s:Nat)
theorem qkJ (s:Nat):EnM [] s=if s=0 then 1 else 0:=by
 show(if(0:Int)=(s:Nat)then 1 else 0)=_
 by_cases h:s=0
 ·rw[if_pos h,if_pos (by omega)]
 ·rw[if_neg h,if_neg (by omega)]
theorem qmR {ks:List Kw} {k:Kw} (hk:z7 k) (hks:∀a∈ks,z7 a) {s:Nat} (h1:s<=200):EnM (ks++[k]) s=((yag (ofn k (s:Nat)+1)).map λ(t:Nat)=>EnM ks ((s:Int)-t*k.w).toNat).sum:=by
 unfold EnM
 rw[ybH]
 show ZnM (ks.map vw++[vw k]) _ _=_
 rw[qpt (show z7 (vw k)from hk) (qkH hks) (by omega) (by omega)]
 congr 1
 refine mL_ λt ht=>?_
 have:=(qdR hk.1 hk.2 (show(0:Int)<=(s:Nat) by omega) (show t<=ofn k (s:Nat) by have:=mR_.mp ht;exact Nat.le_of_lt_succ this)).1
 show ZnM (ks.map vw) ((s:Int)-t*k.w) ((s:Int)-t*k.w)=_
 rw[show((((s:Int)-t*k.w).toNat:Nat):Int)=(s:Int)-t*k.w by omega]
theorem qkK {ks:List Kw} (hks:∀a∈ks,z7 a) {r:Nat} (h1:r<=200):EnM ks r=((zW ks (r:Nat)).filter λl=>decide (qt ks l=(r:Nat))).length:=by
 have h:=qiP (φ:=λy=>if y=((r:Nat):Int)then 1 else 0) (ks:=ks.map vw) (qkH hks) (r:=(r:Nat)) (by omega) (by omega)
 have e:((qkx (ks.map vw) (r:Nat)).map λp=>(λy:Int=>if y=((r:Nat):Int)then 1 else 0) (qL (ks.map vw) p.1))=((zW ks (r:Nat)).map λl=>if decide (qt ks l=(r:Nat))then 1 else 0):=by
  have q:=qgU (ks.map vw) (r:Nat)
  rw[qcy]at q
  rw[<-q,mm_]
  refine mL_ λp _=>?_
  show(if qL (ks.map vw) p.1=((r:Nat):Int)then 1 else 0)=if decide (qt ks p.1=(r:Nat))=true then 1 else 0
  rw[qcz]
  by_cases c:qt ks p.1=((r:Nat):Int)
  ·rw[if_pos c,if_pos (decide_eq_true c)]
  ·rw[if_neg c,if_neg (by rw[decide_eq_false c];decide)]
 rw[e,qkI]at h
 exact h.symm
theorem qpu {ks:List Kw} (hks:∀a∈ks,z7 a) {i r:Nat} (hi:i<=r) (h1:r<=200):0<EnM ks i ↔ ((i:Nat):Int)∈(zW ks (r:Nat)).map (qt ks):=by
 rw[qkK hks (by omega),List.length_pos_iff_exists_mem]
 constructor
 ·rintro⟨l,hl⟩
  obtain⟨a,b⟩:=List.mem_filter.mp hl
  have b:=of_decide_eq_true b
  have v:=((j6 ks _ l hks (by omega)).mp a).1
  exact mP_.mpr ⟨l,(j6 ks _ l hks (by omega)).mpr ⟨v,by omega⟩,b⟩
 ·intro h
  obtain⟨l,a,b⟩:=mP_.mp h
  have v:=((j6 ks _ l hks (by omega)).mp a).1
  exact⟨l,List.mem_filter.mpr ⟨(j6 ks _ l hks (by omega)).mpr ⟨v,by omega⟩,decide_eq_true b⟩⟩
def qrF(ks:List Kw)(r:Nat):List Int:=((yag (r+1)).filter λi=>decide (0<EnM ks i)).map λi=>((i:Nat):Int)
theorem qaO {ks:List Kw} (hks:∀a∈ks,z7 a) {r:Nat} (h1:r<=200):0<EnM ks r ↔ ∃l,qeH ks l/\qt ks l=(r:Nat):=by
 rw[qpu hks (yah r) h1]
 constructor
 ·intro h
  obtain⟨l,a,b⟩:=mP_.mp h
  exact⟨l,((j6 ks _ l hks (by omega)).mp a).1,b⟩
 ·rintro⟨l,v,e⟩
  exact mP_.mpr ⟨l,(j6 ks _ l hks (by omega)).mpr ⟨v,by omega⟩,e⟩
theorem qkL {f:List Int->Option Int} {le:Int->Int->Prop} (S:Sel f le) {ks:List Kw} (hks:∀a∈ks,z7 a) {r:Nat} (h1:r<=200):(fR f ks (r:Nat)).isSome=decide (0<EnM ks r):=by
 cases e:fR f ks (r:Nat) with
 |none=>
  refine(decide_eq_false λh=>?_).symm
  obtain⟨l,v,w⟩:=(qaO hks h1).mp h
  obtain⟨h',q,_⟩:=qkE S ks (r:Nat) l ((ve ks _ l hks (by omega) w).mpr v) w
  rw[e]at q;cases q
 |some h=>
  refine(decide_eq_true ?_).symm
  obtain⟨a,b,_⟩:=qdd S e
  exact(qaO hks h1).mpr ⟨_,(ve ks _ _ hks (by omega) b).mp a,b⟩
theorem qf3 {ks:List Kw} {r:Nat} {h:Int} (e:fR mxO ks (r:Nat)=some h):h<=zY ks (r:Nat):=by
 obtain⟨a,_,c⟩:=qdd qaq e
 rw[<-c]
 exact qcx ks _ _ a
theorem qiQ {ks:List Kw} {r:Nat} {h:Int} (e:fR mxO ks (r:Nat)=some h):∃h',fR mnO ks (r:Nat)=some h'/\h'<=h:=by
 obtain⟨a,b,c⟩:=qdd qaq e
 obtain⟨h',q,l⟩:=qkE qgX ks (r:Nat) _ a b
 rw[c]at l
 exact⟨h',q,l⟩
theorem qkM {l:List Nat} (hp:l.Pairwise (·<·)) {z:Nat} (hz:z∈l) (h:∀x∈l,x<=z) (hne:l≠[]):l.getLast hne=z:=by
 have e:=yef hne
 have m:=List.getLast_mem hne
 rw[<-e]at hz hp
 rcases mA_.mp hz with hz|hz
 ·have:=(List.pairwise_append.mp hp).2.2 z hz _ (ms_.mpr rfl)
  have:=h _ m
  omega
 ·exact(ms_.mp hz).symm
def rmN(ks:List Kw)(r:Nat):List Nat:=(yag (r+1)).filter λi=>decide (0<EnM ks i)
theorem qrG(ks:List Kw)(r:Nat):(rmN ks r).Pairwise (·<·):=List.pairwise_lt_range.filter _
theorem qpv {ks:List Kw} (hks:∀a∈ks,z7 a) {r:Nat} (h1:r<=200) (hne:rmN ks r≠[]):(((rmN ks r).getLast hne:Nat):Int)=zY (ks.map vw) (r:Nat):=by
 obtain⟨rest,e⟩:=qdU (ks.map vw) (r:Nat)
 have m:qpr (ks.map vw) (r:Nat)∈(zW (ks.map vw) (r:Nat)).filter (λl=>decide (qL (ks.map vw) l=zY (ks.map vw) (r:Nat))):=by rw[e];exact mS_
 obtain⟨a,b⟩:=List.mem_filter.mp m
 have b:=of_decide_eq_true b
 rw[qcy]at a
 rw[qcz]at b
 obtain⟨v,w⟩:=(j6 ks _ _ hks (by omega)).mp a
 have wn:=wf ks _ hks v
 have ez:(((zY (ks.map vw) (r:Nat)).toNat:Nat):Int)=zY (ks.map vw) (r:Nat):=by omega
 rw[qkM (qrG ks r) (z:=(zY (ks.map vw) (r:Nat)).toNat) ?_ ?_ hne,ez]
 ·refine List.mem_filter.mpr ⟨mR_.mpr (by omega),decide_eq_true ((qaO hks (by omega)).mpr ⟨_,v,by rw[b,ez]⟩)⟩
 ·intro x hx
  obtain⟨hx1,hx2⟩:=List.mem_filter.mp hx
  obtain⟨l,lv,lw⟩:=(qaO hks (by have:=mR_.mp hx1;omega)).mp (of_decide_eq_true hx2)
  have hf:l∈zW (ks.map vw) (r:Nat):=by
   rw[qcy]
   exact(j6 ks _ _ hks (by omega)).mpr ⟨lv,by have:=mR_.mp hx1;omega⟩
  have:=qcx _ _ _ hf
  rw[qcz,lw]at this
  omega
theorem qpw {ks:List Kw} (hks:∀a∈ks,z7 a) (r:Nat):0∈rmN ks r:=by
 refine List.mem_filter.mpr ⟨mR_.mpr (by omega),decide_eq_true ((qaO hks (by omega)).mpr ?_)⟩
 have z:∀ks:List Kw,(∀a∈ks,z7 a)->∃l,qeH ks l/\qt ks l=0:=λks=>by
  induction ks with
  |nil=>exact λ_=>⟨[],trivial,rfl⟩
  |cons k ks ih=>
   intro h
   obtain⟨l,a,b⟩:=ih λx hx=>h x (mM _ hx)
   refine⟨0::l,⟨by omega,λj e=>(h k mS_).2 j e,a⟩,?_⟩
   show 0*k.w+qt ks l=0
   rw[b];omega
 exact z ks hks
theorem qhR:∀(ks:List Kw)(l:List Int),(∀a∈ks,z7 a)->qeH ks l->∀p∈ks.zip l,0<=p.2/\p.2<=qt ks l
 | [],_,_,_,p,h=>by cases h
 |_::_,[],_,h,_,_=>h.elim
 | k::ks,t::l,hk,h,p,hp=>by
  have wn:=wf ks l (λx hx=>hk x (mM _ hx)) h.2.2
  have kw:=(hk k mS_).1
  have ht:=h.1
  have m:t<=t*k.w:=by
   have:=yea kw ht
   rwa [Int.mul_one]at this
  show _/\_<=t*k.w+qt ks l
  rcases List.mem_cons.mp hp with rfl|hp
  ·exact⟨ht,by show t<=_;omega⟩
  ·have:=qhR ks l (λx hx=>hk x (mM _ hx)) h.2.2 p hp
   omega
theorem qmS {ks:List Kn} (hw:∀k∈ks,1<=k.1):∀a∈ks.map kwN,z7 a:=λa ha=>by
 obtain⟨k,hk,rfl⟩:=mP_.mp ha
 exact⟨(by have:=hw k hk;show(1:Int)<=(k.1:Nat);omega),λj e=>by cases e⟩
theorem qkN:∀(ks:List Kn)(l:List Int),qeH (ks.map kwN) l->∃m,qkz (ks.map (·.1)) m/\((m.sum:Nat):Int)=qt (ks.map kwN) l
 | [],[],_=>⟨[],(λ_ h=>absurd h (by simp)),rfl⟩
 | [],_::_,h=>h.elim
 |_::_,[],h=>h.elim
 | k :: ks,t::l,h=>by
  obtain⟨m,hm,e⟩:=qkN ks l h.2.2
  refine⟨yap t.toNat k.1++m,λx hx=>?_,?_⟩
  ·rcases mA_.mp hx with hx|hx
   ·rw[yb0 hx];exact mS_
   ·exact mM _ (hm x hx)
  ·have ht:=h.1
   show _=t*(k.1:Nat)+qt (ks.map kwN) l
   rw[ybZ,<-e,ycJ]
   have:((t.toNat*k.1:Nat):Int)=t*(k.1:Nat):=by
    rw[ybe]
    congr 1
    omega
   omega
theorem qkO:∀(ks:List Kn)(L:List Int)(x:Nat),qeH (ks.map kwN) L->x∈ks.map (·.1)->∃L',qeH (ks.map kwN) L'/\qt (ks.map kwN) L'=qt (ks.map kwN) L+(x:Nat)
 | [],_,x,_,h=>by cases h
 |k::ks,[],x,h,_=>h.elim
 | k::ks,t::L,x,h,hx=>by
  have ht:=h.1
  rcases List.mem_cons.mp hx with rfl|hx
  ·refine⟨(t+1)::L,⟨by omega,(λj e=>by cases e),h.2.2⟩,?_⟩
   show(t+1)*(k.1:Nat)+qt (ks.map kwN) L=t*(k.1:Nat)+qt (ks.map kwN) L+(k.1:Nat)
   rw[Int.add_mul];omega
  ·obtain⟨L',a,b⟩:=qkO ks L x h.2.2 hx
   refine⟨t::L',⟨h.1,h.2.1,a⟩,?_⟩
   show t*(k.1:Nat)+qt (ks.map kwN) L'=t*(k.1:Nat)+qt (ks.map kwN) L+(x:Nat)
   omega
theorem qkP (ks:List Kn):∀m:List Nat,qkz (ks.map (·.1)) m->∃L,qeH (ks.map kwN) L/\qt (ks.map kwN) L=(m.sum:Nat)
 | [],_=>by
  have z:∀ks:List Kn,∃L,qeH (ks.map kwN) L/\qt (ks.map kwN) L=0:=λks=>by
   induction ks with
   |nil=>exact⟨[],trivial,rfl⟩
   |cons k ks ih=>
    obtain⟨L,a,b⟩:=ih
    refine⟨0::L,⟨by omega,(λj e=>by cases e),a⟩,?_⟩
    show 0*((k.1:Nat):Int)+qt (ks.map kwN) L=0
    rw[b];omega
  exact z ks
 |x::m,h=>by
  obtain⟨L,a,b⟩:=qkP ks m λy hy=>h y (mM _ hy)
  obtain⟨L',a',b'⟩:=qkO ks L x a (h x mS_)
  refine⟨L',a',?_⟩
  rw[b',b,ybl];omega
theorem qkQ {ks:List Kn} (hw:∀k∈ks,1<=k.1) {r:Nat} (h1:r<=200):decide (0<EnM (ks.map kwN) r)=rch (ks.map (·.1)) r:=by
 rw[ybc,decide_eq_true_eq,qaO (qmS hw) h1,qdD]
 constructor
 ·rintro⟨l,v,e⟩
  obtain⟨m,a,b⟩:=qkN ks l v
  exact⟨m,a,by omega⟩
 ·rintro⟨m,a,b⟩
  obtain⟨L,v,w⟩:=qkP ks m a
  exact⟨L,v,by rw[w,b]⟩
theorem qrH {ks:List Kn} (hw:∀k∈ks,1<=k.1) {r:Nat} {h:Int} (e:fR mxO (ks.map kwN) (r:Nat)=some h):h<=((W ks r:Nat):Int):=by
 rw[<-qrE ks hw r]
 exact qf3 e
theorem qpx {ws vs:List Nat} (h:∀x,x∈ws ↔ x∈vs) (n:Nat):rch ws n=rch vs n:=by
 rw[ybc,qdD,qdD]
 constructor
 ·rintro⟨l,a,b⟩
  exact⟨l,λx hx=>(h x).mp (a x hx),b⟩
 ·rintro⟨l,a,b⟩
  exact⟨l,λx hx=>(h x).mpr (a x hx),b⟩
def qrI(a b n:Nat):Bool:=(yag (n/b+1)).any λj=>decide ((n-j*b)%a=0)
theorem two_sum (a b:Nat):∀l:List Nat,qkz [a,b] l->∃i j,l.sum=i*a+j*b
 | [],_=>⟨0,0,by simp⟩
 |x::l,h=>by
  obtain⟨i,j,e⟩:=two_sum a b l λy hy=>h y (mM _ hy)
  have hx:=h x mS_
  simp only[yaD,nN_,or_false]at hx
  rcases hx with rfl|rfl
  ·exact⟨i+1,j,by rw[ybl,e,yfq];omega⟩
  ·exact⟨i,j+1,by rw[ybl,e,yfq];omega⟩
theorem qpy {a b:Nat} (ha:0<a) (hb:0<b) (n:Nat):rch [a,b] n=qrI a b n:=by
 rw[ybc,qdD]
 unfold qrI
 rw[List.any_eq_true]
 constructor
 ·rintro⟨l,h,e⟩
  obtain⟨i,j,q⟩:=two_sum a b l h
  have hj:j*b<=n:=by omega
  refine⟨j,mR_.mpr (by have:=(ycS hb).mpr hj;omega),decide_eq_true ?_⟩
  rw[show n-j*b=i*a by omega]
  exact Nat.mul_mod_left i a
 ·rintro⟨j,hj,e⟩
  have hj:=mR_.mp hj
  have e:=of_decide_eq_true e
  have hjb:j*b<=n:=(ycS hb).mp (by omega)
  refine⟨yap ((n-j*b)/a) a++yap j b,λx hx=>?_,?_⟩
  ·rcases mA_.mp hx with hx|hx
   ·rw[yb0 hx];simp
   ·rw[yb0 hx];simp
  ·rw[ybZ,ycJ,ycJ]
   have:=ycg (n-j*b) a
   rw[e,ybO]at this
   omega
theorem qmT:∀a∈yag 10,∀b∈yag 10,2<=a->a<b->yaS a b=1->qrI a b (a*b-a-b)=false/\∀n∈yag 82,a*b-a-b<n->qrI a b n=true:=by decide +kernel
theorem qhS {d:Nat}:∀(l:List Nat)(x:Nat),d ∣ x->(∀w∈l,d ∣ w)->d ∣ l.foldl yaS x
 | [],x,h,_=>h
 |w::l,x,h,hl=>qhS l (yaS x w) (Nat.dvd_gcd h (hl w mS_)) λy hy=>hl y (mM _ hy)
theorem qeI:∀(l:List Nat)(d:Nat),l.foldl yaS d ∣ d/\∀w∈l,l.foldl yaS d ∣ w
 | [],d=>⟨Nat.dvd_refl _,λ_ h=>by cases h⟩
 |x::l,d=>by
  obtain⟨h1,h2⟩:=qeI l (yaS d x)
  rw[fo_]
  refine⟨Nat.dvd_trans h1 (Nat.gcd_dvd_left _ _),λw hw=>?_⟩
  rcases List.mem_cons.mp hw with rfl|hw
  ·exact Nat.dvd_trans h1 (ygI _ _)
  ·exact h2 w hw
theorem qkR {d:Nat}:∀l:List Nat,(∀w∈l,d ∣ w)->d ∣ l.sum
 | [],_=>Nat.dvd_zero _
 |w::l,h=>by
  rw[ybl]
  exact Nat.dvd_add (h w mS_) (qkR l λy hy=>h y (mM _ hy))
theorem qpz {ws:List Nat} (h:1<ws.foldl yaS 0):rch ws 1=false:=by
 cases e:rch ws 1 with
 |false=>rfl
 |true=>
  obtain⟨l,a,b⟩:=qdD.mp e
  have:=qkR (d:=ws.foldl yaS 0) l λw hw=>(qeI ws 0).2 w (a w hw)
  rw[b]at this
  have:=Nat.le_of_dvd (by omega) this
  omega
theorem qhT:∀(vs σ:List Int),(St.addL σ vs).length<=σ.length+vs.length
 | [],σ=>yah _
 | v::vs,σ=>by
  have:=qhT vs (St.addI σ v)
  have h2:(St.addI σ v).length<=σ.length+1:=by
   unfold St.addI
   split
   ·omega
   ·rw[lA_,yaY];omega
  show(St.addL (St.addI σ v) vs).length<=_
  rw[lC_]
  omega
theorem two_of {ns:List Int} (h:(v6 ns).length=2):∃a b,v6 ns=[a,b]/\a<b/\∀x,x∈ns ↔ x=a\/x=b:=by
 have p:=qbz (St.addL [] ns)
 have s:=qc1 (St.addL [] ns)
 have nd:=p.nodup_iff.mpr (qdX ns [] .nil)
 have m:∀x,x∈v6 ns ↔ x∈ns:=λx=>by
  rw[show x∈v6 ns ↔ x∈St.addL [] ns from p.mem_iff,qhQ]
  simp
 change (v6 ns).Pairwise _ at s
 change (v6 ns).Nodup at nd
 match e:v6 ns,h with
 | [a,b],_=>
  rw[e]at s nd m
  refine⟨a,b,rfl,?_,λx=>by rw[<-m];simp⟩
  have h1:=(List.pairwise_cons.mp s).1 b (by simp)
  have h2:a≠b:=λq=>by
   subst q
   have:=(List.nodup_cons.mp nd).1
   simp at this
  omega
theorem qt0 {ws:List Nat} {a b N:Nat} (ha:2<=a) (hab:a<b) (hb:b<=9) (hm:∀x,x∈ws ↔ x=a\/x=b) (hg:ws.foldl yaS 0=1) (hN:N<=81) (hr:∀i,N<=i->rch ws i=true):(qf2 ws N).getLast?.getD 0=a*b-a-b:=by
 have hgab:yaS a b=1:=by
  have:yaS a b ∣ 1:=by
   rw[<-hg]
   refine qhS ws 0 (Nat.dvd_zero _) λw hw=>?_
   rcases(hm w).mp hw with rfl|rfl
   ·exact Nat.gcd_dvd_left _ _
   ·exact ygI _ _
  exact Nat.dvd_one.mp this
 obtain⟨f1,f2⟩:=qmT a (mR_.mpr (by omega)) b (mR_.mpr (by omega)) ha hab hgab
 have er:∀n,rch ws n=qrI a b n:=λn=>by
  rw[qpx (vs:=[a,b]) (λx=>by rw[hm];simp),qpy (by omega) (by omega)]
 have hz:a*b<=81:=yaP (yeg (show a<=9 by omega) hb) (by omega)
 have eg:qf2 ws N=qf2 ws 82:=by
  have:=qc7 hr (82-N)
  rw[show N+(82-N)=82 by omega]at this
  exact this.symm
 rw[eg]
 have mz:a*b-a-b∈qf2 ws 82:=by
  refine List.mem_filter.mpr ⟨mR_.mpr (by omega),?_⟩
  rw[er,f1]
  rfl
 have hne:qf2 ws 82≠[]:=ygo mz
 rw[List.getLast?_eq_some_getLast hne]
 show(qf2 ws 82).getLast hne=_
 refine qkM (List.pairwise_lt_range.filter _) mz (λx hx=>?_) hne
 obtain⟨x1,x2⟩:=List.mem_filter.mp hx
 refine ybQ λc=>?_
 rw[er,f2 x x1 c]at x2
 cases x2
def top(i:Nat):Stmt:=PySem.Challenge.pw_sackloads_k55_whole_fills.main.body.getD i (.Pass ⟨0,0,0,0⟩)
abbrev jU:Stmt:=top 24
abbrev y7:Stmt:=top 47
abbrev yc:Stmt:=top 53
abbrev zr:Stmt:=top 55
abbrev uW:Stmt:=top 45
abbrev uX:Stmt:=top 12
abbrev uY:Stmt:=top 13
abbrev yj:Stmt:=top 17
abbrev wj:Stmt:=top 14
abbrev y8:Stmt:=top 15
abbrev yk:Stmt:=top 16
abbrev ym:Stmt:=top 46
abbrev qaP:Stmt:=top 56
abbrev zJ:Stmt:=top 59
abbrev yn:Stmt:=top 48
abbrev zt:Stmt:=top 60
abbrev yd:Stmt:=top 61
abbrev jv:Stmt:=top 62
abbrev jw:Stmt:=top 41
abbrev zE:Stmt:=top 27
abbrev je:Stmt:=top 35
abbrev y9:Stmt:=top 36
abbrev zK:Stmt:=top 39
abbrev ua:Stmt:=top 34
abbrev zo:Stmt:=top 37
abbrev zj:Stmt:=top 38
abbrev z9:Stmt:=top 40
abbrev yo:Stmt:=top 31
abbrev zZ:Stmt:=top 30
abbrev qW:Stmt:=top 32
abbrev qX:Stmt:=top 33
abbrev ja:Stmt:=top 42
abbrev ub:Stmt:=top 72
abbrev jK:Stmt:=top 57
abbrev zp:Stmt:=top 26
abbrev zF:Stmt:=top 66
abbrev zk:Stmt:=top 67
abbrev yp:Stmt:=top 69
abbrev jx:Stmt:=top 68
abbrev qH:Stmt:=top 79
abbrev jy:Stmt:=top 74
abbrev ye:Stmt:=top 49
abbrev yf:Stmt:=top 50
abbrev jV:Stmt:=top 51
abbrev yq:Stmt:=top 52
abbrev zM:Stmt:=top 63
abbrev uZ:Stmt:=top 18
abbrev vf:Stmt:=top 19
abbrev zu:Stmt:=top 21
abbrev uc:Stmt:=top 20
abbrev qaQ:Stmt:=top 22
abbrev qbU:Stmt:=top 23
abbrev yr:Stmt:=top 58
abbrev zv:Stmt:=top 64
abbrev qdY:Stmt:=top 65
abbrev zb:Stmt:=top 78
abbrev yt:Stmt:=top 73
abbrev u4:Stmt:=top 71
abbrev qeJ:Stmt:=top 80
structure Txt (K:yas) (mg:Str->Option Value):Prop where
 b_all:mg "all"=none
 b_any:mg "any"=none
 b_bool:mg "bool"=none
 b_divmod:mg "divmod"=none
 b_enumerate:mg "enumerate"=none
 b_int:mg "int"=none
 b_isinstance:mg "isinstance"=none
 b_len:mg "len"=none
 b_max:mg "max"=none
 b_min:mg "min"=none
 b_range:mg "range"=none
 b_reversed:mg "reversed"=none
 b_set:mg "set"=none
 b_sorted:mg "sorted"=none
 b_sum:mg "sum"=none
 b_tuple:mg "tuple"=none
 b_zip:mg "zip"=none
 c_ASKED_AT_MOST:∃t,mg "ASKED_AT_MOST"=some (.int 200 t)
 c_KINDS_AT_MOST:∃t,mg "KINDS_AT_MOST"=some (.int 12 t)
 c_MOST:∃t,mg "MOST"=some (.int 2 t)
 c_WEIGHT:∃t,mg "WEIGHT"=some (.int 0 t)
 c_WEIGHT_AT_MOST:∃t,mg "WEIGHT_AT_MOST"=some (.int 20 t)
 c_WORTH:∃t,mg "WORTH"=some (.int 1 t)
noncomputable def wE:MS :=
  (qG (zG 2 (d2 qgw (dv 1) (d2 ixD (dv 0) (ret (.int 0)))))
  (jc (dif (tst (d2 isN (d2 ixD (dv 0) (ret (.int 2))) (ret .non))) (dv 2) (zB qfm %[dv 2,d2 ixD (dv 0) (ret (.int 2))|0]))))
noncomputable def ji:List D->R D:=dfn 3 2 wE
noncomputable def qbd:MS :=
  (jc (d2 qbo (dv 2) (d2 uF (dv 1) (d2 ixD (dv 0) (ret (.int 0))))))
noncomputable def jj:List D->R D:=dfn 3 3 qbd
noncomputable def qbe:MS :=
  (jc (zB qpX %[qZ 1 [1,0,2] none (yX %[d2 jB (qg ji %[dv 0,dv 2|0]) (ret (.int 1))|0]) (qq 0) (ret true) (d2 ixD (dv 1) (qg jj %[dv 2,dv 0,dv 3|0]))|0]))
noncomputable def ud:List D->R D:=dfn 3 3 qbe
noncomputable def uL:MS :=
  (qG (zG 2 (d2 jB (qaV %[ret (.int 1)|0]) (d2 uF (qaV %[ret (.int 0)|0]) (dv 1))))
  (qG (qgo (wx (dv 0)) (qq 3) (zG 2 (qZ 1 [3,2] none (yX %[d2 jB (dv 1) (ret (.int 1))|0]) (qq 0) (ret true) (qg ud %[dv 1,dv 2,dv 0|0]))))
  (jc (dv 2))))
noncomputable def zw:List D->R D:=dfn 4 2 uL
noncomputable def wm:MS :=
  (sif (tst (d2 gtD (dv 0) (ret (.int 200)))) qcR wW)
noncomputable def qbV:List D->R D:=dfn 1 1 wm
noncomputable def qbW:MS :=
  (jc (qfj (qnv "int" (dv 0)) (qpU (qnv "bool" (dv 0)))))
noncomputable def qaR:List D->R D:=dfn 1 1 qbW
noncomputable def qbX:MS :=
  (jc (qfj (qg qaR %[dv 0|0]) (d2 geD (dv 0) (ret (.int 0)))))
noncomputable def yu:List D->R D:=dfn 1 1 qbX
noncomputable def uz:MS :=
  (sif (qco (tst (qg yu %[dv 0|0]))) qcR wW)
noncomputable def uA:List D->R D:=dfn 1 1 uz
noncomputable def qde:MS :=
  (qG (sif (tor (qco (tst (qnv "tuple" (dv 0)))) (tst (d2 neB (zB qbI %[dv 0|0]) (ret (.int 3))))) (jc (ret (.bl false))) wW)
  (qG (sif (tor (qco (tst (qg yu %[d2 ixD (dv 0) (ret (.int 0))|0]))) (tst (d2 eqB (d2 ixD (dv 0) (ret (.int 0))) (ret (.int 0))))) (jc (ret (.bl false))) wW)
  (jc (qfj (qg yu %[d2 ixD (dv 0) (ret (.int 1))|0]) (dor (d2 isN (d2 ixD (dv 0) (ret (.int 2))) (ret .non)) (qg yu %[d2 ixD (dv 0) (ret (.int 2))|0]))))))
noncomputable def qar:List D->R D:=dfn 1 1 qde
noncomputable def qbY:MS :=
  (qG (sif (tor (qco (tst (qnv "tuple" (dv 0)))) (tst (d2 gtD (zB qbI %[dv 0|0]) (ret (.int 12))))) (jc (ret (.bl false))) wW)
  (jc (zB qi0 %[qZ 1 [] none (wx (dv 0)) (qq 0) (ret true) (qg qar %[dv 0|0])|0])))
noncomputable def qaS:List D->R D:=dfn 1 1 qbY
noncomputable def uB:MS :=
  (sif (qco (tst (qg qaS %[dv 0|0]))) qcR wW)
noncomputable def yw:List D->R D:=dfn 1 1 uB
noncomputable def uC:MS :=
  (qG (zx (qg yw %[dv 0|0]))
  (qG (zx (qg uA %[dv 1|0]))
  (zx (qg qbV %[dv 1|0]))))
noncomputable def zm:List D->R D:=dfn 2 2 uC
noncomputable def qeK:MS :=
  (qG (zx (qg zm %[dv 0,dv 1|0]))
  (jc (d2 gtD (d2 ixD (qg zw %[dv 0,dv 1|0]) (dv 1)) (ret (.int 0)))))
noncomputable def jk:List D->R D:=dfn 2 2 qeK
noncomputable def vg:MS :=
  (qG (zG 3 (qg ji %[dv 0,dv 2|0]))
  (jc (qZ 1 [1,0,2] none (yX %[d2 jB (dv 3) (ret (.int 1))|0]) (qq 0) (tst (d2 qoA (d2 ixD (dv 1) (qg jj %[dv 2,dv 0,dv 3|0])) (ret .non))) (dv 0))))
noncomputable def jM:List D->R D:=dfn 4 3 vg
noncomputable def vG:MS :=
  (jc (d2 jB (d2 qiD (dv 1) (d2 ixD (dv 0) (ret (.int 1)))) (d2 ixD (dv 2) (qg jj %[dv 0,dv 1,dv 3|0]))))
noncomputable def zn:List D->R D:=dfn 4 4 vG
noncomputable def uM:MS :=
  (jc (qZ 1 [0,1,2] none (wx (qg jM %[dv 0,dv 1,dv 2|0])) (qq 0) (ret true) (qg zn %[dv 1,dv 0,dv 2,dv 3|0])))
noncomputable def qQ:List D->R D:=dfn 3 3 uM
noncomputable def qbf:MS :=
  (qG (qah 2 (qkd %[d2 jB (qaV %[ret (.int 0)|0]) (d2 uF (qaV %[ret .non|0]) (dv 1))|0]))
  (qG (qgo (qpc %[dv 0|0]) (qq 3) (zx (vN 2 (qZ 1 [3,2] (some (2,2)) (yX %[d2 jB (dv 1) (ret (.int 1))|0]) (qq 0) (ret true) (ux qam %[qg qQ %[dv 1,qce 2 (ret (.int 0)),dv 0|0]|0] %[ret .non|0])))))
  (qjz 2)))
noncomputable def ue:List D->R D:=dfn 4 2 qbf
noncomputable def vQ:MS :=
  (qG (zx (qg zm %[dv 0,dv 1|0]))
  (jc (d2 ixD (d2 ixD (qg ue %[dv 0,dv 1|0]) (ret (.int 0))) (dv 1))))
noncomputable def zl:List D->R D:=dfn 2 2 vQ
noncomputable def vR:MS :=
  (qG (sif (tst (d2 ltD (dv 2) (zB qbI %[dv 1|0]))) (jc (ret (.int 0))) wW)
  (jc (d2 jB (d2 qgw (d2 qbo (dv 2) (zB qbI %[dv 1|0])) (d2 ixD (dv 0) (ret (.int 0)))) (ret (.int 1)))))
noncomputable def um:List D->R D:=dfn 3 3 vR
noncomputable def uf:MS :=
  (qG (zG 1 (ret (.int 1)))
  (qG (qgo (wx (dv 0)) (qq 2) (zG 1 (d2 uF (dv 1) (d2 ixD (dv 2) (ret (.int 0))))))
  (jc (dv 1))))
noncomputable def jW:List D->R D:=dfn 3 1 uf
noncomputable def qas:MS :=
  (qG (zG 1 (qg jW %[dv 0|0]))
  (qG (zG 2 (qZ 1 [1] none (wx (dv 0)) (qq 0) (ret true) (qca %[d2 uF (d1 qlU (d2 ixD (dv 0) (ret (.int 1)))) (d2 qgw (dv 1) (d2 ixD (dv 0) (ret (.int 0)))),d2 ixD (dv 0) (ret (.int 0))|0])))
  (jc (ql1 qfF (dv 2) %[zB qmc %[dv 2|0]|0]))))
noncomputable def vH:List D->R D:=dfn 3 1 qas
noncomputable def qbg:MS :=
  (jc (d2 ixD (dv 0) (qg vH %[dv 0|0])))
noncomputable def ug:List D->R D:=dfn 1 1 qbg
noncomputable def vh:MS :=
  (qG (zG 2 (d2 ixD (dv 0) (ret (.int 0))))
  (jc (qZ 1 [1,0,2] none (qfD %[dv 2,zB qbI %[dv 1|0]|0]) (qq 0) (tst (d2 neB (d2 ixD (dv 1) (dv 0)) (d2 jB (d2 ixD (dv 1) (d2 qbo (dv 0) (dv 3))) (d2 ixD (dv 2) (ret (.int 1)))))) (dv 0))))
noncomputable def jb:List D->R D:=dfn 3 2 vh
noncomputable def qbZ:MS :=
  (jc (zB qfC %[qZ 1 [] none (wx (dv 0)) (qq 0) (ret true) (d2 ixD (dv 0) (ret (.int 0)))|0]))
noncomputable def yx:List D->R D:=dfn 1 1 qbZ
noncomputable def yH:MS :=
  (qG (zG 1 (d2 ixD (qg ug %[dv 0|0]) (ret (.int 0))))
  (jc (d2 jB (dv 1) (d2 uF (d2 qbo (dv 1) (ret (.int 1))) (qg yx %[dv 0|0])))))
noncomputable def jC:List D->R D:=dfn 2 1 yH
noncomputable def vT:MS :=
  (qG (qah 1 (qnA (ret [])))
  (qG (qgo (yX %[qg jC %[dv 0|0]|0]) (qq 2) (qG (zG 3 (qZ 1 [2] none (wx (dv 0)) (qq 0) (tst (d2 leD (d2 ixD (dv 0) (ret (.int 0))) (dv 1))) (dv 0)))
  (zx (jg 1 (ux qam %[qZ 1 [1,2] (some (1,1)) (wx (dv 3)) (qq 0) (ret true) (d2 jB (qce 1 (d2 qbo (dv 2) (d2 ixD (dv 0) (ret (.int 0))))) (d2 ixD (dv 0) (ret (.int 1))))|0] %[ret (.int 0)|0])))))
  (qjz 1)))
noncomputable def uo:List D->R D:=dfn 4 1 vT
noncomputable def vi:MS :=
  (qG (zG 1 (qg uo %[dv 0|0]))
  (qG (zG 2 (qg ug %[dv 0|0]))
  (jc (qsb (dv 1) (ret none) (qin (d2 jB (ux qam %[qg jb %[dv 2,dv 1|0]|0] %[d2 qbo (d2 ixD (dv 2) (ret (.int 0))) (ret (.int 1))|0]) (ret (.int 1))))))))
noncomputable def yI:List D->R D:=dfn 3 1 vi
noncomputable def uD:MS :=
  (sif (tst (d2 gtD (qg yx %[dv 0|0]) (ret (.int 20)))) qcR wW)
noncomputable def qat:List D->R D:=dfn 1 1 uD
noncomputable def j7:MS :=
  (sif (tor (tst (d2 eqB (dv 0) (qca (ret [])))) (qco (tst (zB qi0 %[qZ 1 [] none (wx (dv 0)) (qq 0) (ret true) (d2 isN (d2 ixD (dv 0) (ret (.int 2))) (ret .non))|0])))) qcR wW)
noncomputable def vU:List D->R D:=dfn 1 1 j7
noncomputable def zy:MS :=
  (qG (zx (qg yw %[dv 0|0]))
  (qG (zx (qg vU %[dv 0|0]))
  (zx (qg qat %[dv 0|0]))))
noncomputable def qM:List D->R D:=dfn 1 1 zy
noncomputable def zA:MS :=
  (qG (zx (qg yw %[dv 0|0]))
  (qG (zx (qg uA %[dv 1|0]))
  (zx (qg qM %[dv 0|0]))))
noncomputable def jY:List D->R D:=dfn 2 2 zA
noncomputable def vj:MS :=
  (qG (zx (qg jY %[dv 0,dv 1|0]))
  (qG (zG 2 (qg yI %[dv 0|0]))
  (qG (zG 3 (qg ug %[dv 0|0]))
  (qG (zG 4 (qg um %[dv 3,dv 2,dv 1|0]))
  (jc (d2 jB (d2 ixD (dv 2) (d2 qbo (dv 1) (d2 qiD (dv 4) (d2 ixD (dv 3) (ret (.int 0)))))) (d2 qiD (dv 4) (d2 ixD (dv 3) (ret (.int 1))))))))))
noncomputable def zN:List D->R D:=dfn 5 2 vj
noncomputable def wG:MS :=
  (qG (qpV (zB qcL %[qce 0 (ret (.int 0)),dv 1|0]) (qcJ 2 (zD (qq 2) (zD (qq 3) qcI))))
  (qG (qlO 0 (ret (.int 0)) (dv 2))
  (jc (dv 3))))
noncomputable def qp:List D->List D->R (D×List D):=qcP 4 2 wG
noncomputable def qau:MS :=
  (qG (zx (qg zm %[dv 0,dv 1|0]))
  (jc (qZ 2 [] none (qcX %[qg zw %[dv 0,dv 1|0]|0]) (qcJ 2 (zD (qq 0) (zD (qq 1) qcI))) (tst (d2 gtD (dv 1) (ret (.int 0)))) (dv 0))))
noncomputable def jf:List D->R D:=dfn 2 2 qau
noncomputable def yJ:MS :=
  (qG (qdN (tst (d2 gtD (dv 1) (ret (.int 0)))) (qG (zG 2 (d2 qck (dv 0) (dv 1)))
  (qG (zG 0 (dv 1))
  (zG 1 (dv 2)))))
  (jc (dv 0)))
noncomputable def zq:List D->R D:=dfn 3 2 yJ
noncomputable def uh:MS :=
  (qG (zG 1 (ret (.int 0)))
  (qG (qgo (wx (dv 0)) (qq 2) (zG 1 (qg zq %[dv 1,d2 ixD (dv 2) (ret (.int 0))|0])))
  (jc (dv 1))))
noncomputable def zd:List D->R D:=dfn 3 1 uh
noncomputable def wH:MS :=
  (qG (zG 1 (zB qmc %[qZ 1 [] none (wx (dv 0)) (qq 0) (ret true) (d2 ixD (dv 0) (ret (.int 0)))|0]))
  (qG (qah 2 (qnA %[ret (.bl true)|0]))
  (qG (qgo (qfD %[ret (.int 1),d2 uF (dv 1) (qg yx %[dv 0|0])|0]) (qq 3) (zx (jg 2 (zB qnw %[qZ 1 [3,2] (some (2,2)) (wx (dv 0)) (qq 0) (ret true) (qfj (d2 leD (d2 ixD (dv 0) (ret (.int 0))) (dv 1)) (qce 2 (d2 qbo (dv 1) (d2 ixD (dv 0) (ret (.int 0))))))|0]))))
  (jc (qp0 (qit (ql3 2 [] none (qcX %[dv 2|0]) (qcJ 2 (zD (qq 0) (zD (qq 1) qcI))) (qco (tst (dv 1))) (dv 0))))))))
noncomputable def jm:List D->R D:=dfn 4 1 wH
noncomputable def qav:MS :=
  (qG (zx (qg qM %[dv 0|0]))
  (jc (dif (tst (d2 gtD (qg zd %[dv 0|0]) (ret (.int 1)))) (ret .non) (zB qbI %[qg jm %[dv 0|0]|0]))))
noncomputable def uE:List D->R D:=dfn 1 1 qav
noncomputable def vV:MS :=
  (qG (zx (qg qM %[dv 0|0]))
  (qG (zG 1 (qg zd %[dv 0|0]))
  (qG (sif (tst (d2 gtD (dv 1) (ret (.int 1)))) (jc (qca %[ret (.str "ever"),dv 1|0])) wW)
  (qG (zG 2 (qg jm %[dv 0|0]))
  (jc (dif (tst (d2 eqB (dv 2) (qaV (ret [])))) (qca %[ret (.str "none")|0]) (qca %[ret (.str "last"),d2 ixD (dv 2) (d1 qlU (ret (.int 1)))|0])))))))
noncomputable def j8:List D->R D:=dfn 3 1 vV
noncomputable def jD:MS :=
  (qG (qpV (qca %[qg j8 %[dv 0|0],qg uE %[dv 0|0]|0]) (qcJ 2 (zD (qq 1) (zD (qq 2) qcI))))
  (qG (sif (tst (d2 eqB (d2 ixD (dv 1) (ret (.int 0))) (ret (.str "ever")))) (jc (qfj (d2 isN (dv 2) (ret .non)) (qfj (d2 eqB (qZ 1 [1] none (wx (dv 0)) (qq 0) (tst (d2 neB (d2 qck (d2 ixD (dv 0) (ret (.int 0))) (d2 ixD (dv 1) (ret (.int 1)))) (ret (.int 0)))) (d2 ixD (dv 0) (ret (.int 0)))) (qaV (ret []))) (qpU (qg jk %[dv 0,ret (.int 1)|0]))))) wW)
  (qG (zG 3 (dif (tst (d2 eqB (d2 ixD (dv 1) (ret (.int 0))) (ret (.str "last")))) (d2 ixD (dv 1) (ret (.int 1))) (ret (.int 0))))
  (qG (zG 4 (qg jf %[dv 0,ret (.int 200)|0]))
  (qG (sif (tor (tst (d2 gtD (dv 3) (ret (.int 180)))) (tor (tst (d2 neB (dv 2) (d2 qbo (ret (.int 201)) (zB qbI %[dv 4|0])))) (qle (tst (d2 gtD (dv 2) (ret (.int 0)))) (tst (qg jk %[dv 0,dv 3|0]))))) (jc (ret (.bl false))) wW)
  (qG (sif (tst (d2 neB (qZ 1 [4] none (qfD %[d2 jB (dv 3) (ret (.int 1)),ret (.int 201)|0]) (qq 0) (tst (d2 qp1 (dv 0) (dv 1))) (dv 0)) (qaV (ret [])))) (jc (ret (.bl false))) wW)
  (qG (zG 5 (qmB (qZ 1 [] none (wx (dv 0)) (qq 0) (ret true) (d2 ixD (dv 0) (ret (.int 0))))))
  (jc (dor (d2 neB (zB qbI %[dv 5|0]) (ret (.int 2))) (dor (d2 eqB (d2 ixD (dv 5) (ret (.int 0))) (ret (.int 1))) (d2 eqB (dv 3) (d2 qbo (d2 qbo (d2 uF (d2 ixD (dv 5) (ret (.int 0))) (d2 ixD (dv 5) (ret (.int 1)))) (d2 ixD (dv 5) (ret (.int 0)))) (d2 ixD (dv 5) (ret (.int 1)))))))))))))))
noncomputable def qP:List D->R D:=dfn 6 1 jD
noncomputable def uq:MS :=
  (qG (zG 3 (qD qp 0 %[ret (.int 5)|0]))
  (qG (qah 4 (qnA (ret [])))
  (qG (qgo (yX %[d2 jB (ret (.int 1)) (qD qp 0 %[dv 1|0])|0]) (qq 5) (qG (zG 6 (d2 jB (ret (.int 1)) (qD qp 0 %[dv 2|0])))
  (qG (zG 7 (qD qp 0 %[ret (.int 12)|0]))
  (qG (zG 8 (d2 ixD (qaV %[dv 7,dv 6,d2 jB (d2 uF (ret (.int 3)) (dv 6)) (d2 qck (dv 7) (ret (.int 3))),ret (.int 0),d2 jB (d2 qpY (ret (.int 10)) (ret (.int 20))) (dv 7)|0]) (dv 3)))
  (zx (jg 4 (qca %[dv 6,dv 8,ret .non|0])))))))
  (jc (qgA 4)))))
noncomputable def z4:List D->List D->R (D×List D):=qcP 9 3 uq
noncomputable def qbh:MS :=
  (jc (zB qfC %[qZ 1 [0,1,2] none (yX %[d2 jB (qg ji %[dv 0,dv 2|0]) (ret (.int 1))|0]) (qq 0) (ret true) (qg zn %[dv 1,dv 0,dv 2,dv 3|0])|0]))
noncomputable def ui:List D->R D:=dfn 3 3 qbh
noncomputable def qbi:MS :=
  (qG (qah 2 (qkd %[d2 uF (qaV %[ret (.int 0)|0]) (d2 jB (dv 1) (ret (.int 1)))|0]))
  (qG (qgo (qpc %[dv 0|0]) (qq 3) (zx (vN 2 (qZ 1 [3,2] (some (2,2)) (yX %[d2 jB (dv 1) (ret (.int 1))|0]) (qq 0) (ret true) (qg ui %[dv 1,qce 2 (ret (.int 0)),dv 0|0])))))
  (qjz 2)))
noncomputable def wJ:List D->R D:=dfn 4 2 qbi
noncomputable def wK:MS :=
  (qG (zx (qg zm %[dv 0,dv 1|0]))
  (jc (d2 ixD (qg wJ %[dv 0,dv 1|0]) (ret (.int 0)))))
noncomputable def uT:List D->R D:=dfn 2 2 wK
noncomputable def qaw:MS :=
  (jc (d2 ixD (qg uT %[dv 0,dv 1|0]) (dv 1)))
noncomputable def jN:List D->R D:=dfn 2 2 qaw
noncomputable def vk:MS :=
  (qG (zx (qg zm %[dv 0,dv 1|0]))
  (qG (zG 2 (d2 jB (qaV %[ret (.int 0)|0]) (d2 uF (qaV %[ret .non|0]) (dv 1))))
  (qG (qgo (wx (dv 0)) (qq 3) (zG 2 (qZ 1 [3,2] none (yX %[d2 jB (dv 1) (ret (.int 1))|0]) (qq 0) (ret true) (ux qgP %[qg qQ %[dv 1,dv 2,dv 0|0]|0] %[ret .non|0]))))
  (jc (d2 ixD (dv 2) (dv 1))))))
noncomputable def jO:List D->R D:=dfn 4 2 vk
noncomputable def qb0:MS :=
  (jc (qfj (qg yu %[dv 1|0]) (dor (d2 isN (d2 ixD (dv 0) (ret (.int 2))) (ret .non)) (d2 leD (dv 1) (d2 ixD (dv 0) (ret (.int 2)))))))
noncomputable def u5:List D->R D:=dfn 2 2 qb0
noncomputable def qdf:MS :=
  (qG (zx (qg yw %[dv 1|0]))
  (qG (sif (tor (qco (tst (qnv "tuple" (dv 0)))) (tst (d2 neB (zB qbI %[dv 0|0]) (zB qbI %[dv 1|0])))) (jc (ret (.bl false))) wW)
  (jc (zB qi0 %[qZ 2 [] none (qoP %[dv 1,dv 0|0]) (qcJ 2 (zD (qq 0) (zD (qq 1) qcI))) (ret true) (qg u5 %[dv 0,dv 1|0])|0]))))
noncomputable def wp:List D->R D:=dfn 2 2 qdf
noncomputable def uN:MS :=
  (jc (zB qpX %[qZ 2 [2] none (qoP %[dv 0,dv 1|0]) (qcJ 2 (zD (qq 0) (zD (qq 1) qcI))) (ret true) (d2 qiD (d2 ixD (dv 0) (dv 2)) (dv 1))|0]))
noncomputable def jt:List D->R D:=dfn 3 3 uN
noncomputable def vm:MS :=
  (sif (qco (tst (qg wp %[dv 1,dv 0|0]))) qcR wW)
noncomputable def wL:List D->R D:=dfn 2 2 vm
noncomputable def qeL:MS :=
  (qG (zx (qg wL %[dv 0,dv 1|0]))
  (jc (qg jt %[dv 0,dv 1,ret (.int 0)|0])))
noncomputable def qcA:List D->R D:=dfn 2 2 qeL
noncomputable def qg0:MS :=
  (qG (zx (qg wL %[dv 0,dv 1|0]))
  (jc (qg jt %[dv 0,dv 1,ret (.int 1)|0])))
noncomputable def qeM:List D->R D:=dfn 2 2 qg0
noncomputable def qax:MS :=
  (qG (zx (qg zm %[dv 0,dv 1|0]))
  (jc (d2 ixD (qg zw %[dv 0,dv 1|0]) (dv 1))))
noncomputable def vI:List D->R D:=dfn 2 2 qax
noncomputable def uO:MS :=
  (qG (zG 4 (qg jM %[dv 0,dv 2,dv 3|0]))
  (jc (d2 ixD (qZ 1 [1,0,2,3] none (wx (dv 4)) (qq 0) (tst (d2 eqB (qg zn %[dv 2,dv 0,dv 3,dv 4|0]) (dv 1))) (dv 0)) (ret (.int 0)))))
noncomputable def zU:List D->R D:=dfn 5 4 uO
noncomputable def qhU:MS :=
  (qG (zx (qg zm %[dv 0,dv 1|0]))
  (qG (zG 2 (qg ue %[dv 0,dv 1|0]))
  (qG (sif (tst (d2 isN (d2 ixD (d2 ixD (dv 2) (ret (.int 0))) (dv 1)) (ret .non))) (jc (ret .non)) wW)
  (qG (qah 3 (qnA (ret [])))
  (qG (zG 4 (dv 1))
  (qG (qgo (qlZ %[dv 0|0]) (qcJ 2 (zD (qq 5) (zD (qq 6) qcI))) (qG (zG 7 (qg zU %[dv 6,d2 ixD (d2 ixD (dv 2) (dv 5)) (dv 4),d2 ixD (dv 2) (d2 jB (dv 5) (ret (.int 1))),dv 4|0]))
  (qG (zx (jg 3 (dv 7)))
  (zG 4 (qg jj %[dv 6,dv 7,dv 4|0])))))
  (jc (qgA 3))))))))
noncomputable def qhV:List D->R D:=dfn 8 2 qhU
noncomputable def uj:MS :=
  (qG (qnD 2 3 %[qg qhV %[dv 0,dv 1|0],qg zl %[dv 0,dv 1|0]|0])
  (qG (sif (tor (tst (d2 neB (d2 isN (dv 2) (ret .non)) (d2 isN (dv 3) (ret .non)))) (tst (d2 neB (qg jk %[dv 0,dv 1|0]) (d2 qoA (dv 2) (ret .non))))) (jc (ret (.bl false))) wW)
  (qG (sif (tst (d2 neB (d2 gtD (qg vI %[dv 0,dv 1|0]) (ret (.int 0))) (qg jk %[dv 0,dv 1|0]))) (jc (ret (.bl false))) wW)
  (qG (sif (tst (d2 qoA (dv 2) (ret .non))) (qG (sif (tor (qco (tst (qg wp %[dv 2,dv 0|0]))) (tor (tst (d2 neB (qg qcA %[dv 0,dv 2|0]) (dv 1))) (tst (d2 neB (qg qeM %[dv 0,dv 2|0]) (dv 3))))) (jc (ret (.bl false))) wW)
  (sif (qco (tst (qfN leD leD (qg jO %[dv 0,dv 1|0]) (dv 3) (qg jN %[dv 0,dv 1|0])))) (jc (ret (.bl false))) wW)) wW)
  (qG (zG 4 (zB qfp %[qZ 3 [] none (wx (dv 0)) (qcJ 3 (zD (qq 0) (zD (qq 1) (zD (qq 2) qcI)))) (ret true) (qca %[dv 0,dv 0,dv 2|0])|0]))
  (jc (d2 eqB (qg jN %[dv 4,dv 1|0]) (d2 ixD (qg jf %[dv 0,dv 1|0]) (d1 qlU (ret (.int 1)))))))))))
noncomputable def ze:List D->R D:=dfn 5 2 uj
noncomputable def vJ:MS :=
  (qG (qah 2 (qnA (ret [])))
  (qG (qgo (yX %[qD qp 0 %[d2 jB (dv 1) (ret (.int 1))|0]|0]) (qq 3) (qG (qnD 4 5 %[d2 jB (ret (.int 1)) (qD qp 0 %[ret (.int 9)|0]),qD qp 0 %[ret (.int 10)|0]|0])
  (zx (jg 2 (qca %[dv 4,dv 5,d2 ixD (qaV %[ret .non,ret (.int 0),ret (.int 1),ret (.int 1),ret (.int 2),ret (.int 3),ret (.int 5)|0]) (qD qp 0 %[ret (.int 7)|0])|0])))))
  (jc (qgA 2))))
noncomputable def jQ:List D->List D->R (D×List D):=qcP 6 2 vJ
noncomputable def qaT:MS :=
  (qG (zG 2 (d2 jB (d2 uF (ret (.int 7919)) (dv 1)) (ret (.int 13))))
  (qG (sif (tst (d2 ltD (dv 1) (zB qbI %[dv 0|0]))) (zG 2 (d2 ixD (dv 0) (dv 1))) wW)
  (qG (sif (tst (d2 eqB (d2 qck (dv 2) (ret (.int 2))) (ret (.int 0)))) (jc (qaV %[d2 qgw (dv 2) (ret (.int 2))|0])) wW)
  (qG (zG 3 (ret (.int 0)))
  (qG (qgo (yX %[ret (.int 16)|0]) (qq 4) (qG (zG 5 (d2 qck (d2 jB (d2 jB (d2 uF (d2 qck (dv 2) (ret (.int 2147483647))) (ret (.int 48271))) (d2 uF (ret (.int 7919)) (dv 4))) (ret (.int 1))) (ret (.int 2147483647))))
  (qG (zG 5 (d2 qck (d2 uF (dv 5) (dv 5)) (ret (.int 2147483629))))
  (zG 3 (d2 jB (d2 uF (dv 3) (ret (.int 2147483647))) (d2 qck (d2 uF (dv 5) (d2 jB (dv 5) (ret (.int 13)))) (ret (.int 2147483647))))))))
  (jc (qaV %[dv 3|0])))))))
noncomputable def yy:List D->R D:=dfn 6 2 qaT
noncomputable def qpA:MS :=
  (qG (qgo (yX %[zB qoB %[ret (.int 1),zB qfm %[zB qbI %[dv 0|0],ret (.int 3)|0]|0]|0]) (qq 1) (qG (qah 2 (qfw yy %[dv 0,dv 1|0]))
  (qG (sif (qco (tst (qg ze %[qD jQ 2 %[ret (.int 4)|0],qD qp 2 %[ret (.int 41)|0]|0]))) (jc (ret (.bl false))) wW)
  (qG (zG 3 (qD z4 2 %[ret (.int 4),ret (.int 9)|0]))
  (qG (sif (qco (tst (qg qP %[dv 3|0]))) (jc (ret (.bl false))) wW)
  (qG (zG 4 (qD qp 2 %[ret (.int 60)|0]))
  (sif (qle (tst (qg jk %[dv 3,dv 4|0])) (tst (d2 gtD (qg zl %[dv 3,dv 4|0]) (qg zN %[dv 3,dv 4|0])))) (jc (ret (.bl false))) wW)))))))
  (jc (ret (.bl true))))
noncomputable def qg1:List D->R D:=dfn 5 1 qpA
local macro_rules | `(tactic| push_cast [$xs,*]) => `(tactic| simp only [qaW, qgG, qsJ, yE, qfy, qnG, qnH, qsK, qq7, qbM, qaK, qnI, qlV, vA, qhp, qhq, qlW, qhr, qlX, qjH, qgH, qjI, wY, wZ, qej, vM, qjJ, qjK, qjL, vb, qjM, qjN, qhs, qfz, qjO, qfA, qjP, qjQ, qcS, qgI, lC_, lN_, mC_, List.map_nil, List.replicate, List.nil_append, List.cons_append, List.append_nil, List.getElem?_cons_zero, List.getElem?_cons_succ, List.set_cons_zero, List.set_cons_succ, Nat.reduceAdd, Nat.reduceSub, Nat.sub_self, Nat.zero_add, reduceIte, Bool.not_true, Bool.not_false, Bool.false_eq_true, if_true, if_false, ite_true, ite_false, cond_true, cond_false, decide_true, decide_false, ix0, ix1, ix2, qa9, wB, vO, qan, qcf, qgS, yY, qey, qbQ, qko, qkp, qht, qgM, qgK, $xs,*])
theorem qeN (d:D):qaR [d]=.ok (.bl (qpn d)):=by
 unfold qaR qbW
 refine uG rfl ⟨[some d],?_⟩
 push_cast []
 cases d<;>rfl
theorem yK (d:D):yu [d]=.ok (.bl (yZ d)):=by
 unfold yu qbX
 refine uG rfl ⟨[some d],?_⟩
 push_cast []
 rw[qeN]
 cases d<;>rfl
theorem qf4 (d:D):qar [d]=.ok (.bl (v7 d)):=by
 unfold qar qde
 refine uG rfl ⟨[some d],?_⟩
 cases d with
 | tup ds=>
  by_cases h:ds.length=3
  ·obtain ⟨a,b,c,rfl⟩:=qts h
   refine(qj (ρ':=[some (.tup [a,b,c])]) rfl).trans ?_
   by_cases hp:qkq a=true
   ·refine (qj (ρ':=[some (.tup [a,b,c])]) ?_).trans ?_
    ·cases a with
     |int i=>
      have h2:0<i:=of_decide_eq_true hp
      have h0:0<=i:=by omega
      have h1:¬i=0:=by omega
      push_cast [ix0,yK,yZ,qan,vA,h0,h1,decide_true,decide_false]
     |_=>exact absurd hp (by simp[qkq])
    ·push_cast [ix1,ix2,yK,qcf,v7,hp,vA,ybu]
     cases hb:yZ b<;>cases hc:vy c<;>rfl
   ·refine (qbA (d:=.bl false) (ρ':=[some (.tup [a,b,c])]) ?_).trans ?_
    ·cases a with
     | int i=>
      have h2:¬0<i:=λz=>hp (decide_eq_true z)
      push_cast [ix0,yK,yZ,qan,vA]
      by_cases h0:0<=i
      ·have h1:i=0:=by omega
       subst h1;rfl
      ·simp only[h0,decide_false]
       rfl
     |_=>rfl
    ·have hp':qkq a=false:=by simpa using hp
     simp only[v7,hp',ydi]
  ·refine (qbA (d:=.bl false) (ρ':=[some (.tup ds)]) ?_).trans ?_
   ·push_cast []
    have h3:¬((ds.length:Int)=3):=by omega
    simp only[qa9,wB,vO,h3,decide_false,vA]
    rfl
   ·rw[qdQ h]
 |_=>rfl
theorem qeO (d:D):qaS [d]=.ok (.bl (y1 d)):=by
 unfold qaS qbY
 refine uG rfl ⟨[some d],?_⟩
 cases d with
 | tup ds=>
  by_cases h:ds.length<=12
  ·have h2:¬((12:Int)<(ds.length:Int)):=by omega
   refine(qj (ρ':=[some (.tup ds)]) ?_).trans ?_
   ·push_cast [qa9,wB,yY,h2,decide_false,vA]
   ·rw[wY,qpo (F:=qar) (f:=v7) (xs:=wx (dv 0)) (ds:=ds) (ρ:=[some (.tup ds)]) rfl (λd _=>qf4 d) (by omega)]
    simp only[y1,h,decide_true,ybu]
  ·have h2:((12:Int)<(ds.length:Int)):=by omega
   refine(qbA (d:=.bl false) (ρ':=[some (.tup ds)]) ?_).trans ?_
   ·push_cast [qa9,wB,yY,h2,decide_true,vA]
   ·simp only[y1,h,decide_false,ydi]
 |_=>rfl
theorem qeP (k x:D) (hk:v7 k=true):u5 [k,x]=.ok (.bl (qiK k x)):=by
 cases k with
 | tup ds=>
  by_cases h:ds.length=3
  ·obtain ⟨a,b,c,rfl⟩:=qts h
   unfold u5 qb0
   refine uG rfl ⟨[some (.tup [a,b,c]),some x],?_⟩
   push_cast [ix2,yK,qcf,vA,qiK]
   cases hx:yZ x with
   |false=>rfl
   | true=>
    cases hc:vy c with
    |true=>rfl
    | false=>
     have hcc:yZ c=true:=by
      simp only[v7,hc,Bool.false_or,yan]at hk
      exact hk.2
     cases x with
     |int i=>
      cases c with
      |int j=>rfl
      |_=>cases hcc
     |_=>cases hx
  ·rw[qdQ h]at hk;cases hk
 |_=>cases hk
theorem yL (d:D) (h:y1 d=true):yw [d]=.ok .non:=by
 have e:uB [some d]=.ok (.nx [some d]):=by
  unfold uB
  push_cast [qeO,h,vA]
 show(match uB [some d] with|.ok (.rt d _)=>R.ok d|.ok (.nx _) => .ok .non|_ => .bad)=_
 rw[e]
theorem qf5 (t s:D) (hs:y1 s=true):wp [t,s]=.ok (.bl (qhB t s)):=by
 cases s with
 | tup ks=>
  have hs2:=hs
  simp only[y1,yan,decide_eq_true_eq]at hs2
  obtain⟨hl,ha⟩:=hs2
  unfold wp qdf
  refine uG rfl ⟨[some t,some (.tup ks)],?_⟩
  refine(qj (ρ':=[some t,some (.tup ks)]) ?_).trans ?_
  ·push_cast [yL _ hs]
  cases t with
  | tup xs=>
   by_cases h:xs.length=ks.length
   ·refine (qj (ρ':=[some (.tup xs),some (.tup ks)]) ?_).trans ?_
    ·push_cast [qa9,wB,vO,h,decide_true,vA]
    ·obtain ⟨bs,ρ',q,r⟩:=qhC (e:=qg u5 %[dv 0,dv 1|0]) (f:=qiK) ks xs [] none none (λk hk x=>by
      push_cast [qeP k x (List.all_eq_true.mp ha k hk)]) (by simp;omega)
     have q':zh (qcJ 2 (zD (qq 0) (zD (qq 1) qcI))) (ret true) (qg u5 %[dv 0,dv 1|0]) (qct ks xs) [] (jJ 2 [] [some (.tup xs),some (.tup ks)])=.ok ([]++bs.map D.bl,ρ'):=q
     rw[qcg]at r
     simp only[wY,qbM,yE,qbN,qhs,qsJ,qgG,List.getElem?_cons_zero,List.getElem?_cons_succ,qq1,q',yaJ,qi0,qcv,ybg,r,qhB,h,decide_true,ybu]
     rfl
   ·refine (qbA (d:=.bl false) (ρ':=[some (.tup xs),some (.tup ks)]) ?_).trans ?_
    ·have h2:¬((xs.length:Int)=(ks.length:Int)):=by omega
     push_cast [qa9,wB,vO,h2,decide_false,vA]
    ·simp only[qhB,h,decide_false,ydi]
  |_=>rfl
 |_=>cases hs
theorem vW {n m:Int} (h0:0<m) (h1:m<1606938044258990275541962092341162602522202993782792835301376):qp [.int n] [.int m]=.ok (.int (n%m),[.int (n/m)]):=by
 unfold qp
 refine qjR (ρ:=[some (.lst [.int (n/m)]),some (.int m),some (.int (n/m)),some (.int (n%m))]) rfl ?_ rfl
 unfold wG
 refine(qj (ρ':=[some (.lst [.int n]),some (.int m),some (.int (n/m)),some (.int (n%m))]) ?_).trans ?_
 ·push_cast [at0,qkr h0 h1,qcJ,zD,qq,qcI,Option.bind_some]
 ·refine(qj (ρ':=[some (.lst [.int (n/m)]),some (.int m),some (.int (n/m)),some (.int (n%m))]) ?_).trans rfl
  push_cast [qtX,imm]
theorem qhW {i:Int} (h0:0<=i) (h1:i<3000000000):jA i=true:=by
 unfold jA
 rw[yan,decide_eq_true_eq,decide_eq_true_eq]
 constructor<;>omega
theorem qhX (A B:OD) (x:Int):∀(ds:List D)(s:Int)(o o':OD),(∀d∈ds,∃j:Int,d=.int j)->∃s' o1 o2,uH (qq 4) (qG (zG 5 (d2 qck (d2 jB (d2 jB (d2 uF (d2 qck (dv 2) (ret (.int 2147483647))) (ret (.int 48271))) (d2 uF (ret (.int 7919)) (dv 4))) (ret (.int 1))) (ret (.int 2147483647)))) (qG (zG 5 (d2 qck (d2 uF (dv 5) (dv 5)) (ret (.int 2147483629)))) (zG 3 (d2 jB (d2 uF (dv 3) (ret (.int 2147483647))) (d2 qck (d2 uF (dv 5) (d2 jB (dv 5) (ret (.int 13)))) (ret (.int 2147483647))))))) ds [A,B,some (.int x),some (.int s),o,o']=.ok (.nx [A,B,some (.int x),some (.int s'),o1,o2])
 | [],s,o,o',_=>⟨s,o,o',rfl⟩
 | d::ds,s,o,o',h=>by
  obtain⟨j,rfl⟩:=h d mS_
  let p:Int:=(x%2147483647*48271+7919*j+1)%2147483647
  let q:Int:=p*p%2147483629
  have f48:jA 48271=true:=by decide
  have f79:jA 7919=true:=by decide
  have f21:jA 2147483647=true:=by decide
  have fp:jA p=true:=qhW (yd9 _ (by omega)) (by have:=ycG (x%2147483647*48271+7919*j+1) (show(0:Int)<2147483647 by omega);simp only[p];omega)
  have fq:jA q=true:=qhW (yd9 _ (by omega)) (by have:=ycG (p*p) (show(0:Int)<2147483629 by omega);simp only[q];omega)
  obtain⟨s',o1,o2,e⟩:=qhX A B x ds (s*2147483647+q*(q+13)%2147483647) (some (.int j)) (some (.int q)) λy hy=>h y (mM _ hy)
  refine⟨s',o1,o2,?_⟩
  have st:(qG (zG 5 (d2 qck (d2 jB (d2 jB (d2 uF (d2 qck (dv 2) (ret (.int 2147483647))) (ret (.int 48271))) (d2 uF (ret (.int 7919)) (dv 4))) (ret (.int 1))) (ret (.int 2147483647)))) (qG (zG 5 (d2 qck (d2 uF (dv 5) (dv 5)) (ret (.int 2147483629)))) (zG 3 (d2 jB (d2 uF (dv 3) (ret (.int 2147483647))) (d2 qck (d2 uF (dv 5) (d2 jB (dv 5) (ret (.int 13)))) (ret (.int 2147483647))))))) [A,B,some (.int x),some (.int s),some (.int j),o']=.ok (.nx [A,B,some (.int x),some (.int (s*2147483647+q*(q+13)%2147483647)),some (.int j),some (.int q)]):=by
   refine(qj (ρ':=[A,B,some (.int x),some (.int s),some (.int j),some (.int p)]) ?_).trans ?_
   ·push_cast [vC (j:=2147483647) (by decide),qiL f48,qgT f79,qV,p]
   refine(qj (ρ':=[A,B,some (.int x),some (.int s),some (.int j),some (.int q)]) ?_).trans ?_
   ·push_cast [qgT fp,vC (j:=2147483629) (by decide),q]
   ·push_cast [qiL f21,qV,qgT fq,vC (j:=2147483647) (by decide)]
  unfold uH
  simp only[qq,ycd,yde,st]
  exact e
theorem qrJ (ns:List Int) (i:Int) (h0:0<=i):∃n,yy [.fz ns,.int i]=.ok (.lst [.int n]):=by
 have f79:jA 7919=true:=by decide
 have s1:∃x,(sif (tst (d2 ltD (dv 1) (zB qbI %[dv 0|0]))) (zG 2 (d2 ixD (dv 0) (dv 1))) wW) [some (.fz ns),some (.int i),some (.int (7919*i+13)),none,none,none]=.ok (.nx [some (.fz ns),some (.int i),some (.int x),none,none,none]):=by
  by_cases h:i<ns.length
  ·obtain ⟨j,rfl⟩:=yfa h0
   have hj:j<ns.length:=by omega
   have e:ixD (.fz ns) (.int (j:Int))=some (.int ns[j]):=by
    show(atI ns (j:Int)).map D.int=_
    rw[qfX (gG hj)];rfl
   refine⟨ns[j],?_⟩
   push_cast [e,qbI,h]
  ·refine⟨7919*i+13,?_⟩
   push_cast [qbI,h]
 obtain⟨x,e1⟩:=s1
 have s0:(zG 2 (d2 jB (d2 uF (ret (.int 7919)) (dv 1)) (ret (.int 13)))) [some (.fz ns),some (.int i),none,none,none,none]=.ok (.nx [some (.fz ns),some (.int i),some (.int (7919*i+13)),none,none,none]):=by
  push_cast [qgT f79,qV]
 by_cases hx:x%2=0
 ·refine⟨x/2,?_⟩
  unfold yy qaT
  refine uG rfl ⟨[some (.fz ns),some (.int i),some (.int x),none,none,none],?_⟩
  refine(qj s0).trans ((qj e1).trans (qbA ?_))
  push_cast [vC (j:=2) (by decide),hx,qbB (j:=2) (by decide) (by decide),yR (show 1<=1000000 by omega)]
 ·obtain ⟨s',o1,o2,q⟩:=qhX (some (.fz ns)) (some (.int i)) x (qbK 0 16) 0 none none λd hd=>by
   unfold qbK at hd
   obtain⟨k,hk,rfl⟩:=mP_.mp hd
   exact⟨_,rfl⟩
  refine⟨s',?_⟩
  unfold yy qaT
  refine uG rfl ⟨[some (.fz ns),some (.int i),some (.int x),some (.int s'),o1,o2],?_⟩
  refine(qj s0).trans ((qj e1).trans ?_)
  refine(qj (ρ':=[some (.fz ns),some (.int i),some (.int x),none,none,none]) ?_).trans ?_
  ·push_cast [vC (j:=2) (by decide),hx]
  refine(qj (ρ':=[some (.fz ns),some (.int i),some (.int x),some (.int 0),none,none]) ?_).trans ?_
  ·push_cast []
  refine(qj (ρ':=[some (.fz ns),some (.int i),some (.int x),some (.int s'),o1,o2]) ?_).trans ?_
  ·rw[vb,wD (j:=16) (ρ1:=[some (.fz ns),some (.int i),some (.int x),some (.int 0),none,none]) rfl (by omega) (by omega)]
   exact q
  ·push_cast [yR (show 1<=1000000 by omega)]
theorem gt0 (n:Nat):gtD (.int (n:Nat)) (.int 0)=some (.bl (decide (0<n))):=by
 rw[yY]
 congr 2
 rw[decide_eq_decide]
 omega
theorem qpB:∀(b a:Nat)(o:OD),∃n o',qal (tst (d2 gtD (dv 1) (ret (.int 0)))) (qG (zG 2 (d2 qck (dv 0) (dv 1))) (qG (zG 0 (dv 1)) (zG 1 (dv 2)))) n [some (.int (a:Nat)),some (.int (b:Nat)),o]=.ok (.nx [some (.int (yaS a b:Nat)),some (.int 0),o']):=by
 intro b
 induction b using yfi with
 | _ b ih=>
  intro a o
  by_cases h:0<b
  ·obtain ⟨n,o',q⟩:=ih (a%b) (ycY _ h) b (some (.int ((a%b:Nat):Int)))
   refine⟨n+1,o',?_⟩
   unfold qal
   have t:tst (d2 gtD (dv 1) (ret (.int 0))) [some (.int (a:Nat)),some (.int (b:Nat)),o]=.ok (true,[some (.int (a:Nat)),some (.int (b:Nat)),o]):=qR (qh rfl rfl (by rw[gt0,decide_eq_true h]))
   have s:(qG (zG 2 (d2 qck (dv 0) (dv 1))) (qG (zG 0 (dv 1)) (zG 1 (dv 2)))) [some (.int (a:Nat)),some (.int (b:Nat)),o]=.ok (.nx [some (.int (b:Nat)),some (.int ((a%b:Nat):Int)),some (.int ((a%b:Nat):Int))]):=by
    refine(qj (ρ':=[some (.int (a:Nat)),some (.int (b:Nat)),some (.int ((a%b:Nat):Int))]) ?_).trans rfl
    rw[wZ,qh rfl rfl (qmJ a h)]
    rfl
   simp only[t,s]
   have e:yaS a b=yaS b (a%b):=by
    rw[Nat.gcd_comm a b,Nat.gcd_rec b a,Nat.gcd_comm]
   rw[e]
   exact q
  ·have e:b=0:=by omega
   subst e
   refine⟨1,o,?_⟩
   unfold qal
   have t:tst (d2 gtD (dv 1) (ret (.int 0))) [some (.int (a:Nat)),some (.int ((0:Nat):Int)),o]=.ok (false,[some (.int (a:Nat)),some (.int ((0:Nat):Int)),o]):=qR (qh rfl rfl (by rw[gt0];rfl))
   simp only[t]
   rw[Nat.gcd_zero_right]
   rfl
theorem qay (a b:Nat):zq [.int (a:Nat),.int (b:Nat)]=.ok (.int (yaS a b:Nat)):=by
 unfold zq yJ
 obtain⟨n,o',q⟩:=qpB b a none
 refine uG rfl ⟨[some (.int (yaS a b:Nat)),some (.int 0),o'],?_⟩
 exact(qj (qjY q (by intro z;cases z))).trans rfl
def u6(x:Kd):Prop:=1<=x.1/\x.1<=20/\0<=x.2.1/\x.2.1<=100000000000000000011/\x.2.2=none
theorem u6.ok{x:Kd}(h:u6 x):okK x:=⟨by have:=h.1;omega,h.2.2.1,λj e=>by rw[h.2.2.2.2]at e;cases e⟩
theorem qrK (ks:List Kd) (hne:0<ks.length):eqB (.tup (ks.map kD)) (.tup [])=some (.bl false):=by
 have h:∀ks:List Kd,ybk (toPDs (ks.map kD))=true/\ybY (toPDs (ks.map kD))<=1:=λks=>by
  induction ks with
  |nil=>exact⟨rfl,ybB _⟩
  | cons x ks ih=>
   have e1:(yQ (kD x)).canLay0=true/\(yQ (kD x)).depth=1:=by
    obtain⟨a,b,m⟩:=x
    cases m<;>exact⟨rfl,rfl⟩
   simp only[mC_,toPDs,ybk,ybY,e1.1,e1.2,ih.1,yaG,true_and]
   have:=ih.2
   omega
 obtain⟨h1,h2⟩:=h ks
 have h3:ybY (toPDs (ks.map kD))+1<=50:=by omega
 have o1:qa8 (.tup (ks.map kD))=true:=by
  have e:qa8 (.tup (ks.map kD))=(ybk (toPDs (ks.map kD))&&decide (ybY (toPDs (ks.map kD))+1<=50)):=by
   simp only[qa8,yQ,ybo,yd6]
  rw[e,h1,decide_eq_true h3];rfl
 cases ks with
 |nil=>exact absurd hne (yaT _)
 |cons x ks=>
  have e:eqB (.tup ((x::ks).map kD)) (.tup [])=eqA (.tup ((x::ks).map kD)) (.tup []):=rfl
  rw[e]
  unfold eqA
  rw[o1]
  rfl
theorem wM (ks:List Kd) (hl:ks.length<=12) (hne:0<ks.length):yx [.tup (ks.map kD)]=.ok (.int (qbt (ks.map λk=>k.1))):=by
 let ρ:Env:=[some (.tup (ks.map kD))]
 unfold yx qbZ
 refine uG rfl ⟨ρ,?_⟩
 show jc _ ρ=_
 have c1:qZ 1 [] none (wx (dv 0)) (qq 0) (ret true) (d2 ixD (dv 0) (ret (.int 0))) ρ=.ok (.lst (ks.map λk=>D.int k.1),ρ):=qa1 (r:=[]) (k:=kD) ks (λk=>D.int k.1) rfl rfl (by omega) λk hk=>qh rfl rfl (qaX k)
 have c2:qfC [.lst (ks.map λk=>D.int k.1)]=some (.int (qbt (ks.map λk=>k.1))):=by
  cases ks with
  |nil=>exact absurd hne (yaT _)
  |cons k ks=>
   unfold qfC
   have:=ul ((k::ks).map λk=>k.1)
   rw[mm_]at this
   simp only[ycK,mC_]at this |-
   simp only[this]
 rw[wY,vE c1 c2]
theorem jn (ks:List Kd) (h:∀k∈ks,u6 k) (hl:ks.length<=12) (hne:0<ks.length):qM [.tup (ks.map kD)]=.ok .non:=by
 let ρ:Env:=[some (.tup (ks.map kD))]
 have g0:dv 0 ρ=.ok (.tup (ks.map kD),ρ):=rfl
 have ne:vU [.tup (ks.map kD)]=.ok .non:=by
  have e:j7 ρ=.ok (.nx ρ):=by
   unfold j7
   have c1:qZ 1 [] none (wx (dv 0)) (qq 0) (ret true) (d2 isN (d2 ixD (dv 0) (ret (.int 2))) (ret .non)) ρ=.ok (.lst (ks.map λ_=>D.bl true),ρ):=by
    refine qa1 (r:=[]) (k:=kD) ks (λ_=>D.bl true) rfl rfl (by omega) λk hk=>qh (qh rfl rfl (qsW k)) rfl ?_
    rw[qcf,(h k hk).2.2.2.2]
    rfl
   have c2:d2 eqB (dv 0) (qca (ret [])) ρ=.ok (.bl false,ρ):=qh rfl (by push_cast [yR (show 0<=1000000 by omega)]) (qrK ks hne)
   have c3:qi0 [.lst (ks.map λ_=>D.bl true)]=some (.bl true):=by
    have:=qmG (as:=ks) (f:=λ_=>true)
    rw[this]
    congr 2
    exact List.all_eq_true.mpr λ_ _=>rfl
   have c4:=vE c1 c3
   simp only[qjI,qlW,qhp,qlV,c2,c4,vA,cond_false,Bool.not_true,qjJ]
  show(match j7 ρ with|.ok (.rt d _)=>R.ok d|.ok (.nx _) => .ok .non|_ => .bad)=_
  rw[e]
 have hv:=wM ks hl hne
 have nl:qat [.tup (ks.map kD)]=.ok .non:=by
  have e:uD ρ=.ok (.nx ρ):=by
   unfold uD
   have hm:qbt (ks.map λk=>k.1)<=20:=by
    cases ks with
    |nil=>exact absurd hne (yaT _)
    |cons k ks=>
     have:=qaL k.1 (ks.map λk=>k.1)
     rw[<-mC_ (f:=λk:Kd=>k.1)]at this
     obtain⟨x,hx,ex⟩:=mP_.mp this
     rw[mC_]at ex |-
     rw[<-ex]
     exact(h x hx).2.1
   have c1:d2 gtD (qg yx %[dv 0|0]) (ret (.int 20)) ρ=.ok (.bl false,ρ):=qh (jd g0 hv) rfl (by rw[yY,decide_eq_false (by omega)])
   rw[qhE (qR c1)]
   rfl
  show(match uD ρ with|.ok (.rt d _)=>R.ok d|.ok (.nx _) => .ok .non|_ => .bad)=_
  rw[e]
 have nle:qM [.tup (ks.map kD)]=.ok .non:=by
  have e:zy ρ=.ok (.nx ρ):=by
   unfold zy
   refine(qj (ρ':=ρ) ?_).trans ((qj (ρ':=ρ) ?_).trans ?_)
   ·rw[vM,jd g0 (yL _ (qbR (λk hk=>(h k hk).ok) hl))]
   ·rw[vM,jd g0 ne]
   ·rw[vM,jd g0 nl]
  show(match zy ρ with|.ok (.rt d _)=>R.ok d|.ok (.nx _) => .ok .non|_ => .bad)=_
  rw[e]
 exact nle
theorem wN {bt bt':Nat->Nat->Bool}:∀n,(∀i j,i<=n->j<=n->bt i j=bt' i j)->yax bt n=yax bt' n
 |0,_=>rfl
 |n+1,h=>by
  have e:=wN n λi j hi hj=>h i j (by omega) (by omega)
  have l:=v5 bt' n
  show(if bt (n+1) (yax bt n)then n+1 else yax bt n)=(if bt' (n+1) (yax bt' n)then n+1 else yax bt' n)
  rw[e,h (n+1) (yax bt' n) (yah _) (by omega)]
def lt2(x y:Int×Int):Bool:=decide (x.1<y.1)||(decide (x.1=y.1)&&decide (x.2<y.2))
theorem qmU (a b c d:Int):HT.lexLt [a,b] [c,d]=lt2 (a,b) (c,d):=by
 show(if a=c then(if b=d then false else decide (b<d))else decide (a<c))=_
 unfold lt2
 by_cases h1:a=c
 ·by_cases h2:b=d
  ·simp[h1,h2]
  ·simp[h1,h2]
 ·simp[h1]
theorem qmV(x y:Int×Int):lt2 x y=true ↔ (x.1<y.1\/(x.1=y.1/\x.2<y.2)):=by simp[lt2]
theorem qnX(x y:Int×Int):lt2 x y=false ↔ ¬(x.1<y.1\/(x.1=y.1/\x.2<y.2)):=by rw[<-qmV];simp
theorem qnY {x y b:Int×Int} (h1:lt2 x b=true) (h2:lt2 y b=false):lt2 x y=true/\lt2 y x=false:=by
 rw[qmV]at h1
 rw[qnX]at h2
 rw[qmV,qnX]
 omega
theorem qb1 (r:Nat->Int×Int):∀n,(∀j,j<yax (λi j=>lt2 (r i) (r j)) n->lt2 (r (yax (λi j=>lt2 (r i) (r j)) n)) (r j)=true)/\∀j,j<=n->lt2 (r j) (r (yax (λi j=>lt2 (r i) (r j)) n))=false
 | 0=>⟨λj hj=>absurd hj (yc5 _),λj hj=>by
   have:j=0:=by omega
   subst this
   show lt2 (r 0) (r 0)=false
   simp[lt2]⟩
 | n + 1=>by
  obtain⟨h1,h2⟩:=qb1 r n
  let b:=yax (λi j=>lt2 (r i) (r j)) n
  have hb:b<=n:=v5 _ n
  cases hc:lt2 (r (n+1)) (r b) with
  | true=>
   have e:yax (λi j=>lt2 (r i) (r j)) (n+1)=n+1:=by
    show(if lt2 (r (n+1)) (r b)then n+1 else b)=n+1
    rw[hc];rfl
   rw[e]
   refine⟨λj hj=>?_,λj hj=>?_⟩
   ·exact(qnY hc (h2 j (by omega))).1
   ·by_cases hj2:j=n+1
    ·subst hj2;simp[lt2]
    ·exact(qnY hc (h2 j (by omega))).2
  | false=>
   have e:yax (λi j=>lt2 (r i) (r j)) (n+1)=b:=by
    show(if lt2 (r (n+1)) (r b)then n+1 else b)=b
    rw[hc];rfl
   rw[e]
   refine⟨h1,λj hj=>?_⟩
   by_cases hj2:j=n+1
   ·subst hj2;exact hc
   ·exact h2 j (by omega)
def qcl(ks:List Kd):Int:=ks.foldl (λp k=>p*k.1) 1
def wP(P:Int)(k:Kd):Int×Int:=(-k.2.1*(P/k.1),k.1)
def rD(P:Int)(k:Kd):D:=.tup [.int (wP P k).1,.int (wP P k).2]
def qf6(x y:Kd):Bool:=decide (y.2.1*x.1<x.2.1*y.1)||(decide (x.2.1*y.1=y.2.1*x.1)&&decide (x.1<y.1))
theorem qhY {ks:List Kd}:∀(p:Int),p ∣ ks.foldl (λp k=>p*k.1) p/\∀k∈ks,k.1 ∣ ks.foldl (λp k=>p*k.1) p:=by
 induction ks with
 |nil=>intro p;exact⟨Int.dvd_refl _,λk hk=>by cases hk⟩
 |cons x ks ih=>
  intro p
  obtain⟨h1,h2⟩:=ih (p*x.1)
  rw[fo_]
  refine⟨Int.dvd_trans (Int.dvd_mul_right p x.1) h1,λk hk=>?_⟩
  rcases List.mem_cons.mp hk with rfl|hk
  ·exact Int.dvd_trans (Int.dvd_mul_left p k.1) h1
  ·exact h2 k hk
theorem qiR {ks:List Kd} (h:∀k∈ks,u6 k):∀(p:Int)(n:Nat),1<=p->p<=20 ^ n->1<=ks.foldl (λp k=>p*k.1) p/\ks.foldl (λp k=>p*k.1) p<=20 ^ (n+ks.length):=by
 induction ks with
 |nil=>intro p n h1 h2;exact⟨h1,h2⟩
 | cons x ks ih=>
  intro p n h1 h2
  have gx:=h x mS_
  have a1:1<=p*x.1:=by
   have:=Int.mul_le_mul h1 gx.1 (by omega) (by omega)
   omega
  have a2:p*x.1<=20 ^ (n+1):=by
   rw[Int.pow_succ]
   exact Int.mul_le_mul h2 gx.2.1 (by have:=gx.1;omega) (Int.pow_nonneg (by omega))
  have:=ih (λk hk=>h k (mM _ hk)) (p*x.1) (n+1) a1 a2
  rw[fo_,lC_,show n+(ks.length+1)=n+1+ks.length by omega]
  exact this
theorem qkS {P:Int} (hP:0<P) {x y:Kd} (hx:u6 x) (hy:u6 y) (dx:x.1 ∣ P) (dy:y.1 ∣ P):lt2 (wP P x) (wP P y)=qf6 x y:=by
 obtain⟨c,hc⟩:=dx
 obtain⟨d,hd⟩:=dy
 have x0:0<x.1:=by have:=hx.1;omega
 have y0:0<y.1:=by have:=hy.1;omega
 have ex:P/x.1=c:=by rw[hc];exact ye6 _ (by omega)
 have ey:P/y.1=d:=by rw[hd];exact ye6 _ (by omega)
 have key1:x.2.1*c*(x.1*y.1)=x.2.1*y.1*P:=by rw[hc];simp only[Int.mul_assoc,ye7,ygJ]
 have key2:y.2.1*d*(x.1*y.1)=y.2.1*x.1*P:=by rw[hd];simp only[Int.mul_assoc,ye7,ygJ]
 have xy:0<x.1*y.1:=Int.mul_pos x0 y0
 have l1:(y.2.1*d<x.2.1*c) ↔ (y.2.1*x.1<x.2.1*y.1):=by
  rw[<-yfQ xy,key1,key2,yfQ hP]
 have l2:(x.2.1*c=y.2.1*d) ↔ (x.2.1*y.1=y.2.1*x.1):=by
  constructor
  ·intro h
   have h':x.2.1*y.1*P=y.2.1*x.1*P:=by rw[<-key1,<-key2,h]
   exact yeA (by omega) h'
  ·intro h
   have h':x.2.1*c*(x.1*y.1)=y.2.1*d*(x.1*y.1):=by rw[key1,key2,h]
   exact yeA (by omega) h'
 unfold lt2 wP qf6
 rw[ex,ey]
 have e1:decide (-x.2.1*c < -y.2.1*d)=decide (y.2.1*x.1<x.2.1*y.1):=by
  rw[decide_eq_decide,<-l1,yfu,yfu]
  omega
 have e2:decide (-x.2.1*c = -y.2.1*d)=decide (x.2.1*y.1=y.2.1*x.1):=by
  rw[decide_eq_decide,<-l2,yfu,yfu]
  omega
 simp only[e1,e2]
theorem qeQ {i:Int} (h0 : -1000000000000000000<=i) (h1:i<=1000000000000000000):jA i=true:=by
 unfold jA
 rw[yan,decide_eq_true_eq,decide_eq_true_eq]
 constructor<;>omega
theorem qhZ {ks:List Kd} (h:∀k∈ks,u6 k) (hl:ks.length<=12):1<=qcl ks/\qcl ks<=4096000000000000:=by
 have:=qiR h 1 0 (by omega) (by decide)
 rw[ybf]at this
 refine⟨this.1,ydb this.2 ?_⟩
 have:(20:Int) ^ ks.length<=20 ^ 12:=by
  have:=yfR (n:=20) (by omega) hl
  exact_mod_cast this
 exact ydb this (by decide)
theorem qaY (ks:List Kd) (h:∀k∈ks,u6 k) (hl:ks.length<=12):jW [.tup (ks.map kD)]=.ok (.int (qcl ks)):=by
 unfold jW uf
 obtain ⟨ρ',q,o2,rfl⟩:=qc3 (G:=qq 2) (b:=(zG 1 (d2 uF (dv 1) (d2 ixD (dv 2) (ret (.int 0)))))) (k:=kD) (step:=λ(p:Int) (k:Kd)=>p*k.1) (Inv:=λn p ρ=>∃o2,ρ=[some (.tup (ks.map kD)),some (.int p),o2]) ks 0 1 [some (.tup (ks.map kD)),some (.int 1),none] ⟨none,rfl⟩ (λk hk m p ρ _ hm=>by
  rintro⟨o2,rfl⟩
  have gk:=h k hk
  have f:jA k.1=true:=qeQ (by have:=gk.1;omega) (by have:=gk.2.1;omega)
  refine⟨[some (.tup (ks.map kD)),some (.int p),some (kD k)],[some (.tup (ks.map kD)),some (.int (p*k.1)),some (kD k)],rfl,?_,_,rfl⟩
  rw[wZ,qh rfl (qh rfl rfl (qaX k)) (qiL f)]
  rfl)
 refine uG rfl ⟨[some (.tup (ks.map kD)),some (.int (qcl ks)),o2],?_⟩
 refine(qj (ρ':=[some (.tup (ks.map kD)),some (.int 1),none]) rfl).trans ?_
 refine(qj (ρ':=[some (.tup (ks.map kD)),some (.int (qcl ks)),o2]) ?_).trans rfl
 rw[vb]
 exact q
def qdZ(ks:List Kd):Nat:=yax (λi j=>qf6 (kAt ks i) (kAt ks j)) (ks.length-1)
theorem qf7 (P:Int):∀ks:List Kd,qgO (ks.map (rD P))=some (ks.map λk=>[(wP P k).1,(wP P k).2])
 | []=>rfl
 |k::ks=>by
  have e:vt [.int (wP P k).1,.int (wP P k).2]=some [(wP P k).1,(wP P k).2]:=rfl
  rw[mC_,mC_]
  show(match vt [.int (wP P k).1,.int (wP P k).2],qgO (ks.map (rD P)) with|some n,some ns=>some (n::ns)|_,_=>none)=_
  rw[e,qf7 P ks]
theorem qeR {P:Int} {ks:List Kd} {i:Nat} (h:i<ks.length):qi2 (ks.map λk=>[(wP P k).1,(wP P k).2]) i=[(wP P (kAt ks i)).1,(wP P (kAt ks i)).2]:=by
 unfold qi2
 rw[gM_,qc4 h]
 rfl
theorem qdg {P:Int} (hP:0<P) {ks:List Kd} (h:∀k∈ks,u6 k) (hd:∀k∈ks,k.1 ∣ P) (hne:0<ks.length):qdz (ks.map λk=>[(wP P k).1,(wP P k).2])=qdZ ks/\yax (λi j=>lt2 (wP P (kAt ks i)) (wP P (kAt ks j))) (ks.length-1)=qdZ ks:=by
 have e2:yax (λi j=>lt2 (wP P (kAt ks i)) (wP P (kAt ks j))) (ks.length-1)=qdZ ks :=
  wN _ λi j hi hj=>qkS hP (h _ (qbS (by omega))) (h _ (qbS (by omega))) (hd _ (qbS (by omega))) (hd _ (qbS (by omega)))
 refine⟨?_,e2⟩
 unfold qdz
 rw[lM_,<-e2]
 refine wN _ λi j hi hj=>?_
 rw[qeR (by omega),qeR (by omega),qmU]
theorem qf8(P:Int)(k:Kd):qa8 (rD P k)=true:=qkt (ns:=[(wP P k).1,(wP P k).2])
theorem qh0 (P:Int) (x y:Kd):yaZ (yQ (rD P x)) (yQ (rD P y))=decide (wP P x=wP P y):=by
 have h:=qmH [(wP P x).1,(wP P x).2] [(wP P y).1,(wP P y).2]
 refine(show yaZ (yQ (rD P x)) (yQ (rD P y))=_ from h).trans ?_
 rw[decide_eq_decide]
 constructor
 ·intro h
  simp only[List.cons.injEq,and_true]at h
  exact Prod.ext h.1 h.2
 ·intro h
  rw[h]
theorem qdh {ks:List Kd} (hne:0<ks.length):qdZ ks<ks.length:=by
 have:=v5 (λi j=>qf6 (kAt ks i) (kAt ks j)) (ks.length-1)
 unfold qdZ
 omega
theorem qiS {P:Int} (hP:0<P) {ks:List Kd} (h:∀k∈ks,u6 k) (hd:∀k∈ks,k.1 ∣ P) (hne:0<ks.length):qfF (.lst (ks.map (rD P))) [rD P (kAt ks (qdZ ks))]=some (.int (qdZ ks:Nat)):=by
 have hl:=qdh hne
 obtain⟨_,e2⟩:=qdg hP h hd hne
 obtain⟨b1,_⟩:=qb1 (λi=>wP P (kAt ks i)) (ks.length-1)
 rw[e2]at b1
 have hf:(ks.map (rD P)).findIdx? (λe=>yaZ (yQ e) (yQ (rD P (kAt ks (qdZ ks)))))=some (qdZ ks):=by
  rw[List.findIdx?_eq_some_iff_getElem]
  refine⟨by rw[lM_];exact hl,?_,λj hj=>?_⟩
  ·have e:ks[qdZ ks]=kAt ks (qdZ ks):=by
    have:=qc4 hl
    rw[gG hl]at this
    exact yaw this
   rw[List.getElem_map,qh0,e]
   exact decide_eq_true rfl
  ·have hj':j<ks.length:=by omega
   have e:ks[j]=kAt ks j:=by
    have:=qc4 hj'
    rw[gG hj']at this
    exact yaw this
   rw[List.getElem_map,qh0,e]
   have g:=b1 j hj
   intro hh
   have hh':wP P (kAt ks j)=wP P (kAt ks (qdZ ks)):=of_decide_eq_true hh
   simp only[hh']at g
   rw[qmV]at g
   omega
 have o1:(ks.map (rD P)).all qa8=true:=by
  rw[ydd]
  exact List.all_eq_true.mpr λk _=>qf8 P k
 unfold qfF
 simp only[o1,qf8,yaG,if_true,hf,ybg]
 rfl
theorem qdi (ks:List Kd) (h:∀k∈ks,u6 k) (hl:ks.length<=12) (hne:0<ks.length):vH [.tup (ks.map kD)]=.ok (.int (qdZ ks:Nat)):=by
 unfold vH qas
 obtain⟨P1,P2⟩:=qhZ h hl
 let P:=qcl ks
 have hP:0<P:=by show 0<qcl ks;omega
 have hd:∀k∈ks,k.1 ∣ P:=(qhY 1).2
 let T:OD:=some (.tup (ks.map kD))
 refine uG rfl ⟨[T,some (.int P),some (.lst (ks.map (rD P)))],?_⟩
 refine(qj (ρ':=[T,some (.int P),none]) ?_).trans ?_
 ·show zG 1 _ [T,none,none]=_
  rw[wZ,jd rfl (qaY ks h hl)]
  rfl
 refine(qj (ρ':=[T,some (.int P),some (.lst (ks.map (rD P)))]) ?_).trans ?_
 ·rw[wZ,qa1 (r:=[some (.int P)]) (k:=kD) ks (rD P) rfl rfl (by omega) (λk hk=>?_)]
  ·rfl
  have gk:=h k hk
  have b0:0<=P/k.1:=yfh (by omega) (by have:=gk.1;omega)
  have b1:P/k.1<=P:=Int.ediv_le_self _ (by omega)
  have f:jA (P/k.1)=true:=qeQ (by omega) (by show P/k.1<=_;have:P<=4096000000000000:=P2;omega)
  refine qsd (qh ?_ (qh rfl (qh rfl rfl (qaX k)) (qbB (by have:=gk.1;omega) (by have:=gk.2.1;omega))) (qiL f)) (qh rfl rfl (qaX k))
  rw[qq7,qh rfl rfl (qmE k)]
  rfl
 ·have em:qmc [.lst (ks.map (rD P))]=some (rD P (kAt ks (qdZ ks))):=by
   obtain⟨e1,_⟩:=qdg hP h hd hne
   cases ks with
   |nil=>exact absurd hne (yaT _)
   |cons k ks'=>
    have e0:qiq [.lst ((k::ks').map (rD P))]=none:=rfl
    unfold qmc
    rw[e0]
    show qjZ [.lst ((k::ks').map (rD P))]=_
    unfold qjZ
    simp only[qf7]
    rw[mC_]at e1 |-
    simp only
    rw[e1,<-mC_ (f:=λk=>[(wP P k).1,(wP P k).2]),qeR (qdh hne)]
    rfl
  rw[wY,qgM]
  have g1:dv 2 [T,some (.int P),some (.lst (ks.map (rD P)))]=.ok (.lst (ks.map (rD P)),[T,some (.int P),some (.lst (ks.map (rD P)))]):=rfl
  rw[g1]
  simp only[v8 (vE g1 em),qiS hP h hd hne]
theorem qt1(i:Int):uF (.int 3) (.int i)=some (.int (3*i)):=qgT (by decide)
theorem qmW (M h:Int) (hh:1<=h/\h<=20) (c:Int) (hc:0<=c/\c<5) (n:Int) (ks:List Kd) (hl:ks.length<12) (o5 o6 o7 o8:OD):∃n' k p6 p7 p8,(u6 k/\k.1<=h)/\(qG (zG 6 (d2 jB (ret (.int 1)) (qD qp 0 %[dv 2|0]))) (qG (zG 7 (qD qp 0 %[ret (.int 12)|0])) (qG (zG 8 (d2 ixD (qaV %[dv 7,dv 6,d2 jB (d2 uF (ret (.int 3)) (dv 6)) (d2 qck (dv 7) (ret (.int 3))),ret (.int 0),d2 jB (d2 qpY (ret (.int 10)) (ret (.int 20))) (dv 7)|0]) (dv 3))) (zx (jg 4 (qca %[dv 6,dv 8,ret .non|0])))))) [some (.lst [.int n]),some (.int M),some (.int h),some (.int c),some (.lst (ks.map kD)),o5,o6,o7,o8]=.ok (.nx [some (.lst [.int n']),some (.int M),some (.int h),some (.int c),some (.lst ((ks++[k]).map kD)),o5,p6,p7,p8]):=by
 let a:=1+n%h
 let n1:=n/h
 let g:=n1%12
 let n2:=n1/12
 have ha:1<=a/\a<=20:=by
  have h1:=yd9 n (show h≠0 by omega)
  have h2:=ycG n (show 0<h by omega)
  simp only[a]
  omega
 have hah:a<=h:=by
  have h2:=ycG n (show 0<h by omega)
  simp only[a]
  omega
 have hg:0<=g/\g<=11:=by simp only[g];omega
 let L:List D:=[.int g,.int a,.int (3*a+g%3),.int 0,.int (100000000000000000000+g)]
 obtain⟨m,hm,em⟩:=qnS (ds:=L) (k:=c) hc.1 (by show c<5;exact hc.2)
 have hm2:∃v:Int,m=.int v/\0<=v/\v<=100000000000000000011:=by
  simp only[L,yaD,nN_,or_false]at hm
  rcases hm with rfl|rfl|rfl|rfl|rfl
  ·exact⟨_,rfl,by omega,by omega⟩
  ·exact⟨_,rfl,by omega,by omega⟩
  ·exact⟨_,rfl,by omega,by omega⟩
  ·exact⟨_,rfl,by omega,by omega⟩
  ·exact⟨_,rfl,by omega,by omega⟩
 obtain⟨v,rfl,v1,v2⟩:=hm2
 refine⟨n2,(a,v,none),some (.int a),some (.int g),some (.int v),⟨⟨ha.1,ha.2,v1,v2,rfl⟩,hah⟩,?_⟩
 let T:OD:=some (.lst (ks.map kD))
 refine(qj (ρ':=[some (.lst [.int n1]),some (.int M),some (.int h),some (.int c),T,o5,some (.int a),o7,o8]) ?_).trans ?_
 ·push_cast [vW (m:=h) (by omega) (by omega),qV,a,n1,T]
 refine(qj (ρ':=[some (.lst [.int n2]),some (.int M),some (.int h),some (.int c),T,o5,some (.int a),some (.int g),o8]) ?_).trans ?_
 ·push_cast [vW (m:=12) (by decide) (by decide),g,n2]
 refine(qj (ρ':=[some (.lst [.int n2]),some (.int M),some (.int h),some (.int c),T,o5,some (.int a),some (.int g),some (.int v)]) ?_).trans ?_
 ·have em':ixD (.lst [.int g,.int a,.int (3*a+g%3),.int 0,.int (100000000000000000000+g)]) (.int c)=some (.int v):=em
  push_cast [qt1,vC (j:=3) (by decide),qV,qsV,yR (show 5<=1000000 by omega),em']
 ·rw[qbC (ds:=ks.map kD) (d:=kD (a,v,none)) rfl (qtt rfl rfl rfl) rfl (by rw[lM_];omega)]
  simp only[ybH]
  rfl
theorem qh1 (M h:Int) (hh:1<=h/\h<=20) (c:Int) (hc:0<=c/\c<5):∀(ds:List D)(n:Int)(ks:List Kd)(o5 o6 o7 o8:OD),(∀k∈ks,u6 k/\k.1<=h)->ks.length+ds.length<=12 ->
  ∃(n':Int)(ks':List Kd)(p5 p6 p7 p8:OD),uH (qq 5) (qG (zG 6 (d2 jB (ret (.int 1)) (qD qp 0 %[dv 2|0]))) (qG (zG 7 (qD qp 0 %[ret (.int 12)|0])) (qG (zG 8 (d2 ixD (qaV %[dv 7,dv 6,d2 jB (d2 uF (ret (.int 3)) (dv 6)) (d2 qck (dv 7) (ret (.int 3))),ret (.int 0),d2 jB (d2 qpY (ret (.int 10)) (ret (.int 20))) (dv 7)|0]) (dv 3))) (zx (jg 4 (qca %[dv 6,dv 8,ret .non|0])))))) ds [some (.lst [.int n]),some (.int M),some (.int h),some (.int c),some (.lst (ks.map kD)),o5,o6,o7,o8]=.ok (.nx [some (.lst [.int n']),some (.int M),some (.int h),some (.int c),some (.lst (ks'.map kD)),p5,p6,p7,p8])/\(∀k∈ks',u6 k/\k.1<=h)/\ks'.length=ks.length+ds.length
 | [],n,ks,o5,o6,o7,o8,g,hl=>⟨n,ks,o5,o6,o7,o8,rfl,g,rfl⟩
 | d::ds,n,ks,o5,o6,o7,o8,g,hl=>by
  have hl':ks.length+(ds.length+1)<=12:=hl
  obtain⟨n1,k,p6,p7,p8,gk,e⟩:=qmW M h hh c hc n ks (by omega) (some d) o6 o7 o8
  obtain ⟨n',ks',q5,q6,q7,q8,q,g2,l⟩:=qh1 M h hh c hc ds n1 (ks++[k]) (some d) p6 p7 p8 (λx hx=>(mA_.mp hx).elim (g x) λhx=>by
   rw[ms_]at hx;subst hx;exact gk) (by rw[lA_,yaY];omega)
  refine⟨n',ks',q5,q6,q7,q8,?_,g2,by rw[l,lA_,yaY,lC_];omega⟩
  unfold uH
  simp only[qq,ycd,yde,e]
  exact q
theorem qiT (m:Int) (hm:1<=m/\m<=12) (h:Int) (hh:1<=h/\h<=20) (n:Int):∃(ks:List Kd)(n':Int),z4 [.int n] [.int m,.int h]=.ok (.tup (ks.map kD),[.int n'])/\(∀k∈ks,u6 k/\k.1<=h)/\(ks.length:Int)<=m/\0<ks.length:=by
 let c:=n%5
 let n1:=n/5
 let j:=1+n1%m
 let n2:=n1/m
 have hj:1<=j/\j<=m:=by
  have h1:=yd9 n1 (show m≠0 by omega)
  have h2:=ycG n1 (show 0<m by omega)
  simp only[j];omega
 obtain⟨n',ks,p5,p6,p7,p8,q,g,l⟩:=qh1 m h hh c (by simp only[c];omega) (qbK 0 j.toNat) n2 [] none none none none (λ_ h=>by cases h) (by rw[qez];simp;omega)
 rw[qez]at l
 simp only[lN_]at l
 refine⟨ks,n',?_,g,by omega,by omega⟩
 unfold z4
 refine qjR (ρ:=[some (.lst [.int n']),some (.int m),some (.int h),some (.int c),some (.lst (ks.map kD)),p5,p6,p7,p8]) rfl ?_ rfl
 unfold uq
 refine(qj (ρ':=[some (.lst [.int n1]),some (.int m),some (.int h),some (.int c),none,none,none,none,none]) ?_).trans ?_
 ·push_cast [vW (m:=5) (by decide) (by decide),c,n1]
 refine(qj (ρ':=[some (.lst [.int n1]),some (.int m),some (.int h),some (.int c),some (.lst []),none,none,none,none]) ?_).trans ?_
 ·push_cast [immL,yR (show 0<=1000000 by omega),yaG]
 refine(qj (ρ':=[some (.lst [.int n']),some (.int m),some (.int h),some (.int c),some (.lst (ks.map kD)),p5,p6,p7,p8]) ?_).trans ?_
 ·rw[vb,wD (j:=j) (ρ1:=[some (.lst [.int n2]),some (.int m),some (.int h),some (.int c),some (.lst []),none,none,none,none]) ?_ (by omega) (by omega)]
  ·exact q
  ·push_cast [vW (m:=m) (by omega) (by omega),qV,n2,j]
 ·push_cast []
def kn(k:Kd):Kn:=(k.1.toNat,k.2.1.toNat)
theorem kn1{k:Kd}(h:u6 k):(((kn k).1:Nat):Int)=k.1:=by have:=h.1;show((k.1.toNat:Nat):Int)=_;omega
theorem kn2{k:Kd}(h:u6 k):(((kn k).2:Nat):Int)=k.2.1:=by have:=h.2.2.1;show((k.2.1.toNat:Nat):Int)=_;omega
abbrev Ns(ks:List Kd):List Kn:=ks.map kn
theorem qp2 {ks:List Kd} (h:∀k∈ks,u6 k):∀x∈Ns ks,1<=x.1:=λx hx=>by
 obtain⟨k,hk,rfl⟩:=mP_.mp hx
 have:=kn1 (h k hk)
 have:=(h k hk).1
 omega
def wI(ks:List Kd)(i:Nat):D:=.int ((W (Ns ks) i:Nat):Int)
def tD(ks:List Kd)(m:Nat):List D:=(yag m).map (wI ks)
theorem qpC (ks:List Kd) (m:Nat):tD ks (m+1)=tD ks m++[wI ks m]:=by
 unfold tD
 rw[yc6,ybH];rfl
theorem qh2(ks:List Kd)(m:Nat):(tD ks m).length=m:=by simp[tD]
theorem qrL {ks:List Kd} {m i:Nat} (h:i<m):atI (tD ks m) (i:Int)=some (wI ks i):=qfX (by
 unfold tD
 rw[gM_,List.getElem?_range h];rfl)
theorem qpD{ks:List Kd}{m i:Nat}(h:i<m):ixD (.lst (tD ks m)) (.int (i:Int))=some (wI ks i):=qrL h
theorem qf9 {ns:List Nat} (h:ns≠[]):qbt (ns.map λn:Nat=>(n:Int))=((mxN ns:Nat):Int):=qcU (mP_.mpr ⟨_,qeD h,rfl⟩) λn hn=>by
 obtain⟨m,hm,rfl⟩:=mP_.mp hn
 exact Int.ofNat_le.mpr (qhJ hm)
theorem qmX {G:D->Env->Option Env} {b:MS} {Inv:Nat->Env->Prop} (lo:Nat):∀(n:Nat)(ρ:Env),Inv lo ρ->(∀m,lo<=m->m<lo+n->∀ρ,Inv m ρ->∃ρ1 ρ2,G (.int (m:Int)) ρ=some ρ1/\b ρ1=.ok (.nx ρ2)/\Inv (m+1) ρ2) ->
  ∃ρ',uH G b (qbK (lo:Int) n) ρ=.ok (.nx ρ')/\Inv (lo+n) ρ':=by
 intro n
 induction n generalizing lo with
 |zero=>exact λρ h _=>⟨ρ,rfl,h⟩
 |succ n ih=>
  intro ρ h H
  obtain⟨ρ1,ρ2,h1,h2,h3⟩:=H lo (yah _) (by omega) ρ h
  obtain⟨ρ',q,w⟩:=ih (lo+1) ρ2 h3 λm m1 m2=>H m (by omega) (by omega)
  refine⟨ρ',?_,by rw[show lo+(n+1)=lo+1+n by omega];exact w⟩
  rw[qfU,uy h1 h2]
  have:((lo:Int)+1)=((lo+1:Nat):Int):=by omega
  rw[this];exact q
theorem qpE {ks:List Kd} (h:∀k∈ks,u6 k) (m:Nat):qam [.lst ((ks.filter λk=>decide (k.1<=(m:Int))).map λk=>D.int (((W (Ns ks) (m-(kn k).1):Nat):Int)+k.2.1))] [.int 0]=some (wI ks m):=by
 have hw:=qp2 h
 have e1:((Ns ks).filter λk=>decide (k.1<=m))=(ks.filter λk=>decide (k.1<=(m:Int))).map kn:=by
  rw[yfj]
  congr 1
  refine ydr λk hk=>?_
  have:=kn1 (h k hk)
  show decide ((kn k).1<=m)=decide (k.1<=(m:Int))
  exact decide_eq_decide.mpr (by omega)
 have e2:=qse hw m
 rw[e1,mm_]at e2
 let l:=(ks.filter λk=>decide (k.1<=(m:Int))).map ((λk=>W (Ns ks) (m-k.1)+k.2)∘kn)
 have e3:((ks.filter λk=>decide (k.1<=(m:Int))).map λk=>D.int (((W (Ns ks) (m-(kn k).1):Nat):Int)+k.2.1))=(l.map λn:Nat=>(n:Int)).map D.int:=by
  simp only[l,mm_]
  refine mL_ λk hk=>?_
  have:=kn2 (h k (List.mem_filter.mp hk).1)
  show D.int _=D.int (((W (Ns ks) (m-(kn k).1)+(kn k).2:Nat):Int))
  congr 1
  omega
 rw[e3]
 unfold qam
 simp only[ul,ybg]
 by_cases hl:l=[]
 ·rw[hl]
  have:W (Ns ks) m=0:=by rw[e2];show mxN l=0;rw[hl];rfl
  unfold wI
  rw[this];rfl
 ·have hl2:(l.map λn:Nat=>(n:Int))≠[]:=λz=>hl (List.map_eq_nil_iff.mp z)
  rw[if_neg hl2,qf9 hl]
  unfold wI
  rw[e2]
theorem qmY {ks:List Kd} (h:∀k∈ks,u6 k) (hl:ks.length<=12) (hne:0<ks.length):qsY (Ns ks) (kn (kAt ks (qdZ ks))):=by
 obtain⟨P1,P2⟩:=qhZ h hl
 have hP:0<qcl ks:=by omega
 have hd:∀k∈ks,k.1 ∣ qcl ks:=(qhY 1).2
 have hm:=qbS (qdh hne)
 refine⟨mP_.mpr ⟨_,hm,rfl⟩,λx hx=>?_⟩
 obtain⟨k,hk,rfl⟩:=mP_.mp hx
 obtain⟨j,hj,e⟩:=List.mem_iff_getElem.mp hk
 have ej:kAt ks j=k:=by
  unfold kAt
  rw[gG hj,e];rfl
 obtain⟨_,e2⟩:=qdg hP h hd hne
 have e3:=(qb1 (λi=>wP (qcl ks) (kAt ks i)) (ks.length-1)).2 j (by omega)
 have e4:yax (λi j=>lt2 (wP (qcl ks) (kAt ks i)) (wP (qcl ks) (kAt ks j))) (ks.length-1)=qdZ ks:=e2
 rw[e4]at e3
 have gk:=h k hk
 have gp:=h _ hm
 rw[ej,qkS hP gk gp (hd _ hk) (hd _ hm)]at e3
 unfold qf6 at e3
 simp only[Bool.or_eq_false_iff,decide_eq_false_iff_not]at e3
 have e5:k.2.1*(kAt ks (qdZ ks)).1<=(kAt ks (qdZ ks)).2.1*k.1:=by omega
 have:=kn1 gk
 have:=kn2 gk
 have:=kn1 gp
 have:=kn2 gp
 rw[<-kn1 gk,<-kn2 gk,<-kn1 gp,<-kn2 gp,<-ybe,<-ybe]at e5
 exact Int.ofNat_le.mp e5
theorem vX (ks:List Kd) (h:∀k∈ks,u6 k) (hl:ks.length<=12) (hne:0<ks.length):ug [.tup (ks.map kD)]=.ok (kD (kAt ks (qdZ ks))):=by
 unfold ug qbg
 exact uG rfl ⟨_,z8 (qh rfl (jd rfl (qdi ks h hl hne)) (qru (qdh hne)))⟩
def ld(ks:List Kd):Kd:=kAt ks (qdZ ks)
theorem yM{ks:List Kd}(h:∀k∈ks,u6 k)(hne:0<ks.length):u6 (ld ks):=h _ (qbS (qdh hne))
def hv(ks:List Kd):Int:=qbt (ks.map λk=>k.1)
theorem qrM {ks:List Kd} (hne:0<ks.length):(∀k∈ks,k.1<=hv ks)/\∃k∈ks,k.1=hv ks:=by
 cases ks with
 |nil=>exact absurd hne (yaT _)
 | cons k ks=>
  have e:hv (k::ks)=qbt (k.1::ks.map λk=>k.1):=rfl
  refine ⟨λx hx=>by
   have hm:x.1∈(k::ks).map λk=>k.1:=mP_.mpr ⟨x,hx,rfl⟩
   rw[mC_]at hm
   rw[e];exact qel _ _ _ hm,?_⟩
  obtain⟨x,hx,e2⟩:=mP_.mp (show qbt (k.1::ks.map λk=>k.1)∈(k::ks).map λk=>k.1 from qaL k.1 (ks.map λk=>k.1))
  exact⟨x,hx,e2⟩
theorem qtw {ks:List Kd} (h:∀k∈ks,u6 k) (hne:0<ks.length):1<=hv ks/\hv ks<=20:=by
 obtain⟨_,k,hk,e⟩:=qrM hne
 have:=h k hk
 rw[<-e];exact⟨this.1,this.2.1⟩
def sN(ks:List Kd):Nat:=(kn (ld ks)).1+((kn (ld ks)).1-1)*(hv ks).toNat
theorem qrN {ks:List Kd} (h:∀k∈ks,u6 k) (hne:0<ks.length):((sN ks:Nat):Int)=(ld ks).1+((ld ks).1-1)*hv ks:=by
 have h1:=kn1 (yM h hne)
 have h2:=(yM h hne).1
 have h3:=(qtw h hne).1
 unfold sN
 rw[yfk,ybe,h1]
 have e1:(((kn (ld ks)).1-1:Nat):Int)=(ld ks).1-1:=by omega
 have e2:(((hv ks).toNat:Nat):Int)=hv ks:=by omega
 rw[e1,e2]
theorem qrO {ks:List Kd} (h:∀k∈ks,u6 k) (hne:0<ks.length):sN ks<=400:=by
 have h1:=kn1 (yM h hne)
 have h2:=(yM h hne).2.1
 have h3:=(qtw h hne).2
 unfold sN
 have a1:(kn (ld ks)).1<=20:=by omega
 have a2:(hv ks).toNat<=20:=by omega
 have:((kn (ld ks)).1-1)*(hv ks).toNat<=19*20:=yeg (by omega) a2
 omega
theorem qaz (ks:List Kd) (h:∀k∈ks,u6 k) (hl:ks.length<=12) (hne:0<ks.length):jC [.tup (ks.map kD)]=.ok (.int (sN ks:Nat)):=by
 unfold jC yH
 have gp:=yM h hne
 have f:jA ((ld ks).1-1)=true:=qeQ (by have:=gp.1;omega) (by have:=gp.2.1;omega)
 refine uG rfl ⟨[some (.tup (ks.map kD)),some (.int (ld ks).1)],?_⟩
 refine(qj (ρ':=[some (.tup (ks.map kD)),some (.int (ld ks).1)]) (j4 (qh (jd rfl (vX ks h hl hne)) rfl (qaX _)))).trans ?_
 rw[qrN h hne]
 exact z8 (qh rfl (qh (qh rfl rfl (yG _ _)) (jd rfl (wM ks hl hne)) (qgT f)) (qV _ _))
theorem qb2 (ks:List Kd) (h:∀k∈ks,u6 k) (hl:ks.length<=12) (hne:0<ks.length):uo [.tup (ks.map kD)]=.ok (.lst (tD ks (sN ks))):=by
 have hs:=qrO h hne
 let T:OD:=some (.tup (ks.map kD))
 obtain ⟨ρ',q,o2,o3,rfl⟩:=qmX (G:=qq 2) (b:=(qG (zG 3 (qZ 1 [2] none (wx (dv 0)) (qq 0) (tst (d2 leD (d2 ixD (dv 0) (ret (.int 0))) (dv 1))) (dv 0))) (zx (jg 1 (ux qam %[qZ 1 [1,2] (some (1,1)) (wx (dv 3)) (qq 0) (ret true) (d2 jB (qce 1 (d2 qbo (dv 2) (d2 ixD (dv 0) (ret (.int 0))))) (d2 ixD (dv 0) (ret (.int 1))))|0] %[ret (.int 0)|0]))))) (Inv:=λm ρ=>∃o2 o3,ρ=[T,some (.lst (tD ks m)),o2,o3]) 0 (sN ks) [T,some (.lst []),none,none] ⟨none,none,rfl⟩ (λm _ hm ρ=>by
  rintro⟨o2,o3,rfl⟩
  let fit:=ks.filter λk=>decide (k.1<=(m:Int))
  let ρ2:Env:=[T,some (.lst (tD ks m)),some (.int (m:Int)),some (.lst (fit.map kD))]
  refine⟨[T,some (.lst (tD ks m)),some (.int (m:Int)),o3],[T,some (.lst (tD ks (m+1))),some (.int (m:Int)),some (.lst (fit.map kD))],rfl,?_,some (.int (m:Int)),some (.lst (fit.map kD)),rfl⟩
  have c1:qZ 1 [2] none (wx (dv 0)) (qq 0) (tst (d2 leD (d2 ixD (dv 0) (ret (.int 0))) (dv 1))) (dv 0) [T,some (.lst (tD ks m)),some (.int (m:Int)),o3]=.ok (.lst (fit.map kD),[T,some (.lst (tD ks m)),some (.int (m:Int)),o3]) :=
   qc2 (r:=[some (.int (m:Int))]) (k:=kD) ks (λk=>decide (k.1<=(m:Int))) kD rfl rfl (by omega) (λk _=>qR (qh (qh rfl rfl (qaX k)) rfl (qbQ _ _))) λk _ _=>rfl
  refine(qj (ρ':=ρ2) (j4 c1)).trans ?_
  have c2:qZ 1 [1,2] (some (1,1)) (wx (dv 3)) (qq 0) (ret true) (d2 jB (qce 1 (d2 qbo (dv 2) (d2 ixD (dv 0) (ret (.int 0))))) (d2 ixD (dv 0) (ret (.int 1)))) ρ2=.ok (.lst (fit.map λk=>D.int (((W (Ns ks) (m-(kn k).1):Nat):Int)+k.2.1)),ρ2):=by
   have:=qkA (r:=[some (.lst (tD ks m)),some (.int (m:Int))]) (k:=kD) (e:=d2 jB (qce 1 (d2 qbo (dv 2) (d2 ixD (dv 0) (ret (.int 0))))) (d2 ixD (dv 0) (ret (.int 1)))) (i:=1) (j:=1) (ρ:=ρ2) (xs:=wx (dv 3)) (fr:=[1,2]) fit (λ_=>true) (λk=>D.int (((W (Ns ks) (m-(kn k).1):Nat):Int)+k.2.1)) (t:=ret true) rfl rfl (yaP (yfH _ ks) (by omega)) (λ_ _=>rfl) (λk hk _=>by
    obtain⟨hk1,hk2⟩:=List.mem_filter.mp hk
    have g1:=kn1 (h k hk1)
    have g2:=(h k hk1).1
    have hk3:k.1<=(m:Int):=of_decide_eq_true hk2
    have ei:(m:Int)-k.1=((m-(kn k).1:Nat):Int):=by omega
    have e1:qce 1 (d2 qbo (dv 2) (d2 ixD (dv 0) (ret (.int 0)))) [some (kD k),some (.lst (tD ks m)),some (.int (m:Int))]=.ok (wI ks (m-(kn k).1),[some (kD k),some (.lst (tD ks m)),some (.int (m:Int))]):=by
     rw[qfA,qh rfl (qh rfl rfl (qaX k)) (yG _ _)]
     simp only[qkp,qko,ei,qrL (ks:=ks) (show m-(kn k).1<m by omega)]
    exact qh e1 (qh rfl rfl (qmE k)) (qV _ _)) (λo=>rfl)
   rw[this,y2]
  have c3:ux qam %[qZ 1 [1,2] (some (1,1)) (wx (dv 3)) (qq 0) (ret true) (d2 jB (qce 1 (d2 qbo (dv 2) (d2 ixD (dv 0) (ret (.int 0))))) (d2 ixD (dv 0) (ret (.int 1))))|0] %[ret (.int 0)|0] ρ2=.ok (wI ks m,ρ2):=by
   rw[qhy,v8 c2]
   simp only[v8 (f:=ret (.int 0)) (ρ:=ρ2) rfl,fit,qpE h m]
  rw[qbC (ds:=tD ks m) (d:=wI ks m) rfl c3 rfl (by rw[qh2];omega),qpC]
  rfl)
 unfold uo vT
 refine uG rfl ⟨[T,some (.lst (tD ks (0+sN ks))),o2,o3],?_⟩
 refine(qj (ρ':=[T,some (.lst []),none,none]) ?_).trans ?_
 ·push_cast [T,immL,yR (show 0<=1000000 by omega),yaG]
 refine(qj (ρ':=[T,some (.lst (tD ks (0+sN ks))),o2,o3]) ?_).trans ?_
 ·rw[vb,wD (j:=((sN ks:Nat):Int)) (ρ1:=[T,some (.lst []),none,none]) (v8 (jd rfl (qaz ks h hl hne))) (by omega) (by omega),ybj]
  exact q
 ·rw[ybf];rfl
def qg2(ks:List Kn)(p:Kn)(n:Nat):List Nat:=((yag (n-p.1)).filter λi=>qhM ks p (p.1+i)).map λi=>p.1+i
theorem qkT (ks:List Kn) (p:Kn) (n:Nat):qg2 ks p (n+1)=qg2 ks p n++(if p.1<=n/\qhM ks p n=true then [n]else []):=by
 unfold qg2
 by_cases h:p.1<=n
 ·rw[show n+1-p.1=(n-p.1)+1 by omega,yc6,ybS,ybH]
  congr 1
  have e:p.1+(n-p.1)=n:=by omega
  cases ho:qhM ks p n with
  |true=>simp[ft_,e,ho,h]
  |false=>simp[ft_,e,ho]
 ·rw[show n+1-p.1=n-p.1 by omega,if_neg (λz=>h z.1),yaR]
theorem qmZ:∀(l:List Nat)(n:Nat),(∀r∈l,r<n)->mxN (l++[n])=n:=λl n h=>qrz (by simp) λm hm=>by
 rcases mA_.mp hm with hm|hm
 ·exact ycM (h m hm)
 ·rw[ms_]at hm;omega
theorem qh3 {ks:List Kn} {p:Kn} (hp:1<=p.1):∀n,(∀r∈qg2 ks p n,r<n)/\(if qg2 ks p n=[]then p.1-1 else mxN (qg2 ks p n))+1=qda ks p n
 |0=>by
  have e:qg2 ks p 0=[]:=by unfold qg2;rw[Nat.zero_sub];rfl
  refine⟨(λr hr=>by rw[e]at hr;cases hr),?_⟩
  rw[e,if_pos rfl]
  show p.1-1+1=p.1
  omega
 | n + 1=>by
  obtain⟨h1,h2⟩:=qh3 hp n
  rw[qkT]
  show _/\_=(if p.1<=n/\qhM ks p n=true then n+1 else qda ks p n)
  by_cases hc:p.1<=n/\qhM ks p n=true
  ·rw [if_pos hc,if_pos hc]
   refine⟨λr hr=>?_,?_⟩
   ·rcases mA_.mp hr with hr|hr
    ·have:=h1 r hr;omega
    ·rw[ms_]at hr;omega
   ·rw[if_neg (by simp),qmZ _ _ h1]
  ·rw[if_neg hc,if_neg hc,yaR]
   exact⟨λr hr=>by have:=h1 r hr;omega,h2⟩
theorem qt2 (x y:Nat) (g:Int) (gn:Nat) (hg:(gn:Int)=g):neB (.int (x:Int)) (.int ((y:Int)+g))=some (.bl (decide (x≠y+gn))):=by
 rw[vO]
 congr 2
 by_cases h:x=y+gn
 ·have:(x:Int)=(y:Int)+g:=by omega
  simp[h,this]
  omega
 ·have:¬(x:Int)=(y:Int)+g:=by omega
  simp[h,this]
theorem qbD (ks:List Kd) (p:Kd) (hp:u6 p) (n:Nat) (hn:n<=1000):jb [kD p,.lst (tD ks n)]=.ok (.lst ((qg2 (Ns ks) (kn p) n).map λr=>D.int (r:Nat))):=by
 have g1:=kn1 hp
 have g2:=kn2 hp
 have h1:=hp.1
 have h2:=hp.2.1
 unfold jb vh
 let ρ:Env:=[some (kD p),some (.lst (tD ks n)),some (.int p.1)]
 refine uG rfl ⟨ρ,?_⟩
 refine(qj (ρ':=ρ) (j4 (qh rfl rfl (qaX p)))).trans (z8 ?_)
 have e1:qfD %[dv 2,zB qbI %[dv 1|0]|0] ρ=.ok ((yag (n-(kn p).1)).map λi=>D.int ((((kn p).1+i:Nat)):Int),ρ):=by
  have el:qbI [.lst (tD ks n)]=some (.int (n:Nat)):=by show some (D.int ((tD ks n).length:Nat))=_;rw[qh2]
  rw[qcW (i:=p.1) (j:=(n:Int)) (ρ1:=ρ) (qfV rfl (vE (a:=.lst (tD ks n)) rfl el)) (by omega) (by omega) (by omega) (by omega)]
  congr 2
  rw[qhF,show((n:Int)-p.1).toNat=n-(kn p).1 by omega]
  refine mL_ λi _=>?_
  show D.int _=D.int _
  congr 1
  omega
 rw[qc2 (r:=[some (.lst (tD ks n)),some (kD p),some (.int p.1)]) (k:=λi:Nat=>D.int ((((kn p).1+i:Nat)):Int)) (yag (n-(kn p).1)) (λi=>qhM (Ns ks) (kn p) ((kn p).1+i)) (λi=>D.int ((((kn p).1+i:Nat)):Int)) e1 rfl (by rw[lR_];omega) (λi hi=>?_) λi _ _=>rfl]
 ·unfold qg2
  rw[mm_];rfl
 ·have hi':=mR_.mp hi
  have x1:=qpD (ks:=ks) (m:=n) (i:=(kn p).1+i) (by omega)
  have ei:((((kn p).1+i:Nat)):Int)-p.1=((i:Nat):Int):=by omega
  have x2:=qpD (ks:=ks) (m:=n) (i:=i) (by omega)
  have ew:(kn p).1+i-(kn p).1=i:=by omega
  refine qR (qh (qh rfl rfl x1) (qh (qh rfl (qh rfl rfl (yG _ _)) (by rw[ei];exact x2)) (qh rfl rfl (qmE p)) (qV _ _)) ?_)
  have:=qt2 (W (Ns ks) ((kn p).1+i)) (W (Ns ks) i) p.2.1 (kn p).2 g2
  unfold qhM
  rw[ew]
  exact this
theorem qpF {ks:List Kd} {m n:Nat} (h:m<=n):(tD ks n).take m=tD ks m:=by
 unfold tD
 rw[<-List.map_take,List.take_range,yd2 h]
def lo(ks:List Kd):Nat:=qda (Ns ks) (kn (ld ks)) (sN ks)
theorem qs0 (ks:List Kd):lo ks<=sN ks:=by
 have:=qhN (ks:=Ns ks) (p:=kn (ld ks)) (sN ks)
 have e:(kn (ld ks)).1<=sN ks:=by unfold sN;omega
 unfold lo
 omega
theorem qm0 {ks:List Kd} (p:Kd) (hp:u6 p) (n:Nat):qam [.lst ((qg2 (Ns ks) (kn p) n).map λr=>D.int (r:Nat))] [.int (p.1-1)]=some (.int ((qda (Ns ks) (kn p) n:Nat)-1:Int)):=by
 have g1:=kn1 hp
 have h1:=hp.1
 obtain⟨_,h2⟩:=qh3 (ks:=Ns ks) (p:=kn p) (by omega) n
 unfold qam
 have e:vt ((qg2 (Ns ks) (kn p) n).map λr=>D.int (r:Nat))=some ((qg2 (Ns ks) (kn p) n).map λr:Nat=>(r:Int)):=by
  have:=ul ((qg2 (Ns ks) (kn p) n).map λr:Nat=>(r:Int))
  rw[mm_]at this
  exact this
 simp only[e,ybg]
 by_cases ho:qg2 (Ns ks) (kn p) n=[]
 ·rw[if_pos ho]at h2
  rw[if_pos (by rw[ho];rfl)]
  congr 2
  omega
 ·rw[if_neg ho]at h2
  rw[if_neg (λz=>ho (List.map_eq_nil_iff.mp z)),qf9 ho]
  congr 2
  omega
theorem qbE (ks:List Kd) (h:∀k∈ks,u6 k) (hl:ks.length<=12) (hne:0<ks.length):yI [.tup (ks.map kD)]=.ok (.lst (tD ks (lo ks))):=by
 have gp:=yM h hne
 have hs:=qrO h hne
 have hlo:=qs0 ks
 unfold yI vi
 let T:OD:=some (.tup (ks.map kD))
 let ρ:Env:=[T,some (.lst (tD ks (sN ks))),some (kD (ld ks))]
 refine uG rfl ⟨ρ,?_⟩
 refine(qj (ρ':=[T,some (.lst (tD ks (sN ks))),none]) (j4 (jd rfl (qb2 ks h hl hne)))).trans ?_
 refine(qj (ρ':=ρ) (j4 (jd rfl (vX ks h hl hne)))).trans (z8 ?_)
 have e1:ux qam %[qg jb %[dv 2,dv 1|0]|0] %[d2 qbo (d2 ixD (dv 2) (ret (.int 0))) (ret (.int 1))|0] ρ=.ok (.int ((lo ks:Nat)-1:Int),ρ):=by
  rw[qhy,v8 (zR rfl rfl (qbD ks (ld ks) gp (sN ks) (by omega)))]
  simp only[v8 (f:=d2 qbo (d2 ixD (dv 2) (ret (.int 0))) (ret (.int 1))) (ρ:=ρ) (qh (qh rfl rfl (qaX (ld ks))) rfl (yG _ _)),qm0 (ld ks) gp (sN ks)]
  rfl
 have e2:qin (d2 jB (ux qam %[qg jb %[dv 2,dv 1|0]|0] %[d2 qbo (d2 ixD (dv 2) (ret (.int 0))) (ret (.int 1))|0]) (ret (.int 1))) ρ=.ok (some ((lo ks:Nat):Int),ρ):=by
  rw[qgI,qh e1 rfl (qV _ _)]
  simp only
  rw[show((lo ks:Nat):Int)-1+1=((lo ks:Nat):Int) by omega]
 rw[qri]
 have e0:dv 1 ρ=.ok (.lst (tD ks (sN ks)),ρ):=rfl
 have e3:slB (.lst (tD ks (sN ks))) none (some ((lo ks:Nat):Int))=some (.lst (tD ks (lo ks))):=by
  show some (D.lst (qlK _ _ _))=_
  rw[qmP _ _ (by rw[qh2];exact hlo),qpF hlo]
 simp only[e0,qgG,e2,e3]
theorem qrP {ks:List Kd} (h:∀k∈ks,u6 k) (hl:ks.length<=12) (hne:0<ks.length) {r:Nat} (hr:sN ks<=r):qhM (Ns ks) (kn (ld ks)) r=false:=by
 unfold qhM
 have:=qpq (qp2 h) (qmY h hl hne) (H:=(hv ks).toNat) (r:=r) (λx hx=>by
  obtain⟨k,hk,rfl⟩:=mP_.mp hx
  have a1:=(qrM hne).1 k hk
  have a2:=kn1 (h k hk)
  omega) hr
 exact decide_eq_false (λz=>z this)
theorem qga {ks:List Kn} {p:Kn}:∀n r,qda ks p n<=r->r<n->qhM ks p r=false
 | n + 1,r,h1,h2=>by
  unfold qda at h1
  split at h1
  ·omega
  ·rename_i hc
   by_cases e:r=n
   ·subst e
    cases ho:qhM ks p r with
    |false=>rfl
    |true=>exact absurd ⟨yaP (qeF r) h1,ho⟩ hc
   ·exact qga n r h1 (by omega)
theorem qm1 {ks:List Kd} (h:∀k∈ks,u6 k) (hl:ks.length<=12) (hne:0<ks.length) {r:Nat} (hr:lo ks<=r):W (Ns ks) r=W (Ns ks) (r-(kn (ld ks)).1)+(kn (ld ks)).2:=by
 have:qhM (Ns ks) (kn (ld ks)) r=false:=by
  by_cases hs:sN ks<=r
  ·exact qrP h hl hne hs
  ·exact qga (sN ks) r hr (by omega)
 unfold qhM at this
 exact Decidable.of_not_not (of_decide_eq_false this)
theorem qnZ {ks:List Kd} (h:∀k∈ks,u6 k) (hl:ks.length<=12) (hne:0<ks.length) {s:Nat} (hs:lo ks<=s+(kn (ld ks)).1):∀j,W (Ns ks) (s+j*(kn (ld ks)).1)=W (Ns ks) s+j*(kn (ld ks)).2
 |0=>by simp
 |j+1=>by
  have e1:(j+1)*(kn (ld ks)).1=j*(kn (ld ks)).1+(kn (ld ks)).1:=ybN _ _
  have e2:(j+1)*(kn (ld ks)).2=j*(kn (ld ks)).2+(kn (ld ks)).2:=ybN _ _
  have:=qm1 h hl hne (r:=s+(j+1)*(kn (ld ks)).1) (by omega)
  rw[show s+(j+1)*(kn (ld ks)).1-(kn (ld ks)).1=s+j*(kn (ld ks)).1 by omega,qnZ h hl hne hs j]at this
  omega
theorem qrQ {w b room:Nat} (hw:1<=w) (hb:w<=b) (hr:b<=room):∃s,room=s+((room-b)/w+1)*w/\s<b/\b<=s+w:=by
 have e:=ycg (room-b) w
 have l:=ycY (room-b) (show 0<w by omega)
 have e1:((room-b)/w+1)*w=w*((room-b)/w)+w:=by rw[ybN,ybO]
 refine⟨b+(room-b)%w-w,?_,?_,?_⟩<;>omega
def rd(ks:List Kd)(room:Nat):Nat:=if room<lo ks then 0 else(room-lo ks)/(kn (ld ks)).1+1
theorem w1 {ks:List Kd} (h:∀k∈ks,u6 k) (hne:0<ks.length):1<=(kn (ld ks)).1:=by
 have:=(yM h hne).1
 have:=kn1 (yM h hne)
 omega
theorem qs1 {ks:List Kd} (h:∀k∈ks,u6 k) (hl:ks.length<=12) (hne:0<ks.length) (room:Nat):∃s,room=s+rd ks room*(kn (ld ks)).1/\s<lo ks/\W (Ns ks) room=W (Ns ks) s+rd ks room*(kn (ld ks)).2:=by
 have hw:=w1 h hne
 have hg:(kn (ld ks)).1<=lo ks:=qeF _
 unfold rd
 by_cases hc:room<lo ks
 ·rw[if_pos hc]
  exact⟨room,by simp,hc,by simp⟩
 ·rw[if_neg hc]
  obtain⟨s,e,s1,s2⟩:=qrQ hw hg (show lo ks<=room by omega)
  refine⟨s,e,s1,?_⟩
  have:=qnZ h hl hne s2 ((room-lo ks)/(kn (ld ks)).1+1)
  rw[<-e]at this
  exact this
theorem qtx {i:Int} (h:i.natAbs<=10 ^ 40):i.natAbs<2 ^ 2000:=by
 have h1:(10:Nat) ^ 40<2 ^ 200:=by decide
 have h2:(2:Nat) ^ 200<=2 ^ 2000:=yfR (by omega) (by omega)
 exact ygl h (yaA h1 h2)
theorem mw{i j:Int}(h1:i.natAbs<=10 ^ 40)(h2:j.natAbs<=10 ^ 40):qiD (.int i) (.int j)=some (.int (i*j)):=qkc (qtx h1) (qtx h2)
theorem qaA (n:Nat):uA [.int (n:Nat)]=.ok .non:=by
 have hc:yZ (.int (n:Nat))=true:=by simp[yZ]
 have e:uz [some (.int (n:Nat))]=.ok (.nx [some (.int (n:Nat))]):=by
  unfold uz
  push_cast [yK,hc]
 show(match uz [some (.int (n:Nat))] with|.ok (.rt d _)=>R.ok d|.ok (.nx _) => .ok .non|_ => .bad)=_
 rw[e]
theorem wQ (ks:List Kd) (h:∀k∈ks,u6 k) (hl:ks.length<=12) (hne:0<ks.length) (room:Nat):jY [.tup (ks.map kD),.int (room:Nat)]=.ok .non:=by
 let ρ:Env:=[some (.tup (ks.map kD)),some (.int (room:Nat))]
 have e:zA ρ=.ok (.nx ρ):=by
  unfold zA
  refine(qj (ρ':=ρ) (qc8 (jd rfl (yL _ (qbR (λk hk=>(h k hk).ok) hl))))).trans ?_
  refine(qj (ρ':=ρ) (qc8 (jd rfl (qaA room)))).trans ?_
  exact qc8 (jd rfl (jn ks h hl hne))
 show(match zA ρ with|.ok (.rt d _)=>R.ok d|.ok (.nx _) => .ok .non|_ => .bad)=_
 rw[e]
theorem qrR {ks:List Kd} {m:Nat}:qbI [.lst (tD ks m)]=some (.int (m:Nat)):=by
 show some (D.int ((tD ks m).length:Nat))=_
 rw[qh2]
theorem qb3 (ks:List Kd) (h:∀k∈ks,u6 k) (hne:0<ks.length) (room:Nat):um [kD (ld ks),.lst (tD ks (lo ks)),.int (room:Nat)]=.ok (.int (rd ks room:Nat)):=by
 have g1:=kn1 (yM h hne)
 have p1:=(yM h hne).1
 have p2:=(yM h hne).2.1
 unfold um vR
 let ρ:Env:=[some (kD (ld ks)),some (.lst (tD ks (lo ks))),some (.int (room:Nat))]
 refine uG rfl ⟨ρ,?_⟩
 have el:zB qbI %[dv 1|0] ρ=.ok (.int (lo ks:Nat),ρ):=vE rfl qrR
 unfold rd
 by_cases hc:room<lo ks
 ·have t:tst (d2 ltD (dv 2) (zB qbI %[dv 1|0])) ρ=.ok (true,ρ):=qR (qh rfl el (by rw[qey,decide_eq_true (by omega)]))
  rw[if_pos hc]
  exact qbA ((qrr t).trans rfl)
 ·have t:tst (d2 ltD (dv 2) (zB qbI %[dv 1|0])) ρ=.ok (false,ρ):=qR (qh rfl el (by rw[qey,decide_eq_false (by omega)]))
  rw[if_neg hc]
  refine(qj (ρ':=ρ) ((qhE t).trans rfl)).trans (z8 ?_)
  refine qh (qh (qh rfl el (yG _ _)) (qh rfl rfl (qaX _)) (qbB (by omega) (by omega))) rfl ?_
  rw[qV]
  congr 2
  rw[yfk,Int.natCast_ediv,g1,Int.ofNat_sub (by omega)]
  rfl
theorem qs2 {ks:List Kd} {room:Nat}:rd ks room<=room+1:=by
 unfold rd
 split
 ·omega
 ·have:=Nat.div_le_self (room-lo ks) (kn (ld ks)).1
  omega
theorem qbF (ks:List Kd) (h:∀k∈ks,u6 k) (hl:ks.length<=12) (hne:0<ks.length) (room:Nat) (hb:room<=10 ^ 31):zN [.tup (ks.map kD),.int (room:Nat)]=.ok (.int (W (Ns ks) room:Nat)):=by
 have g1:=kn1 (yM h hne)
 have g2:=kn2 (yM h hne)
 have gp:=yM h hne
 obtain⟨p1,p2,p3,p4,_⟩:=gp
 have hr:=qs2 (ks:=ks) (room:=room)
 obtain⟨s,e1,s1,e2⟩:=qs1 h hl hne room
 let T:OD:=some (.tup (ks.map kD))
 let A:OD:=some (.int (room:Nat))
 let B:OD:=some (.lst (tD ks (lo ks)))
 let C:OD:=some (kD (ld ks))
 let E:OD:=some (.int (rd ks room:Nat))
 let ρ:Env:=[T,A,B,C,E]
 unfold zN vj
 refine uG rfl ⟨ρ,?_⟩
 refine(qj (ρ':=[T,A,none,none,none]) (qc8 (zR rfl rfl (wQ ks h hl hne room)))).trans ?_
 refine(qj (ρ':=[T,A,B,none,none]) (j4 (jd rfl (qbE ks h hl hne)))).trans ?_
 refine(qj (ρ':=[T,A,B,C,none]) (j4 (jd rfl (vX ks h hl hne)))).trans ?_
 refine(qj (ρ':=ρ) (j4 (vF rfl rfl rfl (qb3 ks h hne room)))).trans (z8 ?_)
 have m1:d2 qiD (dv 4) (d2 ixD (dv 3) (ret (.int 0))) ρ=.ok (.int ((rd ks room:Nat)*(ld ks).1),ρ):=qh rfl (qh rfl rfl (qaX _)) (mw (by omega) (by omega))
 have m2:d2 qiD (dv 4) (d2 ixD (dv 3) (ret (.int 1))) ρ=.ok (.int ((rd ks room:Nat)*(ld ks).2.1),ρ):=qh rfl (qh rfl rfl (qmE _)) (mw (by omega) (by omega))
 have ei:((room:Nat):Int)-(rd ks room:Nat)*(ld ks).1=((s:Nat):Int):=by
  rw[<-g1,<-ybe]
  omega
 refine qh (qh rfl (qh rfl m1 (yG _ _)) (by rw[ei];exact qpD s1)) m2 ?_
 show jB (.int ((W (Ns ks) s:Nat):Int)) _=_
 rw[qV,<-g2,<-ybe,<-yfk,e2]
def kw(k:Kw):D:=.tup [.int k.w,.int k.v,mD k.m]
def z5(k:Kw):Prop:=(1<=k.w/\k.w<=25)/\(0<=k.v/\k.v<=10 ^ 21)/\∀j,k.m=some j->0<=j/\j<=5
theorem z5.kd{k:Kw}(h:z5 k):z7 k:=⟨h.1.1,λj e=>(h.2.2 j e).1⟩
theorem qrS(k:Kw):ixD (kw k) (.int 0)=some (.int k.w):=rfl
theorem qrT(k:Kw):ixD (kw k) (.int 1)=some (.int k.v):=rfl
theorem qrU(k:Kw):ixD (kw k) (.int 2)=some (mD k.m):=rfl
theorem jR{ds:List D}{i:Nat}{d:D}(h:ds[i]? = some d):ixD (.lst ds) (.int (i:Nat))=some d:=qfX h
theorem sm1:qY 1=true:=yR (by omega)
theorem mwt{i j:Int}(h1:i.natAbs<=10 ^ 40)(h2:j.natAbs<=10 ^ 40):qiD (.int i) (.int j)=some (.int (i*j)):=mw h1 h2
theorem qrV{k:Kw}(hk:z5 k):jA k.w=true:=qks (by have:=hk.1.1;omega) (by have:=hk.1.2;omega)
theorem uP {k:Kw} (hk:z5 k) {s:Int} (h0:0<=s):ji [kw k,.int s]=.ok (.int (ofn k s:Nat)):=by
 unfold ji wE
 have hd:0<=s/k.w:=yfh h0 (by have:=hk.1.1;omega)
 let ρ:Env:=[some (kw k),some (.int s),some (.int (s/k.w))]
 refine uG rfl ⟨ρ,?_⟩
 refine(qj (ρ':=ρ) ?_).trans ?_
 ·show zG 2 _ [some (kw k),some (.int s),none]=_
  rw[wZ,qh rfl (qh rfl rfl (qrS k)) (qbB (by have:=hk.1.1;omega) (by have:=hk.1.2;omega))]
  rfl
 ·have c1:d2 isN (d2 ixD (dv 0) (ret (.int 2))) (ret .non) ρ=.ok (.bl k.m.isNone,ρ):=qh (qh rfl rfl (qrU k)) rfl (by rw[qcf,qcw])
  rw[wY,qgH,qR c1]
  cases em:k.m with
  |none=>
   have e:((ofn k s:Nat):Int)=s/k.w:=by unfold ofn;rw[em];show((s/k.w).toNat:Int)=_;omega
   rw[e]
   rfl
  | some j=>
   have hj:=(hk.2.2 j em).1
   have e:((ofn k s:Nat):Int)=if j<s/k.w then j else s/k.w:=by
    unfold ofn
    rw[em]
    show((if j<s/k.w then j else s/k.w).toNat:Int)=_
    split<;>omega
   have c2:zB qfm %[dv 2,d2 ixD (dv 0) (ret (.int 2))|0] ρ=.ok (.int (ofn k s:Nat),ρ):=by
    rw[qbM,qfV rfl (qh rfl rfl (by rw[qrU,em]))]
    show(match qfm [.int (s/k.w),.int j] with|some d=>R.ok (d,ρ)|none => .bad)=_
    rw[qmC,e]
   show(match zB qfm %[dv 2,d2 ixD (dv 0) (ret (.int 2))|0] ρ with|.ok (d,ρ1)=>R.ok (Fl.rt d ρ1)|.exc x ρ' => .exc x ρ'|.bad => .bad)=_
   rw[c2]
theorem j9 {k:Kw} (hk:z5 k) (t s:Int):jj [kw k,.int t,.int s]=.ok (.int (s-t*k.w)):=by
 unfold jj qbd
 refine uG rfl ⟨[some (kw k),some (.int t),some (.int s)],z8 ?_⟩
 exact qh rfl (qh rfl (qh rfl rfl (qrS k)) (qiL (qrV hk))) (yG _ _)
theorem qiU {k:Kw} (hk:z5 k) {s:Nat}:ofn k (s:Nat)<=s:=by
 have:=(qdR hk.kd.1 hk.kd.2 (show(0:Int)<=(s:Nat) by omega) (yah (ofn k (s:Nat)))).2
 omega
theorem qdj {l:M (List D)} {ρ:Env} {k:Kw} {s:Int} (hn:ofn k s<=200) (h:l ρ=.ok ([.int ((ofn k s:Nat)+1)],ρ)):yX l ρ=.ok ((yag (ofn k s+1)).map λt=>D.int (t:Nat),ρ):=by
 rw[wD h (by omega) (by omega)]
 have e:((ofn k s:Nat)+1:Int).toNat=ofn k s+1:=by omega
 rw[e,qtu]
theorem qdk {k:Kw} (hk:z5 k) {s r:Nat} (hs:s<=r) {t:Nat} (ht:t<=ofn k (s:Nat)):∃i:Nat,i<=r/\((i:Nat):Int)=(s:Int)-t*k.w:=by
 have:=(qdR hk.kd.1 hk.kd.2 (show(0:Int)<=(s:Int) by omega) ht).1
 have h2:0<=(t:Int)*k.w:=ydl (by omega) (by have:=hk.1.1;omega)
 exact⟨((s:Int)-t*k.w).toNat,by omega,by omega⟩
def yT(f:Nat->D)(r:Nat):List D:=(yag (r+1)).map f
theorem qaB {f:Nat->D} {r i:Nat} (h:i<=r):(yT f r)[i]? = some (f i):=by
 unfold yT
 rw[gM_,List.getElem?_range (by omega)]
 rfl
theorem qn0 (d:D) (r:Nat) (hr:r<=200):uF (.lst [d]) (.int (r:Int))=some (.lst ((yag r).map λ_=>d)):=by
 have h1:decide (-(2 ^ 62:Int)<=(r:Int))=true:=decide_eq_true (by omega)
 have h2:decide ((r:Int)<2 ^ 62)=true:=decide_eq_true (by omega)
 have e:((r:Int)).toNat=r:=by omega
 have h3:qY (([d]:List D).length*((r:Int)).toNat)=true:=yR (by rw[e];simp;omega)
 have hm:uF (.lst [d]) (.int (r:Int))=some (.lst (yap ((r:Int)).toNat [d]).flatten):=by
  simp only[uF,h1,h2,h3,yaG,if_true]
 have fl:∀n:Nat,(yap n [d]).flatten=(yag n).map λ_=>d:=λn=>by
  induction n with
  |zero=>rfl
  |succ n ih=>
   rw[rS_,ybE,ih,ybP,mC_,mm_]
   rfl
 rw[hm,e,fl]
theorem qgb (a b:D) {f:Nat->D} (h0:f 0=a) (h1:∀i,f (i+1)=b) (r:Nat):a::((yag r).map λ_=>b)=yT f r:=by
 unfold yT
 rw[ybP,mC_,mm_,h0]
 congr 1
 refine mL_ λi _=>?_
 exact(h1 i).symm
theorem qg3 {n:Int} (h:n<=200):qbV [.int n]=.ok .non:=by
 have h':¬(200:Int)<n:=by omega
 have e:wm [some (.int n)]=.ok (.nx [some (.int n)]):=by
  unfold wm
  push_cast [h']
 show(match wm [some (.int n)] with|.ok (.rt d _)=>R.ok d|.ok (.nx _) => .ok .non|_ => .bad)=_
 rw[e]
theorem yN {d:D} (hs:y1 d=true) {n:Int} (h0:0<=n) (h:n<=200):zm [d,.int n]=.ok .non:=by
 have hc:uA [.int n]=.ok .non:=by
  have:=qaA n.toNat
  rwa [show((n.toNat:Nat):Int)=n by omega]at this
 have e:uC [some d,some (.int n)]=.ok (.nx [some d,some (.int n)]):=by
  unfold uC
  refine(qj (ρ':=[some d,some (.int n)]) ?_).trans ((qj (ρ':=[some d,some (.int n)]) ?_).trans ?_)
  ·push_cast [yL d hs]
  ·push_cast [hc]
  ·push_cast [qg3 h]
 show(match uC [some d,some (.int n)] with|.ok (.rt d _)=>R.ok d|.ok (.nx _) => .ok .non|_ => .bad)=_
 rw[e]
theorem qbG {ks:List Kw} (h:∀k∈ks,z5 k) (hl:ks.length<=12):y1 (.tup (ks.map kw))=true:=by
 have:(ks.map kw).all v7=true:=by
  rw[ydd]
  refine List.all_eq_true.mpr λk hk=>?_
  have g:=h k hk
  exact qfW (x:=(k.w,k.v,k.m)) ⟨by have:=g.1.1;show 0<k.w;omega,g.2.1.1,λj e=>(g.2.2 j e).1⟩
 simp only[y1,lM_,hl,decide_true,this,ybu]
theorem qpG(m:Option Int):qoA (mD m) .non=some (.bl (!m.isNone)):=by rw[qgS,qcw]
theorem qh4 {F:List D->R D} {f g h k:M D} {ρ:Env} {a b c z d:D} (hf:f ρ=.ok (a,ρ)) (hg:g ρ=.ok (b,ρ)) (hh:h ρ=.ok (c,ρ)) (hk:k ρ=.ok (z,ρ)) (e:F [a,b,c,z]=.ok d):qg F %[f,g,h,k|0] ρ=.ok (d,ρ):=by
 rw[qaK,yE,hf]
 simp only[qrq hg hh hk,e]
def fD(f:List Int->Option Int)(ks:List Kw)(i:Nat):D:=mD (fR f ks (i:Nat))
def ftL(f:List Int->Option Int)(k:Kw)(ks:List Kw)(s:Nat):List Nat:=(yag (ofn k (s:Nat)+1)).filter λt=>(fR f ks ((s:Int)-t*k.w)).isSome
theorem qn1 {f:List Int->Option Int} {k:Kw} {ks:List Kw} {s:Nat} (hk:z5 k) (hs:s<=200):(ftL f k ks s).length<=201:=by
 have:=qiU hk (s:=s)
 refine yaP (yfH _ _) ?_
 rw[lR_]
 omega
theorem vK {f:List Int->Option Int} {k:Kw} {ks:List Kw} (hk:z5 k) {s r:Nat} (hs:s<=r) (hr:r<=200):jM [kw k,.lst (yT (fD f ks) r),.int (s:Nat)]=.ok (.lst ((ftL f k ks s).map λt=>D.int (t:Nat))):=by
 have hn:=qiU hk (s:=s)
 let K:OD:=some (kw k)
 let Rw:OD:=some (.lst (yT (fD f ks) r))
 let Sz:OD:=some (.int (s:Nat))
 let ρ:Env:=[K,Rw,Sz,some (.int (ofn k (s:Nat):Nat))]
 unfold jM vg
 refine uG rfl ⟨ρ,(qj (ρ':=ρ) ?_).trans (z8 ?_)⟩
 ·show zG 3 _ [K,Rw,Sz,none]=_
  rw[j4 (zR rfl rfl (uP hk (by omega)))]
  rfl
 ·refine qc2 (r:=[Rw,K,Sz]) (k:=λt:Nat=>D.int (t:Nat)) (yag (ofn k (s:Nat)+1)) (λt=>(fR f ks ((s:Int)-t*k.w)).isSome) (λt=>D.int (t:Nat)) (qdj (by omega) (v8 (qh rfl rfl (qV _ _)))) rfl (by rw[lR_];omega) (λt ht=>?_) (λt ht _=>rfl)
  obtain⟨i,hi,ei⟩:=qdk hk hs (show t<=ofn k (s:Nat) by have:=mR_.mp ht;omega)
  refine qR (qh (qh rfl (vF rfl rfl rfl (j9 hk (t:Nat) (s:Nat))) (d:=fD f ks i) ?_) rfl ?_)
  ·rw[<-ei]
   exact jR (qaB hi)
  ·unfold fD
   rw[qpG,ei]
   cases fR f ks ((s:Int)-t*k.w)<;>rfl
theorem qdl {f:List Int->Option Int} {k:Kw} {ks:List Kw} (hk:z5 k) {s r:Nat} (hs:s<=r) (hr:r<=200) {t:Nat} (ht:t<=ofn k (s:Nat)) {h:Int} (e:fR f ks ((s:Int)-t*k.w)=some h):zn [kw k,.int (t:Nat),.lst (yT (fD f ks) r),.int (s:Nat)]=.ok (.int ((t:Int)*k.v+h)):=by
 obtain⟨i,hi,ei⟩:=qdk hk hs ht
 unfold zn vG
 refine uG rfl ⟨[some (kw k),some (.int (t:Nat)),some (.lst (yT (fD f ks) r)),some (.int (s:Nat))],z8 ?_⟩
 refine qh (qh rfl (qh rfl rfl (qrT k)) (mwt (by have:=qiU hk (s:=s);omega) (by have:=hk.2.1;omega))) (qh rfl (vF rfl rfl rfl (j9 hk (t:Nat) (s:Nat))) (d:=.int h) ?_) (qV _ _)
 rw[<-ei,jR (qaB hi)]
 unfold fD
 rw[ei,e]
 rfl
theorem qrW {f:List Int->Option Int} {k:Kw} {ks:List Kw} {s t:Nat} (h:t∈ftL f k ks s):t<=ofn k (s:Nat)/\∃h,fR f ks ((s:Int)-t*k.w)=some h:=by
 obtain⟨a,b⟩:=List.mem_filter.mp h
 refine⟨by have:=mR_.mp a;omega,?_⟩
 cases e:fR f ks ((s:Int)-t*k.w) with
 |none=>rw[e]at b;cases b
 |some h=>exact⟨h,rfl⟩
def wO(f:List Int->Option Int)(k:Kw)(ks:List Kw)(s:Nat)(t:Nat):Int:=(wF f k ks (s:Nat) t).getD 0
theorem w6 {f:List Int->Option Int} {k:Kw} {ks:List Kw} (hk:z5 k) {s r:Nat} (hs:s<=r) (hr:r<=200) {t:Nat} (ht:t∈ftL f k ks s):zn [kw k,.int (t:Nat),.lst (yT (fD f ks) r),.int (s:Nat)]=.ok (.int (wO f k ks s t)):=by
 obtain⟨a,h,e⟩:=qrW ht
 rw[qdl hk hs hr a e]
 unfold wO wF
 rw[e]
 rfl
theorem qn2 {g:Nat->Option Int}:∀l:List Nat,(l.filter λt=>(g t).isSome).map (λt=>D.int ((g t).getD 0))=(l.filterMap g).map D.int
 | []=>rfl
 |t::l=>by
  have:=qn2 (g:=g) l
  rw[ft_,yc3]
  cases e:g t with
  |none=>exact this
  |some h=>simp only[Option.isSome_some,if_true,mC_,e,this,yeT]
theorem qpH (f:List Int->Option Int) (k:Kw) (ks:List Kw) (s t:Nat):(wF f k ks (s:Nat) t).isSome=(fR f ks ((s:Int)-t*k.w)).isSome:=by
 unfold wF
 cases fR f ks ((s:Int)-t*k.w)<;>rfl
theorem qn3 (f:List Int->Option Int) (k:Kw) (ks:List Kw) (s:Nat):ftL f k ks s=(yag (ofn k (s:Nat)+1)).filter λt=>(wF f k ks (s:Nat) t).isSome:=by
 unfold ftL
 refine ydr λt _=>?_
 rw[qpH]
theorem vn {f:List Int->Option Int} {k:Kw} {ks:List Kw} (hk:z5 k) {s r:Nat} (hs:s<=r) (hr:r<=200):qQ [kw k,.lst (yT (fD f ks) r),.int (s:Nat)]=.ok (.lst (((yag (ofn k (s:Nat)+1)).filterMap (wF f k ks (s:Nat))).map D.int)):=by
 let K:OD:=some (kw k)
 let Rw:OD:=some (.lst (yT (fD f ks) r))
 let Sz:OD:=some (.int (s:Nat))
 unfold qQ uM
 refine uG rfl ⟨[K,Rw,Sz],z8 ?_⟩
 rw[<-qn2,<-qn3]
 refine qa1 (r:=[K,Rw,Sz]) (k:=λt:Nat=>D.int (t:Nat)) (ftL f k ks s) _ ?_ rfl (by have:=qn1 (f:=f) (ks:=ks) hk (show s<=200 by omega);omega) λt ht=>?_
 ·rw[qjM,vF rfl rfl rfl (vK hk hs hr)]
  rfl
 ·exact qh4 rfl rfl rfl rfl (w6 hk hs hr ht)
theorem qrX (ns:List Int):qgP [.lst (ns.map D.int)] [.non]=some (mD (mnO ns)):=by
 unfold qgP
 simp only[ul,ybg]
 cases ns with
 |nil=>rfl
 |cons a l=>
  rw[if_neg (by simp)]
  obtain⟨m,e,h1,h2⟩:=qgX.is (a::l) (by simp)
  rw[qgL h1 h2,e]
  rfl
theorem qrY (ns:List Int):qam [.lst (ns.map D.int)] [.non]=some (mD (mxO ns)):=by
 unfold qam
 simp only[ul,ybg]
 cases ns with
 |nil=>rfl
 |cons a l=>
  rw[if_neg (by simp)]
  obtain⟨m,e,h1,h2⟩:=qaq.is (a::l) (by simp)
  rw[qcU h1 h2,e]
  rfl
theorem qn4 {F:List D->List D->OD} {g:M D} {ρ:Env} {a z d:D} (hg:g ρ=.ok (a,ρ)) (e:F [a] [z]=some d):ux F %[g|0] %[ret z|0] ρ=.ok (d,ρ):=by
 unfold ux bnd
 rw[v8 hg]
 show lift (F [a] [z]) ρ=_
 rw[e]
 rfl
theorem qkU {i:Nat} {f:M D} {ρ:Env} {ds:List D} {d:D} (h:yz i ρ=some ds) (hf:f ρ=.ok (d,ρ)) (hl:ds.length<1000000):zx (vN i f) ρ=.ok (.nx (ρ.set i (some (.lst (d::ds))))):=by
 rw[vM,qkg]
 simp only[h,hf,yR (show ds.length+1<=1000000 by omega),if_true]
theorem qkV {f:M (List D)} {ρ:Env} {ds:List D} (h:f ρ=.ok (ds,ρ)) (hl:ds.length<=1000000):qkd f ρ=.ok (ds,ρ):=by
 unfold qkd bnd
 rw[h]
 simp only[yR hl,if_true]
 rfl
theorem qh5 {i:Nat} {ρ:Env} {d:D} {ds:List D} (h:yz i ρ=some (d::ds)):qce i (ret (.int 0)) ρ=.ok (d,ρ):=by
 have e:atI (d::ds) 0=some d:=qfX (n:=0) rfl
 rw[qfA]
 simp only[h,qgG,e]
def ju (f:List Kw->Nat->D) (r:Nat):List Kw->List D
 | []=>[.lst (yT (f []) r)]
 |k::ks => .lst (yT (f (k::ks)) r)::ju f r ks
theorem qeS (f:List Kw->Nat->D) (r:Nat):∀ks:List Kw,(ju f r ks).length=ks.length+1
 | []=>rfl
 |k::ks=>by rw[ju,lC_,qeS f r ks,lC_]
theorem qdm (f:List Kw->Nat->D) (r:Nat):∀ks:List Kw,∃rest,ju f r ks=.lst (yT (f ks) r)::rest
 | []=>⟨[],rfl⟩
 |k::ks=>⟨ju f r ks,rfl⟩
theorem qdn (f:List Kw->Nat->D) (r:Nat):∀(ks:List Kw)(i:Nat),i<=ks.length->(ju f r ks)[i]? = some (.lst (yT (f (ks.drop i)) r))
 |ks,0,_=>by
  obtain⟨rest,e⟩:=qdm f r ks
  rw[e]
  rfl
 | [],i+1,h=>by
  have:i+1<=0:=h
  omega
 |k::ks,i+1,h=>by
  rw[ju,List.getElem?_cons_succ,qdn f r ks i (by have:i+1<=ks.length+1:=h;omega)]
  rfl
theorem qeT {ρ:Env} {r:Nat} (hr:r<=200) (h1:dv 1 ρ=.ok (.int (r:Nat),ρ)):yX %[d2 jB (dv 1) (ret (.int 1))|0] ρ=.ok ((yag (r+1)).map λs:Nat=>D.int (s:Nat),ρ):=by
 have e:((r:Int)+1).toNat=r+1:=by omega
 rw[wD (j:=(r:Int)+1) (ρ1:=ρ) (v8 (qh h1 rfl (qV _ _))) (by omega) (by omega),e,qtu]
theorem qkW {e:M D} {K X:D} {Y:Nat->D} {r:Nat} (hr:r<=200) (T:OD) (rest:List D) (hl:rest.length<=100) (hF:∀s:Nat,s<=r->e [some (.int (s:Nat)),some K,some (.lst (X::rest))]=.ok (Y s,[some (.int (s:Nat)),some K,some (.lst (X::rest))])) :
  zx (vN 2 (qZ 1 [3,2] (some (2,2)) (yX %[d2 jB (dv 1) (ret (.int 1))|0]) (qq 0) (ret true) e)) [T,some (.int (r:Nat)),some (.lst (X::rest)),some K]=.ok (.nx [T,some (.int (r:Nat)),some (.lst (.lst (yT Y r)::X::rest)),some K]):=by
 let ρ:Env:=[T,some (.int (r:Nat)),some (.lst (X::rest)),some K]
 have c:=qkA (e:=e) (t:=ret true) (k:=λs:Nat=>D.int (s:Nat)) (r:=[some K,some (.lst (X::rest))]) (fr:=[3,2]) (i:=2) (j:=2) (yag (r+1)) (λ_=>true) Y (qeT (ρ:=ρ) hr rfl) rfl (by rw[lR_];omega) (λ_ _=>rfl) (λs hs _=>hF s (by have:=mR_.mp hs;omega)) (λo=>rfl)
 rw[y2]at c
 exact qkU (ρ:=ρ) rfl c (by rw[lC_];omega)
theorem qd0 {r:Nat} (hr:r<=200) (T:OD):∀(b ks:List Kw)(o3:OD),(∀k∈b,z5 k)->b.length+ks.length<=90->∃o3',uH (qq 3) (zx (vN 2 (qZ 1 [3,2] (some (2,2)) (yX %[d2 jB (dv 1) (ret (.int 1))|0]) (qq 0) (ret true) (ux qam %[qg qQ %[dv 1,qce 2 (ret (.int 0)),dv 0|0]|0] %[ret .non|0])))) (b.map kw) [T,some (.int (r:Nat)),some (.lst (ju (fD mxO) r ks)),o3]=.ok (.nx [T,some (.int (r:Nat)),some (.lst (ju (fD mxO) r (b.reverse++ks))),o3'])
 | [],ks,o3,_,_=>⟨o3,rfl⟩
 | k::b,ks,o3,h,hl=>by
  obtain⟨o3',q⟩:=qd0 hr T b (k::ks) (some (kw k)) (λx hx=>h x (mM _ hx)) (by rw[lC_]at hl |-;omega)
  obtain⟨rest,e⟩:=qdm (fD mxO) r ks
  have hlen:rest.length=ks.length:=by
   have:=qeS (fD mxO) r ks
   rw[e,lC_]at this
   omega
  have s:=qkW (e:=ux qam %[qg qQ %[dv 1,qce 2 (ret (.int 0)),dv 0|0]|0] %[ret .non|0]) (K:=kw k) (X:=.lst (yT (fD mxO ks) r)) (Y:=fD mxO (k::ks)) (r:=r) (by omega) T rest (by rw[lC_]at hl;omega) λs hs=>qn4 (vF rfl (qh5 rfl) rfl (vn (h k mS_) hs hr)) (by
   unfold fD
   rw[qeG]
   exact qrY _)
  rw[<-e]at s
  refine⟨o3',?_⟩
  rw[mC_,uy rfl s,ycL,aA_]
  exact q
theorem qrZ (f:List Int->Option Int) (r:Nat):D.int 0::((yag r).map λ_=>D.non)=yT (fD f []) r:=qgb (f:=fD f []) (.int 0) .non rfl (λi=>by
 have:fR f [] ((i+1:Nat):Int)=none:=by
  unfold fR
  rw[if_neg (by omega)]
 show mD (fR f [] ((i+1:Nat):Int))=_
 rw[this]
 rfl) r
theorem qh6 (f:List Int->Option Int) {ρ:Env} {r:Nat} (hr:r<=200) (h1:dv 1 ρ=.ok (.int (r:Nat),ρ)):d2 jB (qaV %[ret (.int 0)|0]) (d2 uF (qaV %[ret .non|0]) (dv 1)) ρ=.ok (.lst (yT (fD f []) r),ρ):=by
 have a1:qaV %[ret (.int 0)|0] ρ=.ok (.lst [.int 0],ρ):=by push_cast [sm1]
 have a0:qaV %[ret .non|0] ρ=.ok (.lst [.non],ρ):=by push_cast [sm1]
 refine qh a1 (qh a0 h1 (qn0 .non r hr)) ?_
 rw[qhD (by rw[lM_,lR_,lC_,lN_];omega),<-qrZ]
 rfl
theorem qa2 {ks:List Kw} (h:∀k∈ks,z5 k) (hl:ks.length<=4) {r:Nat} (hr:r<=200):ue [.tup (ks.map kw),.int (r:Nat)]=.ok (.lst (ju (fD mxO) r ks)):=by
 let T:OD:=some (.tup (ks.map kw))
 let Rm:OD:=some (.int (r:Nat))
 obtain⟨o3',q⟩:=qd0 hr T ks.reverse [] none (λk hk=>h k (List.mem_reverse.mp hk)) (by rw[ycx,lN_];omega)
 rw[ycZ,yaR]at q
 unfold ue qbf
 refine uG rfl ⟨[T,Rm,some (.lst (ju (fD mxO) r ks)),o3'],?_⟩
 refine(qj (ρ':=[T,Rm,some (.lst (ju (fD mxO) r [])),none]) ?_).trans ?_
 ·have a3:=qkV (v8 (qh6 mxO (ρ:=[T,Rm,none,none]) hr rfl)) (by rw[lC_,lN_];omega)
  show qah 2 _ [T,Rm,none,none]=_
  rw[qej,a3]
  rfl
 refine(qj (ρ':=[T,Rm,some (.lst (ju (fD mxO) r ks)),o3']) ?_).trans rfl
 have a4:qpc %[dv 0|0] [T,Rm,some (.lst (ju (fD mxO) r [])),none]=.ok (ks.reverse.map kw,[T,Rm,some (.lst (ju (fD mxO) r [])),none]):=by
  rw[qnP,v8 (a:=.tup (ks.map kw)) rfl,List.map_reverse]
  rfl
 rw[vb,a4]
 exact q
theorem wv {ks:List Kw} (h:∀k∈ks,z5 k) (hl:ks.length<=4) {r:Nat} (hr:r<=200):zl [.tup (ks.map kw),.int (r:Nat)]=.ok (fD mxO ks r):=by
 let ρ:Env:=[some (.tup (ks.map kw)),some (.int (r:Nat))]
 unfold zl
 refine uG rfl ⟨ρ,?_⟩
 unfold vQ
 refine(qj (ρ':=ρ) ?_).trans (z8 ?_)
 ·push_cast [yN (qbG h (by omega)) (show(0:Int)<=(r:Nat) by omega) (by omega),ρ]
 ·exact qh (qh (zR rfl rfl (qa2 h hl hr)) rfl (jR (i:=0) (qdn (fD mxO) r ks 0 (by omega)))) rfl (jR (qaB (yah r)))
theorem qgc {r:Nat} (hr:r<=200) (T:OD):∀(b ks:List Kw)(o3:OD),(∀k∈b,z5 k)->∃o3',uH (qq 3) (zG 2 (qZ 1 [3,2] none (yX %[d2 jB (dv 1) (ret (.int 1))|0]) (qq 0) (ret true) (ux qgP %[qg qQ %[dv 1,dv 2,dv 0|0]|0] %[ret .non|0]))) (b.map kw) [T,some (.int (r:Nat)),some (.lst (yT (fD mnO ks) r)),o3]=.ok (.nx [T,some (.int (r:Nat)),some (.lst (yT (fD mnO (b.reverse++ks)) r)),o3'])
 | [],ks,o3,_=>⟨o3,rfl⟩
 | k::b,ks,o3,h=>by
  obtain⟨o3',q⟩:=qgc hr T b (k::ks) (some (kw k)) (λx hx=>h x (mM _ hx))
  have hk:=h k mS_
  let ρ:Env:=[T,some (.int (r:Nat)),some (.lst (yT (fD mnO ks) r)),some (kw k)]
  have c:(qZ 1 [3,2] none (yX %[d2 jB (dv 1) (ret (.int 1))|0]) (qq 0) (ret true) (ux qgP %[qg qQ %[dv 1,dv 2,dv 0|0]|0] %[ret .non|0])) ρ=.ok (.lst (yT (fD mnO (k::ks)) r),ρ):=by
   refine qa1 (r:=[some (kw k),some (.lst (yT (fD mnO ks) r))]) (k:=λs:Nat=>D.int (s:Nat)) (yag (r+1)) (fD mnO (k::ks)) (qeT hr rfl) rfl (by rw[lR_];omega) λs hs=>?_
   refine qn4 (vF rfl rfl rfl (vn hk (show s<=r by have:=mR_.mp hs;omega) hr)) ?_
   unfold fD
   rw[qeG]
   exact qrX _
  refine⟨o3',?_⟩
  rw[mC_,uy rfl (j4 c),ycL,aA_]
  exact q
theorem qbH {ks:List Kw} (h:∀k∈ks,z5 k) (hl:ks.length<=4) {r:Nat} (hr:r<=200):jO [.tup (ks.map kw),.int (r:Nat)]=.ok (fD mnO ks r):=by
 let T:OD:=some (.tup (ks.map kw))
 let Rm:OD:=some (.int (r:Nat))
 obtain⟨o3',q⟩:=qgc hr T ks [] none h
 rw[yaR]at q
 have e:fD mnO ks r=fD mnO ks.reverse r:=by
  unfold fD
  rw[qrC qgX (λk hk=>(h k hk).kd) (by omega)]
 rw[e]
 unfold jO
 refine uG rfl ⟨[T,Rm,some (.lst (yT (fD mnO ks.reverse) r)),o3'],?_⟩
 unfold vk
 refine(qj (ρ':=[T,Rm,none,none]) ?_).trans ?_
 ·push_cast [yN (qbG h (by omega)) (show(0:Int)<=(r:Nat) by omega) (by omega),T,Rm]
 refine(qj (ρ':=[T,Rm,some (.lst (yT (fD mnO []) r)),none]) (j4 (qh6 mnO (ρ:=[T,Rm,none,none]) hr rfl))).trans ?_
 refine(qj (ρ':=[T,Rm,some (.lst (yT (fD mnO ks.reverse) r)),o3']) ?_).trans (z8 (qh rfl rfl (jR (qaB (yah r)))))
 rw[vb]
 exact q
theorem qgd {p:Nat->Bool} {n x:Nat} (hx:x<n) (hp:p x=true) (hn:∀t,t<x->p t=false):∃rest,(yag n).filter p=x::rest:=by
 have split:yag n=yag x++(x::(ydw (x+1) (n-1-x))):=by
  rw[yb1,yb1,<-ye5]
  have:=yd8 (s:=0) (m:=x) (n:=n-1-x+1)
  rw[ybf]at this
  rw[this]
  congr 1
  omega
 rw[split,ybS,List.filter_eq_nil_iff.mpr (λt ht=>by rw[hn t (mR_.mp ht)];simp),yaJ,ft_,if_pos hp]
 exact⟨_,rfl⟩
theorem qbj {k:Kw} {ks:List Kw} (hk:z5 k) {s r:Nat} (hs:s<=r) (hr:r<=200) {h:Int} (eh:fR mxO (k::ks) (s:Nat)=some h):zU [kw k,fD mxO (k::ks) s,.lst (yT (fD mxO ks) r),.int (s:Nat)]=.ok (.int (fT mxO k ks (s:Nat):Nat)):=by
 obtain⟨l1,l2,l3⟩:=qgY qaq eh
 have e:fD mxO (k::ks) s=.int h:=by
  unfold fD
  rw[eh]
  rfl
 rw[e]
 let K:OD:=some (kw k)
 let M:OD:=some (.int h)
 let Rw:OD:=some (.lst (yT (fD mxO ks) r))
 let Sz:OD:=some (.int (s:Nat))
 let L:=ftL mxO k ks s
 let ρ:Env:=[K,M,Rw,Sz,some (.lst (L.map λt=>D.int (t:Nat)))]
 unfold zU uO
 refine uG rfl ⟨ρ,(qj (ρ':=ρ) ?_).trans (z8 ?_)⟩
 ·show zG 4 _ [K,M,Rw,Sz,none]=_
  rw[j4 (vF rfl rfl rfl (vK hk hs hr))]
  rfl
 ·have c:=qc2 (e:=dv 0) (t:=tst (d2 eqB (qg zn %[dv 2,dv 0,dv 3,dv 4|0]) (dv 1))) (xs:=wx (dv 4)) (fr:=[1,0,2,3]) (ρ:=ρ) (r:=[M,K,Rw,Sz]) (k:=λt:Nat=>D.int (t:Nat)) L (λt=>decide (wO mxO k ks s t=h)) (λt=>D.int (t:Nat)) rfl rfl (by have:=qn1 (f:=mxO) (ks:=ks) hk (show s<=200 by omega);show(ftL mxO k ks s).length<=_;omega) (λt ht=>qR (qh (qh4 rfl rfl rfl rfl (w6 hk hs hr ht)) rfl (qan _ _))) (λt ht _=>rfl)
  have fl:L.filter (λt=>decide (wO mxO k ks s t=h))=(yag (ofn k (s:Nat)+1)).filter λt=>decide (wF mxO k ks (s:Nat) t=some h):=by
   show(ftL mxO k ks s).filter _=_
   rw[qn3,List.filter_filter]
   refine ydr λt _=>?_
   unfold wO
   cases wF mxO k ks (s:Nat) t with
   |none=>simp
   |some z=>simp
  obtain⟨rest,er⟩:=qgd (p:=λt=>decide (wF mxO k ks (s:Nat) t=some h)) (n:=ofn k (s:Nat)+1) (x:=fT mxO k ks (s:Nat)) (by omega) (decide_eq_true l2) λt ht=>decide_eq_false (l3 t ht)
  rw[fl,er]at c
  exact qh c rfl (jR (i:=0) rfl)
theorem qge (T Rm:OD) {r:Nat} (hr:r<=200) (RW:List D):∀(b:List Kw)(p:Nat)(L:List D)(s:Nat)(h:Int)(o5 o6 o7:OD),(∀k∈b,z5 k)->(∀i,i<=b.length->RW[p+i]? = some (.lst (yT (fD mxO (b.drop i)) r)))->s<=r->fR mxO b (s:Nat)=some h->L.length+b.length<=100 ->
  ∃o4' o5' o6' o7',uH (qcJ 2 (zD (qq 5) (zD (qq 6) qcI))) (qG (zG 7 (qg zU %[dv 6,d2 ixD (d2 ixD (dv 2) (dv 5)) (dv 4),d2 ixD (dv 2) (d2 jB (dv 5) (ret (.int 1))),dv 4|0])) (qG (zx (jg 3 (dv 7))) (zG 4 (qg jj %[dv 6,dv 7,dv 4|0])))) (vc p (b.map kw)) [T,Rm,some (.lst RW),some (.lst L),some (.int (s:Nat)),o5,o6,o7]=.ok (.nx [T,Rm,some (.lst RW),some (.lst (L++(qbc mxO b (s:Nat)).map D.int)),o4',o5',o6',o7'])
 | [],p,L,s,h,o5,o6,o7,_,_,_,_,_=>⟨some (.int (s:Nat)),o5,o6,o7,by rw[show L++(qbc mxO [] ((s:Nat):Int)).map D.int=L from yaR L];rfl⟩
 | k :: b,p,L,s,h,o5,o6,o7,hb,hR,hs,eh,hL=>by
  have hk:=hb k mS_
  obtain⟨l1,l2,l3⟩:=qgY qaq eh
  let t:=fT mxO k b (s:Nat)
  obtain⟨i,hi,ei⟩:=qdk hk hs l1
  obtain ⟨h',eh'⟩:∃h',fR mxO b (i:Nat)=some h':=by
   unfold wF at l2
   cases ec:fR mxO b ((s:Int)-(fT mxO k b (s:Nat):Int)*k.w) with
   |none=>rw[ec]at l2;cases l2
   |some h'=>exact⟨h',by rw[ei];exact ec⟩
  obtain ⟨q4,q5,q6,q7,q⟩:=qge T Rm hr RW b (p+1) (L++[.int (t:Nat)]) i h' (some (.int (p:Nat))) (some (kw k)) (some (.int (t:Nat))) (λx hx=>hb x (mM _ hx)) (λj hj=>by
   have:=hR (j+1) (by rw[lC_];omega)
   rw[show p+1+j=p+(j+1) by omega,this]
   rfl) hi eh' (by rw[lA_,lC_,lN_];rw[lC_]at hL;omega)
  refine⟨q4,q5,q6,q7,?_⟩
  have e0:RW[p]? = some (.lst (yT (fD mxO (k::b)) r)):=hR 0 (by omega)
  have e1:RW[p+1]? = some (.lst (yT (fD mxO b) r)):=hR 1 (by rw[lC_];omega)
  have step:(qG (zG 7 (qg zU %[dv 6,d2 ixD (d2 ixD (dv 2) (dv 5)) (dv 4),d2 ixD (dv 2) (d2 jB (dv 5) (ret (.int 1))),dv 4|0])) (qG (zx (jg 3 (dv 7))) (zG 4 (qg jj %[dv 6,dv 7,dv 4|0])))) [T,Rm,some (.lst RW),some (.lst L),some (.int (s:Nat)),some (.int (p:Nat)),some (kw k),o7]=.ok (.nx [T,Rm,some (.lst RW),some (.lst (L++[.int (t:Nat)])),some (.int (i:Nat)),some (.int (p:Nat)),some (kw k),some (.int (t:Nat))]):=by
   refine(qj (ρ':=[T,Rm,some (.lst RW),some (.lst L),some (.int (s:Nat)),some (.int (p:Nat)),some (kw k),some (.int (t:Nat))]) ?_).trans ((qj (ρ':=[T,Rm,some (.lst RW),some (.lst (L++[.int (t:Nat)])),some (.int (s:Nat)),some (.int (p:Nat)),some (kw k),some (.int (t:Nat))]) ?_).trans ?_)
   ·rw[j4 (qh4 rfl (qh (qh rfl rfl (jR e0)) rfl (jR (qaB hs))) (qh rfl (qh rfl rfl (qV _ _)) (show ixD (.lst RW) (.int ((p:Int)+1))=_ from jR (i:=p+1) e1)) rfl (qbj (ks:=b) hk hs hr eh))]
    rfl
   ·rw[qbC (ds:=L) (d:=.int (t:Nat)) rfl rfl rfl (by omega)]
    rfl
   ·rw[j4 (vF rfl rfl rfl (j9 hk (t:Nat) (s:Nat))),<-ei]
    rfl
  have pe:(L++(qbc mxO (k::b) ((s:Nat):Int)).map D.int)=L++[.int (t:Nat)]++(qbc mxO b ((i:Nat):Int)).map D.int:=by
   rw[qbc,ei,mC_,aA_]
   rfl
  rw[mC_,vc,uy rfl step,q,pe]
def ldD(l:List Int):D:=.tup (l.map D.int)
def qn5 (ks:List Kw) (r:Int):D:=match fR mxO ks r with
 |none => .non
 |some _=>ldD (qbc mxO ks r)
theorem qkX {ks:List Kw} (h:∀k∈ks,z5 k) (hl:ks.length<=4) {r:Nat} (hr:r<=200):qhV [.tup (ks.map kw),.int (r:Nat)]=.ok (qn5 ks (r:Nat)):=by
 let T:OD:=some (.tup (ks.map kw))
 let Rm:OD:=some (.int (r:Nat))
 let RW:OD:=some (.lst (ju (fD mxO) r ks))
 have c0:d2 isN (d2 ixD (d2 ixD (dv 2) (ret (.int 0))) (dv 1)) (ret .non) [T,Rm,RW,none,none,none,none,none]=.ok (.bl (fR mxO ks (r:Nat)).isNone,[T,Rm,RW,none,none,none,none,none]):=qh (qh (qh rfl rfl (jR (i:=0) (qdn (fD mxO) r ks 0 (by omega)))) rfl (jR (qaB (yah r)))) rfl (by
  rw[qcf]
  show some (D.bl (vy (fD mxO ks r)))=_
  unfold fD
  rw[qcw])
 have s1:(zx (qg zm %[dv 0,dv 1|0])) [T,Rm,none,none,none,none,none,none]=.ok (.nx [T,Rm,none,none,none,none,none,none]):=by
  push_cast [yN (qbG h (by omega)) (show(0:Int)<=(r:Nat) by omega) (by omega),T,Rm]
 have s2:(zG 2 (qg ue %[dv 0,dv 1|0])) [T,Rm,none,none,none,none,none,none]=.ok (.nx [T,Rm,RW,none,none,none,none,none]):=by
  rw[j4 (zR rfl rfl (qa2 h hl hr))]
  rfl
 unfold qhV
 cases e:fR mxO ks (r:Nat) with
 |none=>
  refine uG rfl ⟨[T,Rm,RW,none,none,none,none,none],?_⟩
  unfold qhU qn5
  rw[e]at c0 |-
  refine(qj s1).trans ((qj s2).trans (qbA ?_))
  rw[qrr (qR c0)]
  rfl
 | some z=>
  obtain⟨o4,o5,o6,o7,q⟩:=qge T Rm hr (ju (fD mxO) r ks) ks 0 [] r z none none none h (λi hi=>by rw[ybf];exact qdn (fD mxO) r ks i hi) (yah r) e (by rw[lN_];omega)
  rw[yaJ]at q
  refine uG rfl ⟨[T,Rm,RW,some (.lst ((qbc mxO ks (r:Nat)).map D.int)),o4,o5,o6,o7],?_⟩
  unfold qhU qn5
  rw[e]at c0 |-
  refine(qj s1).trans ((qj s2).trans ((qj (ρ':=[T,Rm,RW,none,none,none,none,none]) ?_).trans ?_))
  ·rw[qhE (qR c0)]
   rfl
  refine(qj (ρ':=[T,Rm,RW,some (.lst []),none,none,none,none]) ?_).trans ?_
  ·push_cast [yR (show 0<=1000000 by omega),immL,yaG,RW]
  refine(qj (ρ':=[T,Rm,RW,some (.lst []),some (.int (r:Nat)),none,none,none]) rfl).trans ?_
  refine(qj (ρ':=[T,Rm,RW,some (.lst ((qbc mxO ks (r:Nat)).map D.int)),o4,o5,o6,o7]) ?_).trans rfl
  rw[vb,qgK,v8 (a:=.tup (ks.map kw)) rfl]
  exact q
theorem qr0(k:Kw):imm (kw k)=true:=qrt (k.w,k.v,k.m)
theorem qiV (n:Int) (ds:List D) (hl:ds.length<=100) (o3 o4 o5:OD):∃k o4' o5',z5 k/\(qG (qnD 4 5 %[d2 jB (ret (.int 1)) (qD qp 0 %[ret (.int 9)|0]),qD qp 0 %[ret (.int 10)|0]|0]) (zx (jg 2 (qca %[dv 4,dv 5,d2 ixD (qaV %[ret .non,ret (.int 0),ret (.int 1),ret (.int 1),ret (.int 2),ret (.int 3),ret (.int 5)|0]) (qD qp 0 %[ret (.int 7)|0])|0])))) [some (.lst [.int n]),some (.int 4),some (.lst ds),o3,o4,o5]=.ok (.nx [some (.lst [.int (n/9/10/7)]),some (.int 4),some (.lst (ds++[kw k])),o3,o4',o5']):=by
 obtain⟨d,hd,e⟩:=qnS (ds:=[.non,.int 0,.int 1,.int 1,.int 2,.int 3,.int 5]) (k:=n/9/10%7) (by omega) (by show n/9/10%7<7;omega)
 obtain ⟨o,rfl,ho⟩:∃o:Option Int,d=mD o/\∀j,o=some j->0<=j/\j<=5:=by
  simp only[yaD,nN_,or_false]at hd
  rcases hd with rfl|rfl|rfl|rfl|rfl|rfl|rfl
  ·exact⟨none,rfl,λj e=>by cases e⟩
  ·exact⟨some 0,rfl,λj e=>by cases e;omega⟩
  ·exact⟨some 1,rfl,λj e=>by cases e;omega⟩
  ·exact⟨some 1,rfl,λj e=>by cases e;omega⟩
  ·exact⟨some 2,rfl,λj e=>by cases e;omega⟩
  ·exact⟨some 3,rfl,λj e=>by cases e;omega⟩
  ·exact⟨some 5,rfl,λj e=>by cases e;omega⟩
 let k:Kw:=⟨1+n%9,n/9%10,o⟩
 refine⟨k,some (.int (1+n%9)),some (.int (n/9%10)),⟨⟨by show 1<=1+n%9;omega,by show 1+n%9<=25;omega⟩,⟨by show 0<=n/9%10;omega,by show n/9%10<=10 ^ 21;omega⟩,ho⟩,?_⟩
 refine(qj (ρ':=[some (.lst [.int (n/9/10)]),some (.int 4),some (.lst ds),o3,some (.int (1+n%9)),some (.int (n/9%10))]) ?_).trans ?_
 ·push_cast [vW (m:=9) (by decide) (by decide),vW (m:=10) (by decide) (by decide),qV]
 ·have im:imm (.tup [.int (1+n%9),.int (n/9%10),mD o])=true:=qr0 k
  push_cast [vW (m:=7) (by decide) (by decide),e,im,yR (show 3<=1000000 by omega),yR (show 7<=1000000 by omega),yR (show ds.length+1<=1000000 by omega),yaG]
  rfl
theorem qd1:∀(cs:List D)(n:Int)(ks:List Kw)(o3 o4 o5:OD),(∀k∈ks,z5 k)->ks.length+cs.length<=4 ->
  ∃(n':Int)(ks':List Kw)(o3' o4' o5':OD),uH (qq 3) (qG (qnD 4 5 %[d2 jB (ret (.int 1)) (qD qp 0 %[ret (.int 9)|0]),qD qp 0 %[ret (.int 10)|0]|0]) (zx (jg 2 (qca %[dv 4,dv 5,d2 ixD (qaV %[ret .non,ret (.int 0),ret (.int 1),ret (.int 1),ret (.int 2),ret (.int 3),ret (.int 5)|0]) (qD qp 0 %[ret (.int 7)|0])|0])))) cs [some (.lst [.int n]),some (.int 4),some (.lst (ks.map kw)),o3,o4,o5]=.ok (.nx [some (.lst [.int n']),some (.int 4),some (.lst (ks'.map kw)),o3',o4',o5'])/\(∀k∈ks',z5 k)/\ks'.length<=4
 | [],n,ks,o3,o4,o5,h,hl=>⟨n,ks,o3,o4,o5,rfl,h,by simpa using hl⟩
 | d::cs,n,ks,o3,o4,o5,h,hl=>by
  have hl':ks.length+(cs.length+1)<=4:=hl
  obtain⟨k,o4',o5',gk,e⟩:=qiV n (ks.map kw) (by rw[lM_];omega) (some d) o4 o5
  obtain ⟨n',ks',p3,p4,p5,q,g,l⟩:=qd1 cs (n/9/10/7) (ks++[k]) (some d) o4' o5' (λx hx=>(mA_.mp hx).elim (h x) λhx=>by
   rw[ms_]at hx;subst hx;exact gk) (by rw[lA_,yaY];omega)
  refine⟨n',ks',p3,p4,p5,?_,g,l⟩
  rw[ybH]at q
  rw[uy rfl e]
  exact q
theorem qgf (n:Int):∃(ks:List Kw)(n':Int),jQ [.int n] [.int 4]=.ok (.tup (ks.map kw),[.int n'])/\(∀k∈ks,z5 k)/\ks.length<=4:=by
 obtain⟨n',ks',o3',o4',o5',q,g,l⟩:=qd1 (qbK 0 (n%5).toNat) (n/5) [] none none none (λ_ h=>by cases h) (by rw[qez];simp;omega)
 refine⟨ks',n',?_,g,l⟩
 unfold jQ
 refine qjR (ρ:=[some (.lst [.int n']),some (.int 4),some (.lst (ks'.map kw)),o3',o4',o5']) rfl ?_ rfl
 unfold vJ
 refine(qj (ρ':=[some (.lst [.int n]),some (.int 4),some (.lst []),none,none,none]) ?_).trans ?_
 ·push_cast [immL,yR (show 0<=1000000 by omega),yaG]
 refine(qj (ρ':=[some (.lst [.int n']),some (.int 4),some (.lst (ks'.map kw)),o3',o4',o5']) ?_).trans rfl
 rw[vb,wD (j:=n%5) (ρ1:=[some (.lst [.int (n/5)]),some (.int 4),some (.lst []),none,none,none]) ?_ (by omega) (by omega)]
 ·exact q
 ·push_cast [qV,vW (m:=5) (by decide) (by decide),Int.reduceAdd]
theorem qh7 {f:Nat->D}:∀(l:List Nat)(p:Nat)(g:Nat->Nat),(∀i (hi:i<l.length),l[i]=g i)->vc p (l.map f)=(yag l.length).map λi => .tup [.int (p+i:Nat),f (g i)]
 | [],p,g,_=>rfl
 |a::l,p,g,h=>by
  rw[mC_,vc,qh7 l (p+1) (λi=>g (i+1)) (λi hi=>h (i+1) (by rw[lC_];omega)),lC_,ybP,mC_,mm_]
  have:g 0=a:=(h 0 (by simp)).symm
  rw[this]
  congr 1
  refine mL_ λi _=>?_
  show D.tup [.int ((p+1+i:Nat):Int),f (g (i+1))]=D.tup [.int ((p+(i+1):Nat):Int),f (g (i+1))]
  rw[show p+1+i=p+(i+1) by omega]
theorem qm2 (f:Nat->D) (r:Nat):vc 0 (yT f r)=(yag (r+1)).map λi => .tup [.int (i:Nat),f i]:=by
 unfold yT
 rw[qh7 (yag (r+1)) 0 (λi=>i) (λi hi=>ycF hi),lR_]
 refine mL_ λi _=>?_
 rw[ybf]
theorem qm3 {g:M D} {ρ:Env} {xs:List D} (h:g ρ=.ok (.lst xs,ρ)):qcX %[g|0] ρ=.ok (vc 0 xs,ρ):=by
 unfold qcX bnd
 rw[v8 h]
 rfl
def eD(ks:List Kw)(i:Nat):D:=.int (EnM ks i:Nat)
theorem qh8:∀l:List Nat,((l.map λn=>((n:Nat):Int)).sum)=((l.sum:Nat):Int)
 | []=>rfl
 |n::l=>by rw[mC_,ybl,qh8 l,ybl];omega
theorem qpI {ks:List Kw} {k:Kw} (hk:z5 k) (hks:∀a∈ks,z5 a) {s r:Nat} (hs:s<=r) (hr:r<=200):ud [kw k,.lst (yT (eD ks) r),.int (s:Nat)]=.ok (eD (ks++[k]) s):=by
 let K:OD:=some (kw k)
 let Rw:OD:=some (.lst (yT (eD ks) r))
 let Sz:OD:=some (.int (s:Nat))
 have hn:=qiU hk (s:=s)
 let g:Nat->Int:=λt=>(EnM ks ((s:Int)-t*k.w).toNat:Nat)
 have e0:eD (ks++[k]) s=.int ((yag (ofn k (s:Nat)+1)).map g).sum:=by
  unfold eD
  rw[qmR hk.kd (λa ha=>(hks a ha).kd) (by omega),<-qh8,mm_]
  rfl
 rw[e0]
 unfold ud qbe
 refine uG rfl ⟨[K,Rw,Sz],z8 (vE (a:=.lst ((yag (ofn k (s:Nat)+1)).map λt=>D.int (g t))) ?_ qhG)⟩
 refine qa1 (r:=[Rw,K,Sz]) (k:=λt:Nat=>D.int (t:Nat)) (yag (ofn k (s:Nat)+1)) _ (qdj (by omega) (v8 (qh (zR rfl rfl (uP hk (by omega))) rfl (qV _ _)))) rfl (by rw[lR_];omega) λt ht=>?_
 obtain⟨i,hi,ei⟩:=qdk hk hs (show t<=ofn k (s:Nat) by have:=mR_.mp ht;omega)
 refine qh rfl (vF rfl rfl rfl (j9 hk (t:Nat) (s:Nat))) ?_
 rw[<-ei,jR (qaB hi)]
 show some (D.int (EnM ks i:Nat))=some (D.int (EnM ks ((s:Int)-t*k.w).toNat:Nat))
 rw[<-ei,ybj]
theorem qdo {r:Nat} (hr:r<=200) (T:OD):∀(b pre:List Kw)(o3:OD),(∀k∈b,z5 k)->(∀k∈pre,z5 k)->∃(o3':OD),uH (qq 3) (zG 2 (qZ 1 [3,2] none (yX %[d2 jB (dv 1) (ret (.int 1))|0]) (qq 0) (ret true) (qg ud %[dv 1,dv 2,dv 0|0]))) (b.map kw) [T,some (.int (r:Nat)),some (.lst (yT (eD pre) r)),o3]=.ok (.nx [T,some (.int (r:Nat)),some (.lst (yT (eD (pre++b)) r)),o3'])
 | [],pre,o3,_,_=>⟨o3,by rw[yaR];rfl⟩
 | k::b,pre,o3,h,hp=>by
  have hk:=h k mS_
  obtain ⟨o3',q⟩:=qdo hr T b (pre++[k]) (some (kw k)) (λx hx=>h x (mM _ hx)) (λx hx=>(mA_.mp hx).elim (hp x) λhx=>by
   rw[ms_]at hx;subst hx;exact hk)
  let ρ:Env:=[T,some (.int (r:Nat)),some (.lst (yT (eD pre) r)),some (kw k)]
  have c:(qZ 1 [3,2] none (yX %[d2 jB (dv 1) (ret (.int 1))|0]) (qq 0) (ret true) (qg ud %[dv 1,dv 2,dv 0|0])) ρ=.ok (.lst (yT (eD (pre++[k])) r),ρ):=by
   refine qa1 (r:=[some (kw k),some (.lst (yT (eD pre) r))]) (k:=λs:Nat=>D.int (s:Nat)) (yag (r+1)) (eD (pre++[k])) (qeT (by omega) rfl) rfl (by rw[lR_];omega) λs hs=>?_
   have hs':s<=r:=by have:=mR_.mp hs;omega
   exact vF rfl rfl rfl (qpI hk hp hs' hr)
  refine⟨o3',?_⟩
  rw[mC_,uy rfl (j4 c)]
  rw[aA_]at q
  exact q
theorem qdp {ks:List Kw} (h:∀k∈ks,z5 k) {r:Nat} (hr:r<=200):zw [.tup (ks.map kw),.int (r:Nat)]=.ok (.lst (yT (eD ks) r)):=by
 let T:OD:=some (.tup (ks.map kw))
 let Rm:OD:=some (.int (r:Nat))
 obtain⟨o3',q⟩:=qdo hr T ks [] none h (λ_ h=>by cases h)
 rw[yaJ]at q
 unfold zw uL
 refine uG rfl ⟨[T,Rm,some (.lst (yT (eD ks) r)),o3'],?_⟩
 refine(qj (ρ':=[T,Rm,some (.lst (yT (eD []) r)),none]) ?_).trans ?_
 ·have a1:qaV %[ret (.int 1)|0] [T,Rm,none,none]=.ok (.lst [.int 1],[T,Rm,none,none]):=by push_cast [sm1]
  have a0:qaV %[ret (.int 0)|0] [T,Rm,none,none]=.ok (.lst [.int 0],[T,Rm,none,none]):=by push_cast [sm1]
  have a2:d2 jB (qaV %[ret (.int 1)|0]) (d2 uF (qaV %[ret (.int 0)|0]) (dv 1)) [T,Rm,none,none]=.ok (.lst (yT (eD []) r),[T,Rm,none,none]):=by
   refine qh a1 (qh a0 rfl (qn0 (.int 0) r (by omega))) ?_
   rw[qhD (by rw[lM_,lR_,lC_,lN_];omega),<-qgb (f:=eD []) (.int 1) (.int 0) (by unfold eD;rw[qkJ];rfl) (λi=>by unfold eD;rw[qkJ,if_neg (by omega)];rfl)]
   rfl
  show zG 2 _ [T,Rm,none,none]=_
  rw[j4 a2]
  rfl
 refine(qj (ρ':=[T,Rm,some (.lst (yT (eD ks) r)),o3']) ?_).trans rfl
 rw[vb]
 exact q
section
variable{ks:List Kw}(h:∀k∈ks,z5 k)(hl:ks.length<=4){r:Nat}(hr:r<=200)
include h hl hr
theorem qkY(n:Nat):zx (qg zm %[dv 0,dv 1|0]) ([some (.tup (ks.map kw)),some (.int (r:Nat))]++yap n none)=.ok (.nx ([some (.tup (ks.map kw)),some (.int (r:Nat))]++yap n none)):=qc8 (zR rfl rfl (yN (qbG h (by omega)) (show(0:Int)<=(r:Nat) by omega) (by omega)))
theorem qgg:jk [.tup (ks.map kw),.int (r:Nat)]=.ok (.bl (decide (0<EnM ks r))):=by
 let ρ:Env:=[some (.tup (ks.map kw)),some (.int (r:Nat))]
 unfold jk
 refine uG rfl ⟨ρ,?_⟩
 unfold qeK
 have g:gtD (eD ks r) (.int 0)=some (.bl (decide (0<EnM ks r))):=by
  unfold eD
  rw[yY]
  congr 2
  by_cases c:0<EnM ks r
  ·rw[decide_eq_true c,decide_eq_true (by omega)]
  ·rw[decide_eq_false c,decide_eq_false (by omega)]
 exact(qj (qkY h hl hr 0)).trans (z8 (qh (qh (zR rfl rfl (qdp h hr)) rfl (jR (qaB (yah r)))) rfl g))
theorem qm4:vI [.tup (ks.map kw),.int (r:Nat)]=.ok (eD ks r):=by
 let ρ:Env:=[some (.tup (ks.map kw)),some (.int (r:Nat))]
 unfold vI
 refine uG rfl ⟨ρ,?_⟩
 unfold qax
 exact(qj (qkY h hl hr 0)).trans (z8 (qh (zR rfl rfl (qdp h hr)) rfl (jR (qaB (yah r)))))
theorem qn6:jf [.tup (ks.map kw),.int (r:Nat)]=.ok (.lst ((qrF ks r).map D.int)):=by
 let ρ:Env:=[some (.tup (ks.map kw)),some (.int (r:Nat))]
 have c:=qku (e:=dv 0) (t:=tst (d2 gtD (dv 1) (ret (.int 0)))) (xs:=qcX %[qg zw %[dv 0,dv 1|0]|0]) (fr:=[]) (ρ:=ρ) (r:=[]) (u:=λi:Nat=>D.int (i:Nat)) (v:=eD ks) (yag (r+1)) (λi=>decide (0<EnM ks i)) (λi=>D.int (i:Nat)) (by
  rw [qm3 (zR rfl rfl (qdp h hr)),qm2]) rfl (by rw[lR_];omega) (λi _=>qR (qh rfl rfl (by
   unfold eD
   rw[yY]
   congr 2
   by_cases c:0<EnM ks i
   ·rw[decide_eq_true c,decide_eq_true (by omega)]
   ·rw[decide_eq_false c,decide_eq_false (by omega)]))) (λ_ _ _=>rfl)
 unfold jf
 refine uG rfl ⟨ρ,?_⟩
 unfold qau
 have e:(qrF ks r).map D.int=((yag (r+1)).filter λi=>decide (0<EnM ks i)).map λi=>D.int (i:Nat):=by
  unfold qrF
  rw[mm_]
  rfl
 rw[e]
 exact(qj (qkY h hl hr 0)).trans (z8 c)
end
theorem qpJ (d:D) (r:Nat) (hr:r<=200):uF (.lst [d]) (.int ((r:Int)+1))=some (.lst (yT (λ_=>d) r)):=by
 have h1:decide (-(2 ^ 62:Int)<=(r:Int)+1)=true:=decide_eq_true (by omega)
 have h2:decide ((r:Int)+1<2 ^ 62)=true:=decide_eq_true (by omega)
 have e:((r:Int)+1).toNat=r+1:=by omega
 have h3:qY (([d]:List D).length*((r:Int)+1).toNat)=true:=yR (by rw[e];simp;omega)
 have hm:uF (.lst [d]) (.int ((r:Int)+1))=some (.lst (yap ((r:Int)+1).toNat [d]).flatten):=by
  simp only[uF,h1,h2,h3,yaG,if_true]
 have fl:∀n:Nat,(yap n [d]).flatten=(yag n).map λ_=>d:=λn=>by
  induction n with
  |zero=>rfl
  |succ n ih=>
   rw[rS_,ybE,ih,ybP,mC_,mm_]
   rfl
 rw[hm,e,fl]
 rfl
theorem qkZ {α:Type} {l:List α} {f:α->Int} (h:l≠[]):qfC [.lst (l.map λa=>D.int (f a))]=some (.int (qbt (l.map f))):=by
 cases l with
 |nil=>exact absurd rfl h
 |cons a l=>
  have:=ul ((a::l).map f)
  rw[mm_]at this
  simp only[ycK,mC_]at this
  simp only[mC_,qfC,this]
def bD(ks:List Kw)(i:Nat):D:=.int (zY ks (i:Nat))
theorem qk0 {ks:List Kw} {k:Kw} (hk:z5 k) {s r:Nat} (hs:s<=r) (hr:r<=200) {t:Nat} (ht:t<=ofn k s):zn [kw k,.int (t:Nat),.lst (yT (bD ks) r),.int (s:Nat)]=.ok (.int ((t:Int)*k.v+zY ks ((s:Int)-t*k.w))):=by
 have hn:=qiU hk (s:=s)
 obtain⟨i,hi,ei⟩:=qdk hk hs ht
 have hv:=hk.2.1
 unfold zn vG
 refine uG rfl ⟨[some (kw k),some (.int (t:Nat)),some (.lst (yT (bD ks) r)),some (.int (s:Nat))],z8 ?_⟩
 refine qh (qh rfl (qh rfl rfl (qrT k)) (mwt (by omega) (by omega))) (qh rfl (vF rfl rfl rfl (j9 hk (t:Nat) (s:Nat))) (d:=bD ks i) ?_) ?_
 ·rw[<-ei]
  exact jR (qaB hi)
 ·unfold bD
  rw[qV,ei]
theorem qpK (k:Kw) (ks:List Kw) (s:Nat):bD (k::ks) s=.int (qbt ((yag (ofn k (s:Nat)+1)).map λt:Nat=>(t:Int)*k.v+zY ks ((s:Int)-t*k.w))):=by
 have e:zY (k::ks) ((s:Nat):Int)=mxZ ((yag (ofn k (s:Nat)+1)).map λt:Nat=>(t:Int)*k.v+zY ks ((s:Int)-t*k.w)):=by rw[zY]
 unfold bD
 rw[e]
 generalize hl:(yag (ofn k (s:Nat)+1)).map (λt:Nat=>(t:Int)*k.v+zY ks ((s:Int)-t*k.w))=l
 have hne:l≠[]:=by
  rw[<-hl]
  simp
 rw[qcU (qgV hne) λn hn=>qkB hn]
theorem qm5 {ks:List Kw} {k:Kw} (hk:z5 k) {s r:Nat} (hs:s<=r) (hr:r<=200):ui [kw k,.lst (yT (bD ks) r),.int (s:Nat)]=.ok (bD (k::ks) s):=by
 let ρ:Env:=[some (kw k),some (.lst (yT (bD ks) r)),some (.int (s:Nat))]
 have hn:=qiU hk (s:=s)
 unfold ui qbh
 refine uG rfl ⟨ρ,z8 ?_⟩
 have c1:qZ 1 [0,1,2] none (yX %[d2 jB (qg ji %[dv 0,dv 2|0]) (ret (.int 1))|0]) (qq 0) (ret true) (qg zn %[dv 1,dv 0,dv 2,dv 3|0]) ρ=.ok (.lst ((yag (ofn k s+1)).map λ(t:Nat)=>D.int ((t:Int)*k.v+zY ks ((s:Int)-t*k.w))),ρ):=by
  refine qa1 (r:=[some (kw k),some (.lst (yT (bD ks) r)),some (.int (s:Nat))]) (k:=λt:Nat=>D.int (t:Nat)) _ _ (qdj (by omega) (v8 (qh (zR rfl rfl (uP hk (by omega))) rfl (qV _ _)))) rfl (by rw[lR_];omega) λt ht=>?_
  have ht':t<=ofn k s:=by have:=mR_.mp ht;omega
  exact qh4 rfl rfl rfl rfl (qk0 (ks:=ks) hk hs hr ht')
 refine vE c1 ?_
 rw[qpK,qkZ (by simp)]
theorem qd2 {r:Nat} (hr:r<=200) (T:OD):∀(b ks:List Kw)(o3:OD),(∀k∈b,z5 k)->b.length+ks.length<=90->∃o3',uH (qq 3) (zx (vN 2 (qZ 1 [3,2] (some (2,2)) (yX %[d2 jB (dv 1) (ret (.int 1))|0]) (qq 0) (ret true) (qg ui %[dv 1,qce 2 (ret (.int 0)),dv 0|0])))) (b.map kw) [T,some (.int (r:Nat)),some (.lst (ju bD r ks)),o3]=.ok (.nx [T,some (.int (r:Nat)),some (.lst (ju bD r (b.reverse++ks))),o3'])
 | [],ks,o3,_,_=>⟨o3,rfl⟩
 | k::b,ks,o3,h,hl=>by
  obtain⟨o3',q⟩:=qd2 hr T b (k::ks) (some (kw k)) (λx hx=>h x (mM _ hx)) (by rw[lC_]at hl |-;omega)
  obtain⟨rest,e⟩:=qdm bD r ks
  have hlen:rest.length=ks.length:=by
   have:=qeS bD r ks
   rw[e,lC_]at this
   omega
  have s:=qkW (e:=qg ui %[dv 1,qce 2 (ret (.int 0)),dv 0|0]) (K:=kw k) (X:=.lst (yT (bD ks) r)) (Y:=bD (k::ks)) (r:=r) (by omega) T rest (by rw[lC_]at hl;omega) λs hs=>vF rfl (qh5 rfl) rfl (qm5 (h k mS_) hs hr)
  rw[<-e]at s
  refine⟨o3',?_⟩
  rw[mC_,uy rfl s,ycL,aA_]
  exact q
theorem qm6 {ks:List Kw} (h:∀k∈ks,z5 k) (hl:ks.length<=4) {r:Nat} (hr:r<=200):wJ [.tup (ks.map kw),.int (r:Nat)]=.ok (.lst (ju bD r ks)):=by
 let T:OD:=some (.tup (ks.map kw))
 let Rm:OD:=some (.int (r:Nat))
 obtain⟨o3',q⟩:=qd2 hr T ks.reverse [] none (λk hk=>h k (List.mem_reverse.mp hk)) (by rw[ycx,lN_];omega)
 rw[ycZ,yaR]at q
 unfold wJ qbi
 refine uG rfl ⟨[T,Rm,some (.lst (ju bD r ks)),o3'],?_⟩
 refine(qj (ρ':=[T,Rm,some (.lst (ju bD r [])),none]) ?_).trans ?_
 ·have a1:qaV %[ret (.int 0)|0] [T,Rm,none,none]=.ok (.lst [.int 0],[T,Rm,none,none]):=by push_cast [sm1]
  have a2:d2 uF (qaV %[ret (.int 0)|0]) (d2 jB (dv 1) (ret (.int 1))) [T,Rm,none,none]=.ok (.lst (yT (bD []) r),[T,Rm,none,none]):=qh a1 (qh rfl rfl (qV _ _)) (qpJ (.int 0) r (by omega))
  have a3:=qkV (v8 a2) (by rw[lC_,lN_];omega)
  show qah 2 _ [T,Rm,none,none]=_
  rw[qej,a3]
  rfl
 refine(qj (ρ':=[T,Rm,some (.lst (ju bD r ks)),o3']) ?_).trans rfl
 have a4:qpc %[dv 0|0] [T,Rm,some (.lst (ju bD r [])),none]=.ok (ks.reverse.map kw,[T,Rm,some (.lst (ju bD r [])),none]):=by
  rw[qnP,v8 (a:=.tup (ks.map kw)) rfl,List.map_reverse]
  rfl
 rw[vb,a4]
 exact q
theorem qiW {ks:List Kw} (h:∀k∈ks,z5 k) (hl:ks.length<=4) {r:Nat} (hr:r<=200):uT [.tup (ks.map kw),.int (r:Nat)]=.ok (.lst (yT (bD ks) r)):=by
 let ρ:Env:=[some (.tup (ks.map kw)),some (.int (r:Nat))]
 unfold uT
 refine uG rfl ⟨ρ,?_⟩
 unfold wK
 refine(qj (ρ':=ρ) ?_).trans (z8 ?_)
 ·push_cast [yN (qbG h (by omega)) (show(0:Int)<=(r:Nat) by omega) (by omega),ρ]
 ·exact qh (zR rfl rfl (qm6 h hl hr)) rfl (jR (i:=0) (qdn bD r ks 0 (by omega)))
theorem qh9 {ks:List Kw} (h:∀k∈ks,z5 k) (hl:ks.length<=4) {r:Nat} (hr:r<=200):jN [.tup (ks.map kw),.int (r:Nat)]=.ok (bD ks r):=by
 let ρ:Env:=[some (.tup (ks.map kw)),some (.int (r:Nat))]
 unfold jN
 refine uG rfl ⟨ρ,?_⟩
 unfold qaw
 refine z8 (qh (a:=.lst (yT (bD ks) r)) ?_ rfl (jR (qaB (yah r))))
 push_cast [qiW h hl hr,ρ]
abbrev Ce:=Kd×Int
def lI(l:List Int):D:=.tup (l.map D.int)
def sK(ks:List Kd):D:=.tup (ks.map kD)
def stC(zs:List Ce):D:=sK (zs.map (·.1))
def ldC(zs:List Ce):D:=lI (zs.map (·.2))
def gK(k:Kd):Prop:=(1<=k.1/\k.1<=25)/\(0<=k.2.1/\k.2.1<=10 ^ 21)/\∀j,k.2.2=some j->0<=j/\j<=5000
def okC(z:Ce):Bool:=decide (0<=z.2)&&(match z.1.2.2 with|none=>true|some j=>decide (z.2<=j))
theorem gK.ok{k:Kd}(h:gK k):okK k:=⟨by have:=h.1.1;omega,h.2.1.1,λj e=>(h.2.2 j e).1⟩
theorem qm7{ks:List Kd}(h:∀k∈ks,gK k)(hl:ks.length<=12):y1 (sK ks)=true:=qbR (λx hx=>(h x hx).ok) hl
theorem qpL (z:Ce):qiK (kD z.1) (.int z.2)=okC z:=by
 obtain⟨⟨a,b,m⟩,t⟩:=z
 cases m<;>rfl
theorem qn7:∀zs:List Ce,wC ((zs.map (·.1)).map kD) ((zs.map (·.2)).map D.int)=zs.all okC
 | []=>rfl
 |z::zs=>by
  rw[mC_,mC_,mC_,mC_,wC,qpL,qn7 zs,ych]
theorem qm8 (zs:List Ce):qhB (ldC zs) (stC zs)=zs.all okC:=by
 show(decide (((zs.map (·.2)).map D.int).length=((zs.map (·.1)).map kD).length)&&wC ((zs.map (·.1)).map kD) ((zs.map (·.2)).map D.int))=_
 rw[qn7,decide_eq_true (by simp),ybu]
theorem qr1:∀zs:List Ce,qct ((zs.map (·.1)).map kD) ((zs.map (·.2)).map D.int)=zs.map λz => .tup [kD z.1,.int z.2]
 | []=>rfl
 |z::zs=>by
  show D.tup [kD z.1,.int z.2]::qct ((zs.map (·.1)).map kD) ((zs.map (·.2)).map D.int)=_
  rw[qr1 zs]
  rfl
theorem qr2 {f g:M D} {ρ:Env} (zs:List Ce) (hf:f ρ=.ok (stC zs,ρ)) (hg:g ρ=.ok (ldC zs,ρ)):qoP %[f,g|0] ρ=.ok (zs.map λz => .tup [kD z.1,.int z.2],ρ):=by
 rw[qhs,qfV hf hg,<-qr1]
 rfl
section
variable{zs:List Ce}(hk:∀z∈zs,gK z.1)(hl:zs.length<=12)
include hk hl
theorem qt3:y1 (stC zs)=true:=qm7 (λk h=>by
 obtain⟨z,hz,rfl⟩:=mP_.mp h
 exact hk z hz) (by rw[lM_];exact hl)
theorem qgh:wp [ldC zs,stC zs]=.ok (.bl (zs.all okC)):=by
 rw[qf5 _ _ (qt3 hk hl),qm8]
theorem qdq (h:zs.all okC=true):wL [stC zs,ldC zs]=.ok .non:=by
 have e:vm [some (stC zs),some (ldC zs)]=.ok (.nx [some (stC zs),some (ldC zs)]):=by
  unfold vm
  push_cast [qgh hk hl,h,vA]
 show(match vm [some (stC zs),some (ldC zs)] with|.ok (.rt d _)=>R.ok d|.ok (.nx _) => .ok .non|_ => .bad)=_
 rw[e]
theorem qk1 (c:Int) (sel:Kd->Int) (hs:∀z∈zs,ixD (kD z.1) (.int c)=some (.int (sel z.1))/\(sel z.1).natAbs<=10 ^ 40/\z.2.natAbs<=10 ^ 40):jt [stC zs,ldC zs,.int c]=.ok (.int (zs.map λz=>sel z.1*z.2).sum):=by
 let ρ:Env:=[some (stC zs),some (ldC zs),some (.int c)]
 unfold jt uN
 refine uG rfl ⟨ρ,z8 (vE (a:=.lst (zs.map λz=>D.int (sel z.1*z.2))) ?_ qhG)⟩
 have q:=qku (e:=d2 qiD (d2 ixD (dv 0) (dv 2)) (dv 1)) (t:=ret true) (xs:=qoP %[dv 0,dv 1|0]) (fr:=[2]) (ρ:=ρ) (r:=[some (.int c)]) (u:=λz:Ce=>kD z.1) (v:=λz=>D.int z.2) zs (λ_=>true) (λz=>D.int (sel z.1*z.2)) (qr2 zs rfl rfl) rfl (by omega) (λ_ _=>rfl) (λz hz _=>qh (qh rfl rfl (hs z hz).1) rfl (mwt (hs z hz).2.1 (hs z hz).2.2))
 rw[y2]at q
 exact q
def wtC(zs:List Ce):Int:=(zs.map λz=>z.1.1*z.2).sum
def woC(zs:List Ce):Int:=(zs.map λz=>z.1.2.1*z.2).sum
theorem qm9 (h:zs.all okC=true) (hz:∀z∈zs,z.2.natAbs<=10 ^ 40):qcA [stC zs,ldC zs]=.ok (.int (wtC zs)):=by
 let ρ:Env:=[some (stC zs),some (ldC zs)]
 unfold qcA
 refine uG rfl ⟨ρ,?_⟩
 unfold qeL
 refine(qj (ρ':=ρ) ?_).trans (z8 (vF rfl rfl rfl (qk1 hk hl 0 (·.1) λz zz=>⟨rfl,(by have:=(hk z zz).1;omega),hz z zz⟩)))
 push_cast [ρ,qdq hk hl h]
theorem qpM (h:zs.all okC=true) (hz:∀z∈zs,z.2.natAbs<=10 ^ 40):qeM [stC zs,ldC zs]=.ok (.int (woC zs)):=by
 let ρ:Env:=[some (stC zs),some (ldC zs)]
 unfold qeM
 refine uG rfl ⟨ρ,?_⟩
 unfold qg0
 refine(qj (ρ':=ρ) ?_).trans (z8 (vF rfl rfl rfl (qk1 hk hl 1 (·.2.1) λz zz=>⟨rfl,(by have:=(hk z zz).2.1;omega),hz z zz⟩)))
 push_cast [ρ,qdq hk hl h]
end
def ceL(ks:List Kw)(l:List Int):List Ce:=(ks.zip l).map λp=>((p.1.w,p.1.v,p.1.m),p.2)
theorem qpN:∀(ks:List Kw)(l:List Int),qeH ks l->(ceL ks l).map (·.1)=ks.map (λk=>((k.w,k.v,k.m):Kd))/\(ceL ks l).map (·.2)=l/\(ceL ks l).all okC=true/\wtC (ceL ks l)=qt ks l/\woC (ceL ks l)=qL ks l
 | [],[],_=>⟨rfl,rfl,rfl,rfl,rfl⟩
 | [],_::_,h=>h.elim
 |_::_,[],h=>h.elim
 | k::ks,t::l,h=>by
  obtain⟨a,b,c,d,e⟩:=qpN ks l h.2.2
  refine⟨?_,?_,?_,?_,?_⟩
  ·show(k.w,k.v,k.m)::(ceL ks l).map (·.1)=_
   rw[a];rfl
  ·show t::(ceL ks l).map (·.2)=_
   rw[b]
  ·show(okC ((k.w,k.v,k.m),t)&&(ceL ks l).all okC)=true
   rw[c,yfV]
   unfold okC
   rw[decide_eq_true h.1,ybu]
   cases em:k.m with
   |none=>rfl
   |some j=>exact decide_eq_true (h.2.1 j em)
  ·show(k.w*t::(ceL ks l).map λz=>z.1.1*z.2).sum=t*k.w+qt ks l
   rw[ybl,ye7]
   show _+wtC (ceL ks l)=_
   rw[d]
  ·show(k.v*t::(ceL ks l).map λz=>z.1.2.1*z.2).sum=t*k.v+qL ks l
   rw[ybl,ye7]
   show _+woC (ceL ks l)=_
   rw[e]
theorem qna (ks:List Kw) (l:List Int) (h:qeH ks l):stC (ceL ks l)=.tup (ks.map kw)/\ldC (ceL ks l)=ldD l:=by
 obtain⟨a,b,_⟩:=qpN ks l h
 refine⟨?_,?_⟩
 ·unfold stC sK
  rw[a,mm_]
  rfl
 ·unfold ldC lI ldD
  rw[b]
def qcB(ks:List Kd):List Nat:=ks.map λk=>k.1.toNat
theorem qk2{k:Kd}(h:u6 k):((k.1.toNat:Nat):Int)=k.1:=by have:=h.1;omega
theorem uR (ks:List Kd) (h:∀k∈ks,u6 k):zd [.tup (ks.map kD)]=.ok (.int ((qcB ks).foldl yaS 0:Nat)):=by
 unfold zd uh
 let T:OD:=some (.tup (ks.map kD))
 obtain ⟨ρ',q,o2,rfl⟩:=qc3 (G:=qq 2) (b:=(zG 1 (qg zq %[dv 1,d2 ixD (dv 2) (ret (.int 0))|0]))) (k:=kD) (step:=λ(s:Nat) (k:Kd)=>yaS s k.1.toNat) (Inv:=λn s ρ=>∃o2,ρ=[T,some (.int (s:Nat)),o2]) ks 0 0 [T,some (.int 0),none] ⟨none,rfl⟩ (λk hk n s ρ _ _=>by
  rintro⟨o2,rfl⟩
  let ρ1:Env:=[T,some (.int (s:Nat)),some (kD k)]
  have c:(qg zq %[dv 1,d2 ixD (dv 2) (ret (.int 0))|0]) ρ1=.ok (.int (yaS s k.1.toNat:Nat),ρ1):=zR rfl (qh rfl rfl (by rw[qaX,qk2 (h k hk)])) (qay s k.1.toNat)
  refine⟨ρ1,[T,some (.int (yaS s k.1.toNat:Nat)),some (kD k)],rfl,?_,_,rfl⟩
  rw[wZ,c]
  rfl)
 have e:(qcB ks).foldl yaS 0=ks.foldl (λ(s:Nat) (k:Kd)=>yaS s k.1.toNat) 0:=by
  unfold qcB
  rw[List.foldl_map]
 rw[e]
 generalize ks.foldl (λ(s:Nat) (k:Kd)=>yaS s k.1.toNat) 0=z at q |-
 refine uG rfl ⟨[T,some (.int (z:Nat)),o2],?_⟩
 refine(qj (ρ':=[T,some (.int 0),none]) rfl).trans ?_
 refine(qj (ρ':=[T,some (.int (z:Nat)),o2]) ?_).trans rfl
 rw[vb]
 exact q
theorem qd3 (f:Nat->D):∀(n k:Nat),vc k ((yag n).map λi=>f (k+i))=(yag n).map λi => .tup [.int ((k+i:Nat):Int),f (k+i)]
 |0,_=>rfl
 | n+1,k=>by
  rw[ybP,mC_,mm_,mC_,mm_]
  show D.tup [.int (k:Nat),f (k+0)]::vc (k+1) ((yag n).map ((λi=>f (k+i))∘Nat.succ))=_
  have e1:(yag n).map ((λi=>f (k+i))∘Nat.succ)=(yag n).map λi=>f (k+1+i):=mL_ λi _=>by
   show f (k+(i+1))=f (k+1+i)
   rw[show k+(i+1)=k+1+i by omega]
  rw[e1,qd3 f n (k+1)]
  congr 1
  refine mL_ λi _=>?_
  show D.tup [.int ((k+1+i:Nat):Int),f (k+1+i)]=D.tup [.int ((k+(i+1):Nat):Int),f (k+(i+1))]
  rw[show k+(i+1)=k+1+i by omega]
theorem qnb (f:Nat->D) (n:Nat):vc 0 ((yag n).map f)=(yag n).map λi => .tup [.int (i:Nat),f i]:=by
 have:=qd3 f n 0
 simp only[ybf]at this
 exact this
noncomputable def vo(ws:List Nat)(n:Nat):List D:=(yag n).map λi=>D.bl (rch ws i)
theorem qpO{ws:List Nat}{n i:Nat}(h:i<n):atI (vo ws n) ((i:Nat):Int)=some (.bl (rch ws i)):=qfX (by unfold vo;rw[gM_,List.getElem?_range h];rfl)
def qg4(ks:List Kd):Nat:=(qek (ks.map λk=>k.1)).toNat
def qg5(ks:List Kd):Nat:=(qbt (ks.map λk=>k.1)).toNat
theorem qia {ks:List Kd} (h:∀k∈ks,u6 k) (hne:0<ks.length):qg4 ks∈qcB ks/\0<qg4 ks/\qg4 ks<=20/\((qg4 ks:Nat):Int)=qek (ks.map λk=>k.1):=by
 have hm:qek (ks.map λk=>k.1)∈ks.map λk=>k.1:=by
  cases ks with
  |nil=>exact absurd hne (yaT _)
  |cons k ks=>exact qem _ _
 obtain⟨k,hk,e⟩:=mP_.mp hm
 have g:=h k hk
 have e2:qg4 ks=k.1.toNat:=by unfold qg4;rw[<-e]
 refine⟨mP_.mpr ⟨k,hk,e2.symm⟩,?_,?_,?_⟩
 ·rw[e2];have:=g.1;omega
 ·rw[e2];have:=g.2.1;omega
 ·rw[e2,qk2 g,e]
theorem qk3 {ks:List Kd} (h:∀k∈ks,u6 k) (hne:0<ks.length):(∀x∈qcB ks,x<=qg5 ks)/\qg5 ks<=20/\((qg5 ks:Nat):Int)=qbt (ks.map λk=>k.1)/\0<qg5 ks:=by
 have hm:qbt (ks.map λk=>k.1)∈ks.map λk=>k.1:=by
  cases ks with
  |nil=>exact absurd hne (yaT _)
  |cons k ks=>exact qaL _ _
 obtain⟨k,hk,e⟩:=mP_.mp hm
 have g:=h k hk
 have e2:qg5 ks=k.1.toNat:=by unfold qg5;rw[<-e]
 refine⟨λx hx=>?_,?_,?_,?_⟩
 ·obtain ⟨j,hj,rfl⟩:=mP_.mp hx
  have hm2:j.1∈ks.map λk=>k.1:=mP_.mpr ⟨j,hj,rfl⟩
  have:j.1<=qbt (ks.map λk=>k.1):=by
   cases ks with
   |nil=>exact absurd hne (yaT _)
   |cons k ks=>exact qel _ _ _ hm2
  unfold qg5
  omega
 ·rw[e2];have:=g.2.1;omega
 ·rw[e2,qk2 g,e]
 ·rw[e2];have:=g.1;omega
theorem qnc {α:Type} {l:List α} {f:α->Int} (h:l≠[]):qmc [.lst (l.map λa=>D.int (f a))]=some (.int (qek (l.map f))):=by
 cases l with
 |nil=>exact absurd rfl h
 |cons a l=>
  have:=ul ((a::l).map f)
  rw[mm_]at this
  simp only[ycK,mC_]at this
  simp only[mC_,qmc,qiq,this]
  rfl
theorem w8 (ks:List Kd) (h:∀k∈ks,u6 k) (hl:ks.length<=12) (hne:0<ks.length):jm [.tup (ks.map kD)]=.ok (.lst ((qf2 (qcB ks) (qg4 ks*qg5 ks)).map λi=>D.int (i:Nat))):=by
 obtain⟨a1,a2,a3,a4⟩:=qia h hne
 obtain⟨b1,b2,b3,b4⟩:=qk3 h hne
 let ws:=qcB ks
 let N:=qg4 ks*qg5 ks
 have hN:0<N:=Nat.mul_pos a2 b4
 have hN2:N<=400:=yeg a3 b2
 have hw:∀w∈ws,0<w:=λw hw=>by
  obtain⟨k,hk,rfl⟩:=mP_.mp hw
  have:=(h k hk).1
  omega
 let T:OD:=some (.tup (ks.map kD))
 let Lt:OD:=some (.int (qg4 ks:Nat))
 have full_succ:∀n,vo ws n++[D.bl (rch ws n)]=vo ws (n+1):=λn=>by
  unfold vo
  rw[yc6,ybH]
  rfl
 have step:∀n:Nat,0<n->n<1000->(zx (jg 2 (zB qnw %[qZ 1 [3,2] (some (2,2)) (wx (dv 0)) (qq 0) (ret true) (qfj (d2 leD (d2 ixD (dv 0) (ret (.int 0))) (dv 1)) (qce 2 (d2 qbo (dv 1) (d2 ixD (dv 0) (ret (.int 0))))))|0]))) [T,Lt,some (.lst (vo ws n)),some (.int (n:Nat))]=.ok (.nx [T,Lt,some (.lst (vo ws (n+1))),some (.int (n:Nat))]):=λn n0 n1=>by
  let ρ:Env:=[T,Lt,some (.lst (vo ws n)),some (.int (n:Nat))]
  have c1:(qZ 1 [3,2] (some (2,2)) (wx (dv 0)) (qq 0) (ret true) (qfj (d2 leD (d2 ixD (dv 0) (ret (.int 0))) (dv 1)) (qce 2 (d2 qbo (dv 1) (d2 ixD (dv 0) (ret (.int 0))))))) ρ=.ok (.lst (ks.map λk=>D.bl (decide (k.1.toNat<=n)&&rch ws (n-k.1.toNat))),ρ):=by
   have:=qkA (e:=(qfj (d2 leD (d2 ixD (dv 0) (ret (.int 0))) (dv 1)) (qce 2 (d2 qbo (dv 1) (d2 ixD (dv 0) (ret (.int 0))))))) (t:=ret true) (k:=kD) (xs:=wx (dv 0)) (ρ:=ρ) (fr:=[3,2]) (r:=[some (.int (n:Nat)),some (.lst (vo ws n))]) (i:=2) (j:=2) ks (λ_=>true) (λk=>D.bl (decide (k.1.toNat<=n)&&rch ws (n-k.1.toNat))) rfl rfl (by omega) (λ_ _=>rfl) (λk hk _=>?_) (λo=>rfl)
   ·rw[y2]at this
    exact this
   ·have g:=h k hk
    let ρi:Env:=[some (kD k),some (.int (n:Nat)),some (.lst (vo ws n))]
    have ek:ixD (kD k) (.int 0)=some (.int (k.1.toNat:Nat)):=by rw[qaX,qk2 g]
    have le:d2 leD (d2 ixD (dv 0) (ret (.int 0))) (dv 1) ρi=.ok (.bl (decide (k.1.toNat<=n)),ρi):=qh (qh rfl rfl ek) rfl (by
     rw[qbQ]
     congr 2
     rw[decide_eq_decide]
     omega)
    show qfj (d2 leD (d2 ixD (dv 0) (ret (.int 0))) (dv 1)) (qce 2 (d2 qbo (dv 1) (d2 ixD (dv 0) (ret (.int 0))))) ρi=_
    rw[qhr,le]
    by_cases hk2:k.1.toNat<=n
    ·rw [decide_eq_true hk2,ybu]
     have sb:d2 qbo (dv 1) (d2 ixD (dv 0) (ret (.int 0))) ρi=.ok (.int ((n-k.1.toNat:Nat):Int),ρi):=qh rfl (qh rfl rfl ek) (by
      rw[yG]
      congr 2
      omega)
     have w0:0<k.1.toNat:=by have:=g.1;omega
     show qce 2 (d2 qbo (dv 1) (d2 ixD (dv 0) (ret (.int 0)))) ρi=_
     have gl:yz 2 ρi=some (vo ws n):=rfl
     simp only[qfA,gl,sb,qpO (ws:=ws) (show n-k.1.toNat<n by omega)]
     rfl
    ·rw[decide_eq_false hk2]
     rfl
  have c2:zB qnw %[qZ 1 [3,2] (some (2,2)) (wx (dv 0)) (qq 0) (ret true) (qfj (d2 leD (d2 ixD (dv 0) (ret (.int 0))) (dv 1)) (qce 2 (d2 qbo (dv 1) (d2 ixD (dv 0) (ret (.int 0))))))|0] ρ=.ok (.bl (rch ws n),ρ):=by
   refine vE c1 ?_
   rw[qmF,qmN hw n0]
   congr 2
   show _=(ks.map λk=>k.1.toNat).any _
   rw[yd5]
   rfl
  have c3:=qbC (i:=2) (ds:=vo ws n) (ρ:=ρ) rfl c2 rfl (by unfold vo;rw[lM_,lR_];omega)
  refine c3.trans ?_
  rw[full_succ]
  rfl
 have loop:∀(c n:Nat)(o:OD),0<n->n+c<=1000->∃o',uH (qq 3) (zx (jg 2 (zB qnw %[qZ 1 [3,2] (some (2,2)) (wx (dv 0)) (qq 0) (ret true) (qfj (d2 leD (d2 ixD (dv 0) (ret (.int 0))) (dv 1)) (qce 2 (d2 qbo (dv 1) (d2 ixD (dv 0) (ret (.int 0))))))|0]))) (qbK (n:Nat) c) [T,Lt,some (.lst (vo ws n)),o]=.ok (.nx [T,Lt,some (.lst (vo ws (n+c))),o']):=λc=>by
  induction c with
  |zero=>intro n o _ _;exact⟨o,rfl⟩
  |succ c ih=>
   intro n o n0 n1
   obtain⟨o',q⟩:=ih (n+1) (some (.int (n:Nat))) (by omega) (by omega)
   refine⟨o',?_⟩
   rw[qfU,uy rfl (step n n0 (by omega))]
   have e:((n:Nat):Int)+1=((n+1:Nat):Int):=by omega
   rw[e,q,show n+1+c=n+(c+1) by omega]
 obtain⟨o3,q⟩:=loop (N-1) 1 none (by omega) (by omega)
 have eN:1+(N-1)=N:=by omega
 rw[eN]at q
 unfold jm wH
 let ρ':Env:=[T,Lt,some (.lst (vo ws N)),o3]
 refine uG rfl ⟨ρ',?_⟩
 have hks:ks≠[]:=λe=>by rw[e]at hne;exact absurd hne (yaT _)
 refine(qj (ρ':=[T,Lt,none,none]) ?_).trans ?_
 ·have c:(zB qmc %[qZ 1 [] none (wx (dv 0)) (qq 0) (ret true) (d2 ixD (dv 0) (ret (.int 0)))|0]) [T,none,none,none]=.ok (.int (qg4 ks:Nat),[T,none,none,none]):=vE (qa1 (r:=[]) (k:=kD) ks (λk=>D.int k.1) rfl rfl (by omega) λk hk=>qh rfl rfl (qaX k)) (by rw[a4];exact qnc hks)
  show zG 1 _ [T,none,none,none]=_
  rw[wZ,c]
  rfl
 refine(qj (ρ':=[T,Lt,some (.lst (vo ws 1)),none]) ?_).trans ?_
 ·have e1:vo ws 1=[D.bl true]:=by
   show [D.bl (rch ws 0)]=_
   rw[qmM]
  rw[e1]
  push_cast [immL,imm,yR (show 1<=1000000 by omega),yaG]
 refine(qj (ρ':=ρ') ?_).trans ?_
 ·have c:d2 uF (dv 1) (qg yx %[dv 0|0]) [T,Lt,some (.lst (vo ws 1)),none]=.ok (.int (N:Nat),[T,Lt,some (.lst (vo ws 1)),none]):=qh rfl (jd rfl (wM ks hl hne)) (by rw[<-b3];exact qrv _ (by omega))
  rw[vb,qcW (i:=1) (j:=(N:Nat)) (ρ1:=[T,Lt,some (.lst (vo ws 1)),none]) (qfV rfl c) (by omega) (by omega) (by omega) (by omega)]
  have e:((N:Nat)-1:Int).toNat=N-1:=by omega
  rw[e]
  exact q
 ·have c:=qpp (e:=dv 0) (t:=qco (tst (dv 1))) (xs:=qcX %[dv 2|0]) (fr:=[]) (ρ:=ρ') (r:=[]) (u:=λi:Nat=>D.int (i:Nat)) (v:=λi=>D.bl (rch ws i)) (yag N) (λi => !rch ws i) (λi=>D.int (i:Nat)) (by
    show R.ok (vc 0 (vo ws N),ρ')=_
    unfold vo
    rw[qnb]) rfl (by rw[lR_];omega) (λi _=>rfl) (λi _ _=>rfl) (λi _=>rfl)
  rw[wY,qrb,qsO c (qeA λ_ _=>rfl)]
  rfl
theorem qk4 (l:List Nat) (h:l≠[]):ixD (.lst (l.map λi=>D.int (i:Nat))) (.int (-1))=some (.int (l.getLast h:Nat)):=by
 have hl:0<l.length:=List.length_pos_iff.mpr h
 show atI (l.map λi=>D.int (i:Nat)) (-1)=_
 unfold atI ixN
 rw[if_neg (by omega),lM_]
 have e:l[l.length-1]? = some (l.getLast h):=by
  rw[List.getLast_eq_getElem,gG (by omega)]
 split
 ·have e2:((-1:Int)+(l.length:Int)).toNat=l.length-1:=by omega
  show(l.map λi=>D.int (i:Nat))[((-1:Int)+(l.length:Int)).toNat]? = _
  rw[e2,gM_,e]
  rfl
 ·omega
def qcm (l:List Nat):D:=match l.getLast? with
 |none => .tup [.str "none"]
 |some n => .tup [.str "last",.int (n:Nat)]
theorem qg6 (l:List Nat):eqB (.lst (l.map λi=>D.int (i:Nat))) (.lst [])=some (.bl l.isEmpty):=by
 have h:∀l:List Nat,ybk (toPDs (l.map λi=>D.int (i:Nat)))=true/\ybY (toPDs (l.map λi=>D.int (i:Nat)))=0:=λl=>by
  induction l with
  |nil=>exact⟨rfl,rfl⟩
  |cons n ns ih=>exact⟨by simp only[mC_,toPDs,yQ,ybk,ybo,ih.1,yaG],by simp only[mC_,toPDs,yQ,ybY,yd6,ih.2];rfl⟩
 obtain⟨h1,h2⟩:=h l
 have o1:qa8 (.lst (l.map λi=>D.int (i:Nat)))=true:=by
  simp only[qa8,yQ,ybo,yd6,h1,h2]
  rfl
 have e:eqB (.lst (l.map λi=>D.int (i:Nat))) (.lst [])=eqA (.lst (l.map λi=>D.int (i:Nat))) (.lst []):=rfl
 rw[e]
 unfold eqA
 rw[o1]
 cases l with
 |nil=>rfl
 |cons n l=>rfl
theorem gt1 (n:Nat):gtD (.int (n:Nat)) (.int 1)=some (.bl (decide (1<n))):=by
 rw[yY]
 congr 2
 rw[decide_eq_decide]
 omega
def qdE(g:Nat)(l:List Nat):D:=if 1<g then .tup [.str "ever",.int (g:Nat)]else qcm l
def qeU(g:Nat)(l:List Nat):D:=if 1<g then .non else .int (l.length:Nat)
theorem qt4 {f:M D} {ρ:Env} {a:D} (hf:f ρ=.ok (a,ρ)):qca %[f|0] ρ=.ok (.tup [a],ρ):=by
 rw[qfy,v8 hf]
 simp only[lC_,lN_,ybf,yR (show 1<=1000000 by omega),if_true]
theorem qk5(ρ:Env):qaV (ret []) ρ=.ok (.lst [],ρ):=by push_cast [yR (show 0<=1000000 by omega)]
theorem qb4 (ks:List Kd) (h:∀k∈ks,u6 k) (hl:ks.length<=12) (hne:0<ks.length):j8 [.tup (ks.map kD)]=.ok (qdE ((qcB ks).foldl yaS 0) (qf2 (qcB ks) (qg4 ks*qg5 ks))):=by
 unfold j8 vV
 let T:OD:=some (.tup (ks.map kD))
 let g:=(qcB ks).foldl yaS 0
 let l:=qf2 (qcB ks) (qg4 ks*qg5 ks)
 let ρ:Env:=[T,some (.int (g:Nat)),none]
 have s0:(zx (qg qM %[dv 0|0])) [T,none,none]=.ok (.nx [T,none,none]):=by rw[vM,jd rfl (jn ks h hl hne)]
 have s1:(zG 1 (qg zd %[dv 0|0])) [T,none,none]=.ok (.nx ρ):=by
  rw[wZ,jd rfl (uR ks h)]
  rfl
 have c:d2 gtD (dv 1) (ret (.int 1)) ρ=.ok (.bl (decide (1<g)),ρ):=qh rfl rfl (gt1 g)
 by_cases hg:1<g
 ·rw[decide_eq_true hg]at c
  have e:qdE g l=.tup [.str "ever",.int (g:Nat)]:=if_pos hg
  refine uG rfl ⟨ρ,?_⟩
  refine(qj s0).trans ((qj s1).trans (qbA ?_))
  rw[qrr (qR c),wY,qsd rfl rfl]
  show _=R.ok (Fl.rt (qdE g l) ρ)
  rw[e]
 ·rw [decide_eq_false hg]at c
  have e:qdE g l=qcm l:=if_neg hg
  let ρ2:Env:=[T,some (.int (g:Nat)),some (.lst (l.map λi=>D.int (i:Nat)))]
  refine uG rfl ⟨ρ2,?_⟩
  refine(qj s0).trans ((qj s1).trans ((qj (qhE (qR c))).trans ?_))
  refine(qj (ρ':=ρ2) ?_).trans ?_
  ·rw[wZ,jd rfl (w8 ks h hl hne)]
   rfl
  ·have c2:d2 eqB (dv 2) (qaV (ret [])) ρ2=.ok (.bl l.isEmpty,ρ2):=qh rfl (qk5 ρ2) (qg6 l)
   show _=R.ok (Fl.rt (qdE g l) ρ2)
   rw[wY,qgH,qR c2,e]
   cases hl2:l with
   |nil=>
    show(match qca %[ret (.str "none")|0] ρ2 with|.ok (d,ρ1)=>R.ok (Fl.rt d ρ1)|.exc x ρ' => .exc x ρ'|.bad => .bad)=_
    rw[qt4 rfl]
    rfl
   | cons n r=>
    have c3:qca %[ret (.str "last"),d2 ixD (dv 2) (d1 qlU (ret (.int 1)))|0] ρ2=.ok (.tup [.str "last",.int ((n::r).getLast (by simp):Nat)],ρ2):=by
     refine qsd rfl (qh (a:=.lst ((n::r).map λi=>D.int (i:Nat))) ?_ ?_ (qk4 (n::r) (by simp)))
     ·show R.ok (D.lst (l.map λi=>D.int (i:Nat)),ρ2)=_
      rw[hl2]
     ·rw[qq7]
      rfl
    show(match qca %[ret (.str "last"),d2 ixD (dv 2) (d1 qlU (ret (.int 1)))|0] ρ2 with|.ok (d,ρ1)=>R.ok (Fl.rt d ρ1)|.exc x ρ' => .exc x ρ'|.bad => .bad)=_
    rw[c3]
    unfold qcm
    rw[List.getLast?_eq_some_getLast (by simp)]
theorem qdr (ks:List Kd) (h:∀k∈ks,u6 k) (hl:ks.length<=12) (hne:0<ks.length):uE [.tup (ks.map kD)]=.ok (qeU ((qcB ks).foldl yaS 0) (qf2 (qcB ks) (qg4 ks*qg5 ks))):=by
 unfold uE qav
 let ρ:Env:=[some (.tup (ks.map kD))]
 let g:=(qcB ks).foldl yaS 0
 let l:=qf2 (qcB ks) (qg4 ks*qg5 ks)
 refine uG rfl ⟨ρ,?_⟩
 show qG _ _ ρ=R.ok (Fl.rt (qeU g l) ρ)
 refine(qj (ρ':=ρ) ?_).trans ?_
 ·rw[vM,jd rfl (jn ks h hl hne)]
 ·have c:d2 gtD (qg zd %[dv 0|0]) (ret (.int 1)) ρ=.ok (.bl (decide (1<g)),ρ):=qh (jd rfl (uR ks h)) rfl (gt1 g)
  rw[wY,qgH,qR c]
  by_cases hg:1<g
  ·rw[decide_eq_true hg]
   have e:qeU g l=.non:=if_pos hg
   rw[e]
   rfl
  ·rw [decide_eq_false hg]
   have e:qeU g l=.int (l.length:Nat):=if_neg hg
   have c2:zB qbI %[qg jm %[dv 0|0]|0] ρ=.ok (.int (l.length:Nat),ρ):=vE (jd rfl (w8 ks h hl hne)) (by
    show some (D.int ((List.map (λi=>D.int (i:Nat)) l).length:Nat))=_
    rw[lM_])
   show(match zB qbI %[qg jm %[dv 0|0]|0] ρ with|.ok (d,ρ1)=>R.ok (Fl.rt d ρ1)|.exc x ρ' => .exc x ρ'|.bad => .bad)=_
   rw[c2,e]
theorem qk6 {α:Type} {e:M D} {t:M Bool} {u v w f:α->D} {p:α->Bool} {r:Env}:∀(as:List α)(acc:List D)(o o' o'':OD),(∀a∈as,t (some (u a)::some (v a)::some (w a)::r)=.ok (p a,some (u a)::some (v a)::some (w a)::r))->(∀a∈as,p a=true->e (some (u a)::some (v a)::some (w a)::r)=.ok (f a,some (u a)::some (v a)::some (w a)::r))->acc.length+as.length<=1000000 ->
  ∃o1 o2 o3,zh (qcJ 3 (zD (qq 0) (zD (qq 1) (zD (qq 2) qcI)))) t e (as.map λa => .tup [u a,v a,w a]) acc (o::o'::o''::r)=.ok (acc++(as.filter p).map f,o1::o2::o3::r)
 | [],acc,o,o',o'',_,_,_=>⟨o,o',o'',by simp[zh]⟩
 | a::as,acc,o,o',o'',ht,he,hl=>by
  have hl':acc.length+(as.length+1)<=1000000:=hl
  have h1:=ht a mS_
  rw[mC_]
  unfold zh
  have hg:qcJ 3 (zD (qq 0) (zD (qq 1) (zD (qq 2) qcI))) (.tup [u a,v a,w a]) (o::o'::o''::r)=some (some (u a)::some (v a)::some (w a)::r):=rfl
  simp only[hg,h1]
  cases hp:p a with
  |false=>
   obtain⟨o1,o2,o3,q⟩:=qk6 as acc (some (u a)) (some (v a)) (some (w a)) (λx hx=>ht x (mM _ hx)) (λx hx=>he x (mM _ hx)) (by omega)
   refine⟨o1,o2,o3,?_⟩
   simp only[q,ft_,hp,ybr,if_false]
  |true=>
   obtain⟨o1,o2,o3,q⟩:=qk6 as (acc++[f a]) (some (u a)) (some (v a)) (some (w a)) (λx hx=>ht x (mM _ hx)) (λx hx=>he x (mM _ hx)) (by rw[lA_,yaY];omega)
   refine⟨o1,o2,o3,?_⟩
   simp only[he a mS_ hp,yR (show acc.length+1<=1000000 by omega),if_true,q,ft_,hp,mC_,aA_,ydQ]
theorem qpP {α:Type} {e:M D} {t:M Bool} {u v w:α->D} {xs:M (List D)} {ρ r:Env} {fr:List Nat} (as:List α) (p:α->Bool) (f:α->D) (hx:xs ρ=.ok (as.map λa => .tup [u a,v a,w a],ρ)) (hr:jJ 3 fr ρ=none::none::none::r) (hl:as.length<=1000000)
  (ht:∀a∈as,t (some (u a)::some (v a)::some (w a)::r)=.ok (p a,some (u a)::some (v a)::some (w a)::r)) (he:∀a∈as,p a=true->e (some (u a)::some (v a)::some (w a)::r)=.ok (f a,some (u a)::some (v a)::some (w a)::r)):qZ 3 fr none xs (qcJ 3 (zD (qq 0) (zD (qq 1) (zD (qq 2) qcI)))) t e ρ=.ok (.lst ((as.filter p).map f),ρ):=by
 obtain⟨o1,o2,o3,q⟩:=qk6 as [] none none none ht he (by simpa using hl)
 rw[qbN,hx]
 simp only[hr,q,yaJ]
 rfl
theorem qpQ{t:M Bool}{ρ:Env}{b:Bool}(h:t ρ=.ok (b,ρ)):qco t ρ=.ok (!b,ρ):=by rw[qhp,h]
theorem qk7(a b:Bool):neB (.bl a) (.bl b)=some (.bl (a != b)):=by cases a<;>cases b<;>rfl
theorem z5.vw{k:Kw}(h:z5 k):z5 (vw k):=⟨h.1,⟨by have:=h.1.1;show 0<=k.w;omega,by have:=h.1.2;show k.w<=10 ^ 21;omega⟩,h.2.2⟩
theorem qt5 (ks:List Kw) (r:Nat):gtD (eD ks r) (.int 0)=some (.bl (decide (0<EnM ks r))):=by
 unfold eD
 rw[yY]
 congr 2
 by_cases c:0<EnM ks r
 ·rw[decide_eq_true c,decide_eq_true (by omega)]
 ·rw[decide_eq_false c,decide_eq_false (by omega)]
theorem qk8 (ks:List Kw) (r:Nat):(qrF ks r).map D.int=(rmN ks r).map λi=>D.int (i:Nat):=by
 unfold qrF rmN
 rw[mm_]
 rfl
section
variable{ks:List Kw}(h:∀k∈ks,z5 k)(hl:ks.length<=4){r:Nat}(hr:r<=200)
include h hl hr
theorem qpR (L B:OD):∃ρ,(qG (zG 4 (zB qfp %[qZ 3 [] none (wx (dv 0)) (qcJ 3 (zD (qq 0) (zD (qq 1) (zD (qq 2) qcI)))) (ret true) (qca %[dv 0,dv 0,dv 2|0])|0])) (jc (d2 eqB (qg jN %[dv 4,dv 1|0]) (d2 ixD (qg jf %[dv 0,dv 1|0]) (d1 qlU (ret (.int 1))))))) [some (.tup (ks.map kw)),some (.int (r:Nat)),L,B,none]=.ok (.rt (.bl true) ρ):=by
 have hkd:=λk hk=>(h k hk).kd
 let T:OD:=some (.tup (ks.map kw))
 let Rm:OD:=some (.int (r:Nat))
 have hv:∀k∈ks.map vw,z5 k:=λk hk=>by
  obtain⟨a,ha,rfl⟩:=mP_.mp hk
  exact(h a ha).vw
 let S:OD:=some (.tup ((ks.map vw).map kw))
 refine⟨[T,Rm,L,B,S],?_⟩
 refine(qj (ρ':=[T,Rm,L,B,S]) ?_).trans ?_
 ·have c:=qpP (e:=qca %[dv 0,dv 0,dv 2|0]) (t:=ret true) (xs:=wx (dv 0)) (fr:=[]) (ρ:=[T,Rm,L,B,none]) (r:=[]) (u:=λk:Kw=>D.int k.w) (v:=λk=>D.int k.v) (w:=λk=>mD k.m) ks (λ_=>true) (λk=>kw (vw k)) rfl rfl (by omega) (λ_ _=>rfl) (λ_ _ _=>qtt rfl rfl rfl)
  rw[y2]at c
  have e:ks.map (λk=>kw (vw k))=(ks.map vw).map kw:=by rw[mm_];rfl
  rw[e]at c
  exact j4 (vE c (qiM _))
 ·have hne:rmN ks r≠[]:=λe=>by
   have:=qpw hkd r
   rw[e]at this
   cases this
  have c1:qg jN %[dv 4,dv 1|0] [T,Rm,L,B,S]=.ok (.int (zY (ks.map vw) (r:Nat)),[T,Rm,L,B,S]):=zR rfl rfl (qh9 hv (by rw[lM_];exact hl) hr)
  have c2:d2 ixD (qg jf %[dv 0,dv 1|0]) (d1 qlU (ret (.int 1))) [T,Rm,L,B,S]=.ok (.int (zY (ks.map vw) (r:Nat)),[T,Rm,L,B,S]):=by
   refine qh (zR rfl rfl (qn6 h hl hr)) (b:=.int (-1)) (by rw[qq7];rfl) ?_
   rw[qk8,qk4 _ hne,qpv hkd hr]
  refine z8 (qh c1 c2 ?_)
  rw[qan,decide_eq_true rfl]
theorem qs3:ze [.tup (ks.map kw),.int (r:Nat)]=.ok (.bl true):=by
 have hkd:=λk hk=>(h k hk).kd
 let T:OD:=some (.tup (ks.map kw))
 let Rm:OD:=some (.int (r:Nat))
 let L:OD:=some (qn5 ks (r:Nat))
 let B:OD:=some (fD mxO ks r)
 have hs:=qkL qaq hkd hr
 have hfil:=qgg h hl hr
 have hmany:=qt5 ks r
 obtain⟨ρe,tl⟩:=qpR h hl hr L B
 unfold ze
 refine uG rfl ⟨ρe,?_⟩
 unfold uj
 refine(qj (ρ':=[T,Rm,L,B,none]) (qtY (zR rfl rfl (qkX h hl hr)) (zR rfl rfl (wv h hl hr)))).trans ?_
 have i2:d2 isN (dv 2) (ret .non) [T,Rm,L,B,none]=.ok (.bl (fR mxO ks (r:Nat)).isNone,[T,Rm,L,B,none]):=qh rfl rfl (by
  unfold qn5
  cases fR mxO ks (r:Nat)<;>rfl)
 have n2:d2 qoA (dv 2) (ret .non) [T,Rm,L,B,none]=.ok (.bl (fR mxO ks (r:Nat)).isSome,[T,Rm,L,B,none]):=qh rfl rfl (by
  unfold qn5
  cases fR mxO ks (r:Nat)<;>rfl)
 have i3:d2 isN (dv 3) (ret .non) [T,Rm,L,B,none]=.ok (.bl (fR mxO ks (r:Nat)).isNone,[T,Rm,L,B,none]):=qh rfl rfl (by
  unfold fD
  rw[qcf,qcw])
 have fl:qg jk %[dv 0,dv 1|0] [T,Rm,L,B,none]=.ok (.bl (decide (0<EnM ks r)),[T,Rm,L,B,none]):=zR rfl rfl hfil
 refine(qj (ρ':=[T,Rm,L,B,none]) (qhE (qrw (qR (qh i2 i3 (by rw[qk7,bne_self_eq_false]))) (qR (qh fl n2 (by rw[qk7,hs,bne_self_eq_false])))))).trans ?_
 refine(qj (ρ':=[T,Rm,L,B,none]) (qhE (qR (qh (qh (zR rfl rfl (qm4 h hl hr)) rfl hmany) fl (by rw[qk7,bne_self_eq_false]))))).trans ?_
 refine(qj (ρ':=[T,Rm,L,B,none]) ?_).trans tl
 cases e:fR mxO ks (r:Nat) with
 |none=>
  rw[e]at n2
  exact qhE (qR n2)
 | some b=>
  rw[e]at n2
  rw[qrr (qR n2)]
  obtain⟨p1,p2,p3⟩:=qdd qaq e
  have pv:=(ve ks _ _ hkd (by omega) p2).mp p1
  obtain⟨q1,q2,q3,q4,q5⟩:=qpN ks _ pv
  obtain⟨s1,s2⟩:=qna ks _ pv
  let l:=qbc mxO ks (r:Nat)
  have eL:qn5 ks (r:Nat)=ldD l:=by unfold qn5;rw[e]
  have eB:fD mxO ks r=.int b:=by unfold fD;rw[e];rfl
  have hg:∀z∈ceL ks l,gK z.1:=λz hz=>by
   obtain⟨⟨k,t⟩,hp,rfl⟩:=mP_.mp hz
   have g:=h k (ydW hp).1
   exact⟨g.1,g.2.1,λj ej=>by have:=g.2.2 j ej;omega⟩
  have hlz:(ceL ks l).length<=12:=by
   unfold ceL
   rw[lM_,List.length_zip]
   omega
  have hz:∀z∈ceL ks l,z.2.natAbs<=10 ^ 40:=λz hz=>by
   obtain⟨⟨k,t⟩,hp,rfl⟩:=mP_.mp hz
   obtain⟨t0,tw⟩:=qhR ks l hkd pv (k,t) hp
   show t.natAbs<=10 ^ 40
   rw[p2]at tw
   omega
  have w1:=qgh hg hlz
  have w2:=qm9 hg hlz q3 hz
  have w3:=qpM hg hlz q3 hz
  rw[s1,s2,q3]at w1
  rw[s1,s2,q4,p2]at w2
  rw[s1,s2,q5,p3]at w3
  have eL':L=some (ldD l):=congrArg some eL
  have eB':B=some (.int b):=congrArg some eB
  rw[eL',eB']
  refine(qj (ρ':=[T,Rm,some (ldD l),some (.int b),none]) (qhE (qrw (qpQ (qR (zR rfl rfl w1))) (qrw (qR (qh (zR rfl rfl w2) rfl (by rw[vO,decide_eq_true rfl];rfl))) (qR (qh (zR rfl rfl w3) rfl (by rw[vO,decide_eq_true rfl];rfl))))))).trans ?_
  obtain⟨m,em,hm⟩:=qiQ e
  have el:jO [.tup (ks.map kw),.int (r:Nat)]=.ok (.int m):=by
   rw[qbH h hl hr]
   unfold fD
   rw[em]
   rfl
  exact qhE (qpQ (b:=true) (qR (qmn (zR rfl rfl el) rfl (by rw[qbQ,decide_eq_true hm]) (zR rfl rfl (qh9 h hl hr)) (by
   show leD (.int b) (.int (zY ks (r:Nat)))=_
   rw[qbQ,decide_eq_true (qf3 e)]))))
end
def zL(l:List Nat):Nat:=l.getLast?.getD 0
theorem qs4 {k:Kd} (h:u6 k):kw (kwN (kn k))=kD k:=by
 show D.tup [.int ((kn k).1:Nat),.int ((kn k).2:Nat),.non]=D.tup [.int k.1,.int k.2.1,mD k.2.2]
 rw[kn1 h,kn2 h,h.2.2.2.2]
 rfl
theorem qnd (l:List Nat) {ρ:Env} (h:dv 1 ρ=.ok (qcm l,ρ)):dif (tst (d2 eqB (d2 ixD (dv 1) (ret (.int 0))) (ret (.str "last")))) (d2 ixD (dv 1) (ret (.int 1))) (ret (.int 0)) ρ=.ok (.int (zL l:Nat),ρ):=by
 unfold qcm at h
 unfold zL
 cases e:l.getLast? with
 |none=>
  rw[e]at h
  rw[qgH,qR (qh (qh h rfl rfl) rfl (show eqB (.str "none") (.str "last")=some (.bl false)from rfl))]
  rfl
 |some n=>
  rw[e]at h
  rw[qgH,qR (qh (qh h rfl rfl) rfl (show eqB (.str "last") (.str "last")=some (.bl true)from rfl))]
  show d2 ixD (dv 1) (ret (.int 1)) ρ=_
  exact qh h rfl rfl
theorem qk9 (l:List Nat) {ρ:Env} (h:dv 1 ρ=.ok (qcm l,ρ)):tst (d2 eqB (d2 ixD (dv 1) (ret (.int 0))) (ret (.str "ever"))) ρ=.ok (false,ρ):=by
 unfold qcm at h
 cases e:l.getLast? with
 |none=>
  rw[e]at h
  exact qR (qh (qh h rfl rfl) rfl (show eqB (.str "none") (.str "ever")=some (.bl false)from rfl))
 |some n=>
  rw[e]at h
  exact qR (qh (qh h rfl rfl) rfl (show eqB (.str "last") (.str "ever")=some (.bl false)from rfl))
theorem qd4 {α:Type} (p:α->Bool):∀l:List α,(l.filter p).length+(l.filter λa => !p a).length=l.length
 | []=>rfl
 |a::l=>by
  have:=qd4 p l
  rw[ft_,ft_,lC_]
  cases p a with
  |true=>simp only[if_true,Bool.not_true,ybr,if_false,lC_];omega
  |false=>simp only[if_true,yfG,ybr,if_false,lC_];omega
theorem qr3{f g:M D}{ρ:Env}(h:f ρ=.ok (.bl true,ρ)):dor f g ρ=.ok (.bl true,ρ):=by rw[qlX,h];rfl
theorem qr4{f g:M D}{ρ:Env}{d:D}(h:f ρ=.ok (.bl false,ρ))(hg:g ρ=.ok (d,ρ)):dor f g ρ=.ok (d,ρ):=by rw[qlX,h];exact hg
theorem qn8{f g:M D}{ρ:Env}{d:D}(h:f ρ=.ok (.bl true,ρ))(hg:g ρ=.ok (d,ρ)):qfj f g ρ=.ok (d,ρ):=by rw[qhr,h];exact hg
section
variable{ks:List Kd}(h:∀k∈ks,u6 k/\k.1<=9)(hl:ks.length<=4)(hne:0<ks.length)
include h
theorem qs5:(D.tup (ks.map kD))=.tup (((Ns ks).map kwN).map kw):=by
 rw[mm_,mm_]
 congr 1
 exact mL_ λk hk=>(qs4 (h k hk).1).symm
theorem qs6:∀k∈(Ns ks).map kwN,z5 k:=λk hk0=>by
 obtain⟨x,hx,rfl⟩:=mP_.mp hk0
 obtain⟨k,hk,rfl⟩:=mP_.mp hx
 have g:=(h k hk).1
 have g9:=(h k hk).2
 have e1:=kn1 g
 have e2:=kn2 g
 refine⟨⟨?_,?_⟩,⟨?_,?_⟩,λj e=>by cases e⟩
 ·show(1:Int)<=((kn k).1:Nat);rw[e1];exact g.1
 ·show(((kn k).1:Nat):Int)<=25;rw[e1];omega
 ·show(0:Int)<=((kn k).2:Nat);omega
 ·show(((kn k).2:Nat):Int)<=10 ^ 21;rw[e2];have:=g.2.2.2.1;omega
theorem qs7:(Ns ks).map (·.1)=qcB ks:=by
 unfold qcB Ns
 rw[mm_]
 rfl
include hl
theorem qeV {r:Nat} (hr:r<=200):jk [.tup (ks.map kD),.int (r:Nat)]=.ok (.bl (rch (qcB ks) r)):=by
 rw[qs5 h,qgg (qs6 h) (by rw[lM_,lM_];exact hl) hr,qkQ (qp2 λk hk=>(h k hk).1) hr,qs7 h]
theorem qs8:jf [.tup (ks.map kD),.int 200]=.ok (.lst (((yag 201).filter (rch (qcB ks))).map λi=>D.int (i:Nat))):=by
 have:=qn6 (qs6 h) (by rw[lM_,lM_];exact hl) (r:=200) (by omega)
 rw[qs5 h]
 refine this.trans ?_
 rw[qk8]
 congr 3
 unfold rmN
 refine ydr λi hi=>?_
 rw[qkQ (qp2 λk hk=>(h k hk).1) (by have:=mR_.mp hi;omega),qs7 h]
include hne
theorem qs9:qP [.tup (ks.map kD)]=.ok (.bl true):=by
 have hg:=λk hk=>(h k hk).1
 obtain⟨a1,a2,a3,a4⟩:=qia hg hne
 obtain⟨b1,b2,b3,b4⟩:=qk3 hg hne
 let T:OD:=some (.tup (ks.map kD))
 let ws:=qcB ks
 have hw9:∀x∈ws,0<x/\x<=9:=λx hx=>by
  obtain⟨k,hk,rfl⟩:=mP_.mp hx
  have:=(h k hk).1.1
  have:=(h k hk).2
  omega
 let N:=qg4 ks*qg5 ks
 let g:=ws.foldl yaS 0
 let l:=qf2 ws N
 have nf:=qb4 ks hg (by omega) hne
 have nm:=qdr ks hg (by omega) hne
 let To:OD:=some (qdE g l)
 let Mn:OD:=some (qeU g l)
 have s0:(qpV (qca %[qg j8 %[dv 0|0],qg uE %[dv 0|0]|0]) (qcJ 2 (zD (qq 1) (zD (qq 2) qcI)))) [T,none,none,none,none,none]=.ok (.nx [T,To,Mn,none,none,none]):=by
  rw[qjL,qsd (jd rfl nf) (jd rfl nm)]
  rfl
 by_cases hgt:1<g
 ·have e1:qdE g l=.tup [.str "ever",.int (g:Nat)]:=if_pos hgt
  have e2:qeU g l=.non:=if_pos hgt
  let ρ:Env:=[T,some (.tup [.str "ever",.int (g:Nat)]),some .non,none,none,none]
  have eρ:[T,To,Mn,none,none,none]=ρ:=by
   show [T,some (qdE g l),some (qeU g l),none,none,none]=_
   rw[e1,e2]
  rw[eρ]at s0
  unfold qP
  refine uG rfl ⟨ρ,?_⟩
  unfold jD
  refine(qj s0).trans (qbA ?_)
  rw[qrr (qR (qh (qh rfl rfl rfl) rfl (show eqB (.str "ever") (.str "ever")=some (.bl true)from rfl)))]
  have c:=qc2 (e:=d2 ixD (dv 0) (ret (.int 0))) (t:=tst (d2 neB (d2 qck (d2 ixD (dv 0) (ret (.int 0))) (d2 ixD (dv 1) (ret (.int 1)))) (ret (.int 0)))) (xs:=wx (dv 0)) (fr:=[1]) (ρ:=ρ) (r:=[some (.tup [.str "ever",.int (g:Nat)])]) (k:=kD) ks (λ_=>false) (λk=>D.int k.1) rfl rfl (by omega) (λk hk=>qR (qh (qh (qh rfl rfl (qaX k)) (qh rfl rfl rfl) (d:=.int 0) (by
   have gp:0<g:=by omega
   have dv:=(qeI ws 0).2 k.1.toNat (mP_.mpr ⟨k,hk,rfl⟩)
   have d2:(g:Int) ∣ k.1:=by
    have:=Int.ofNat_dvd.mpr dv
    rwa [qk2 (hg k hk)]at this
   rw[vC (by omega),Int.emod_eq_zero_of_dvd d2])) rfl rfl)) (λk hk e=>by cases e)
  have e0:(ks.filter λ_=>false)=[]:=List.filter_eq_nil_iff.mpr λ_ _=>by simp
  rw[e0,ycO]at c
  have c3:qpU (qg jk %[dv 0,ret (.int 1)|0]) ρ=.ok (.bl true,ρ):=by
   have:=qeV h hl (r:=1) (by omega)
   rw[qpz hgt]at this
   rw[qjH,zR rfl rfl this]
   rfl
  refine z8 (qn8 (qh rfl rfl rfl) (qn8 (qh c (qk5 ρ) rfl) c3))
 ·have g1:g=1:=by
   have d:=(qeI ws 0).2 _ a1
   have:=Nat.pos_of_dvd_of_pos d a2
   omega
  have e1:qdE g l=qcm l:=if_neg hgt
  have e2:qeU g l=.int (l.length:Nat):=if_neg hgt
  have hmin9:=hw9 _ a1
  have hmax9:qg5 ks<=9:=by
   obtain ⟨k,hk,e⟩:∃k∈ks,qbt (ks.map λk=>k.1)=k.1:=by
    have hm:qbt (ks.map λk=>k.1)∈ks.map λk=>k.1:=by
     cases ks with
     |nil=>exact absurd hne (yaT _)
     |cons k ks=>exact qaL _ _
    obtain⟨k,hk,e⟩:=mP_.mp hm
    exact⟨k,hk,e.symm⟩
   have:=(h k hk).2
   omega
  have hN:N<=81:=yaP (yeg hmin9.2 hmax9) (by omega)
  have hr:∀i,N<=i->rch ws i=true:=λi hi=>qmO a1 a2 b1 g1 hi
  let z:=zL l
  have zc:(l=[]/\z=0)\/(0<l.length/\z∈l):=by
   cases e:l with
   |nil=>exact .inl ⟨rfl,by show zL l=0;rw[e];rfl⟩
   |cons a r=>
    right
    refine⟨by simp,?_⟩
    show zL l∈a::r
    rw[e]
    unfold zL
    rw[List.getLast?_eq_some_getLast (by simp)]
    exact List.getLast_mem _
  have zlt:z<=80:=by
   rcases zc with⟨_,e⟩|⟨_,m⟩
   ·omega
   ·have:=mR_.mp (List.mem_filter.mp m).1
    omega
  have after:∀i,z<i->rch ws i=true:=λi hi=>by
   by_cases c:N<=i
   ·exact hr i c
   ·cases e:rch ws i with
    |true=>rfl
    | false=>
     have m:i∈l:=List.mem_filter.mpr ⟨mR_.mpr (by omega),by rw[e];rfl⟩
     have hne':l≠[]:=ygo m
     have ez:z=l.getLast hne':=by
      show zL l=_
      unfold zL
      rw[List.getLast?_eq_some_getLast hne']
      rfl
     have pw:l.Pairwise (·<·):=List.pairwise_lt_range.filter _
     have:=yef hne'
     rw[<-this]at m pw
     rcases mA_.mp m with m|m
     ·have:=(List.pairwise_append.mp pw).2.2 i m _ (ms_.mpr rfl)
      omega
     ·have:=ms_.mp m
      omega
  let rooms:=(yag 201).filter (rch ws)
  have cnt:l.length+rooms.length=201:=by
   have:=qd4 (rch ws) (yag 201)
   rw[lR_]at this
   have eg:l=(yag 201).filter λi => !rch ws i:=by
    have:=qc7 hr (201-N)
    rw[show N+(201-N)=201 by omega]at this
    exact this.symm
   rw[<-eg]at this
   show l.length+((yag 201).filter (rch ws)).length=201
   omega
  let ρ1:Env:=[T,some (qcm l),some (.int (l.length:Nat)),none,none,none]
  have eρ:[T,To,Mn,none,none,none]=ρ1:=by
   show [T,some (qdE g l),some (qeU g l),none,none,none]=_
   rw[e1,e2]
  rw[eρ]at s0
  let Z:OD:=some (.int (z:Nat))
  let RD:D:=.lst (rooms.map λi=>D.int (i:Nat))
  let ns:=ks.map λk=>k.1
  let Wt:D:=.lst ((v6 ns).map D.int)
  let ρ3:Env:=[T,some (qcm l),some (.int (l.length:Nat)),Z,some RD,none]
  let ρ4:Env:=[T,some (qcm l),some (.int (l.length:Nat)),Z,some RD,some Wt]
  unfold qP
  refine uG rfl ⟨ρ4,?_⟩
  unfold jD
  refine(qj s0).trans ((qj (qhE (qk9 l rfl))).trans ?_)
  refine(qj (ρ':=[T,some (qcm l),some (.int (l.length:Nat)),Z,none,none]) (j4 (qnd l rfl))).trans ?_
  refine(qj (ρ':=ρ3) (j4 (zR rfl rfl (qs8 h hl)))).trans ?_
  refine (qj (ρ':=ρ3) (qhE (qrw (qR (qh rfl rfl (b:=.int 180) (a:=.int (z:Nat)) (by rw[yY,decide_eq_false (by omega)]))) (qrw (qR (qh rfl (qh rfl (vE (a:=RD) rfl (d:=.int (rooms.length:Nat)) (by
   show some (D.int ((List.map (λi=>D.int (i:Nat)) rooms).length:Nat))=_
   rw[lM_])) (yG _ _)) (by rw[vO,decide_eq_true (by omega)];rfl))) ?_)))).trans ?_
  ·have cg:d2 gtD (dv 2) (ret (.int 0)) ρ3=.ok (.bl (decide ((l.length:Int)>0)),ρ3):=qh rfl rfl (yY _ _)
   rcases zc with⟨e,_⟩|⟨p,m⟩
   ·rw[decide_eq_false (by rw[e];simp)]at cg
    exact qrx (qR cg)
   ·rw [decide_eq_true (by omega)]at cg
    have hf:=qeV h hl (r:=z) (by omega)
    have hz:rch (qcB ks) z=false:=by
     have:=(List.mem_filter.mp m).2
     cases e:rch (qcB ks) z with
     |false=>rfl
     |true=>rw[show rch ws z=true from e]at this;cases this
    rw[hz]at hf
    exact qry (qR cg) (qR (zR rfl rfl hf))
  refine(qj (ρ':=ρ3) (qhE (qR ?_))).trans ?_
  ·have c:=qc2 (e:=dv 0) (t:=tst (d2 qp1 (dv 0) (dv 1))) (xs:=qfD %[d2 jB (dv 3) (ret (.int 1)),ret (.int 201)|0]) (fr:=[4]) (ρ:=ρ3) (r:=[some RD]) (k:=λi:Nat=>D.int ((z+1+i:Nat):Int)) (yag (200-z)) (λ_=>false) (λi=>D.int ((z+1+i:Nat):Int)) (by
    rw[qcW (i:=(z:Int)+1) (j:=201) (ρ1:=ρ3) (qfV (qh rfl rfl (qV _ _)) rfl) (by omega) (by omega) (by omega) (by omega),qhF,show((201:Int)-((z:Int)+1)).toNat=200-z by omega]
    rfl) rfl (by rw[lR_];omega) (λi hi=>qR (qh rfl rfl (by
     rw[qmI]
     have:=mR_.mp hi
     have a:(rooms.any λa=>decide (a=z+1+i))=true:=List.any_eq_true.mpr ⟨z+1+i,List.mem_filter.mpr ⟨mR_.mpr (by omega),after _ (by omega)⟩,decide_eq_true rfl⟩
     rw[a]
     rfl))) (λi hi e=>by cases e)
   have e0:((yag (200-z)).filter λ_=>false)=[]:=List.filter_eq_nil_iff.mpr λ_ _=>by simp
   rw[e0,ycO]at c
   exact qh c (qk5 ρ3) rfl
  refine(qj (ρ':=ρ4) ?_).trans ?_
  ·have c:=qa1 (e:=d2 ixD (dv 0) (ret (.int 0))) (xs:=wx (dv 0)) (fr:=[]) (ρ:=ρ3) (r:=[]) (k:=kD) ks (λk=>D.int k.1) rfl rfl (by omega) (λk hk=>qh rfl rfl (qaX k))
   have im:ks.map (λk=>D.int k.1)=ns.map D.int:=by show _=(ks.map λk=>k.1).map D.int;rw[mm_];rfl
   rw[im]at c
   have s:=qpl c (ul _) (by
    have:=qhT ns []
    have e:ns.length=ks.length:=lM_ _
    rw[lN_]at this
    omega)
   exact j4 s
  ·have cl:d2 neB (zB qbI %[dv 5|0]) (ret (.int 2)) ρ4=.ok (.bl (!decide (((v6 ns).length:Int)=2)),ρ4):=qh (vE (a:=Wt) rfl (d:=.int ((v6 ns).length:Nat)) (by
    show some (D.int ((List.map D.int (v6 ns)).length:Nat))=_
    rw[lM_])) rfl (vO _ _)
   by_cases c2:(v6 ns).length=2
   ·rw [decide_eq_true (by omega)]at cl
    obtain⟨a,b,es,hab,hm⟩:=two_of c2
    have eW:Wt=.lst [.int a,.int b]:=by show D.lst ((v6 ns).map D.int)=_;rw[es];rfl
    have i0:d2 ixD (dv 5) (ret (.int 0)) ρ4=.ok (.int a,ρ4):=qh (a:=.lst [.int a,.int b]) (by show R.ok (Wt,ρ4)=_;rw[eW]) rfl rfl
    have i1:d2 ixD (dv 5) (ret (.int 1)) ρ4=.ok (.int b,ρ4):=qh (a:=.lst [.int a,.int b]) (by show R.ok (Wt,ρ4)=_;rw[eW]) rfl rfl
    obtain⟨ka,hka,ea⟩:=mP_.mp ((hm a).mpr (.inl rfl))
    obtain⟨kb,hkb,eb⟩:=mP_.mp ((hm b).mpr (.inr rfl))
    have ga:=(h ka hka).1.1
    have gb:=(h kb hkb).2
    refine z8 (qr4 cl ?_)
    have ce:d2 eqB (d2 ixD (dv 5) (ret (.int 0))) (ret (.int 1)) ρ4=.ok (.bl (decide (a=1)),ρ4):=qh i0 rfl (qan _ _)
    by_cases c3:a=1
    ·rw[decide_eq_true c3]at ce
     exact qr3 ce
    ·rw [decide_eq_false c3]at ce
     refine qr4 ce (qh rfl (qh (qh (qh i0 i1 (qiL (qks (by omega) (by omega)))) i0 (yG _ _)) i1 (yG _ _)) ?_)
     have fr:=qt0 (ws:=ws) (a:=a.toNat) (b:=b.toNat) (N:=N) (by omega) (by omega) (by omega) (λx=>by
      constructor
      ·intro hx
       obtain⟨k,hk,e⟩:=mP_.mp hx
       have:=(hm k.1).mp (mP_.mpr ⟨k,hk,rfl⟩)
       omega
      ·intro hx
       rcases hx with rfl|rfl
       ·exact mP_.mpr ⟨ka,hka,by rw[ea]⟩
       ·exact mP_.mpr ⟨kb,hkb,by rw[eb]⟩) g1 hN hr
     have ez:z=a.toNat*b.toNat-a.toNat-b.toNat:=fr
     have em:((a.toNat*b.toNat:Nat):Int)=a*b:=by
      rw[ybe,show((a.toNat:Nat):Int)=a by omega,show((b.toNat:Nat):Int)=b by omega]
     have le:2*b.toNat<=a.toNat*b.toNat:=yd7 _ (by omega)
     rw[qan,decide_eq_true (by omega)]
   ·rw[decide_eq_false (by omega)]at cl
    exact z8 (qr3 cl)
end
theorem qne (ns:List Int) (i:Int) (h0:0<=i) (r:Env) (hr:r.length=3):∃r',r'.length=3/\(qG (qah 2 (qfw yy %[dv 0,dv 1|0])) (qG (sif (qco (tst (qg ze %[qD jQ 2 %[ret (.int 4)|0],qD qp 2 %[ret (.int 41)|0]|0]))) (jc (ret (.bl false))) wW) (qG (zG 3 (qD z4 2 %[ret (.int 4),ret (.int 9)|0])) (qG (sif (qco (tst (qg qP %[dv 3|0]))) (jc (ret (.bl false))) wW) (qG (zG 4 (qD qp 2 %[ret (.int 60)|0])) (sif (qle (tst (qg jk %[dv 3,dv 4|0])) (tst (d2 gtD (qg zl %[dv 3,dv 4|0]) (qg zN %[dv 3,dv 4|0])))) (jc (ret (.bl false))) wW)))))) ([some (.fz ns),some (.int i)]++r)=.ok (.nx ([some (.fz ns),some (.int i)]++r')):=by
 match r,hr with
 | [o2,o3,o4],_=>
  obtain⟨n,eb⟩:=qrJ ns i h0
  obtain⟨ks,n1,es,hk,hl⟩:=qgf n
  let rm:Nat:=(n1%41).toNat
  have hrm:rm<=200:=by show(n1%41).toNat<=200;omega
  have erm:n1%41=((rm:Nat):Int):=by show _=(((n1%41).toNat:Nat):Int);omega
  let n2:=n1/41
  obtain⟨es2,n3,ee,he,hel,hen⟩:=qiT 4 (by omega) 9 (by omega) n2
  have hel':es2.length<=4:=by omega
  let r6:Nat:=(n3%60).toNat
  have hr6:r6<=59:=by show(n3%60).toNat<=59;omega
  have er6:n3%60=((r6:Nat):Int):=by show _=(((n3%60).toNat:Nat):Int);omega
  let S:OD:=some (.fz ns)
  let I:OD:=some (.int i)
  let K:OD:=some (.tup (es2.map kD))
  let R6:OD:=some (.int (r6:Nat))
  let ρe:Env:=[S,I,some (.lst [.int (n3/60)]),K,R6]
  refine⟨[some (.lst [.int (n3/60)]),K,R6],rfl,?_⟩
  show(qG (qah 2 (qfw yy %[dv 0,dv 1|0])) (qG (sif (qco (tst (qg ze %[qD jQ 2 %[ret (.int 4)|0],qD qp 2 %[ret (.int 41)|0]|0]))) (jc (ret (.bl false))) wW) (qG (zG 3 (qD z4 2 %[ret (.int 4),ret (.int 9)|0])) (qG (sif (qco (tst (qg qP %[dv 3|0]))) (jc (ret (.bl false))) wW) (qG (zG 4 (qD qp 2 %[ret (.int 60)|0])) (sif (qle (tst (qg jk %[dv 3,dv 4|0])) (tst (d2 gtD (qg zl %[dv 3,dv 4|0]) (qg zN %[dv 3,dv 4|0])))) (jc (ret (.bl false))) wW)))))) [S,I,o2,o3,o4]=.ok (.nx ρe)
  refine(qj (ρ':=[S,I,some (.lst [.int n]),o3,o4]) ?_).trans ?_
  ·push_cast [S,I,eb,immFs,immF,immL,imm,yaG]
  refine(qj (ρ':=[S,I,some (.lst [.int n2]),o3,o4]) ?_).trans ?_
  ·have tk:qp [.int n1] [.int 41]=.ok (.int (rm:Nat),[.int n2]):=by
    have:=vW (n:=n1) (m:=41) (by decide) (by decide)
    rw[erm]at this
    exact this
   push_cast [es,tk,qs3 hk hl hrm]
  refine(qj (ρ':=[S,I,some (.lst [.int n3]),K,o4]) ?_).trans ?_
  ·push_cast [ee,K]
  refine(qj (ρ':=[S,I,some (.lst [.int n3]),K,o4]) ?_).trans ?_
  ·exact qhE (qpQ (b:=true) (qR (jd rfl (qs9 he hel' hen))))
  refine(qj (ρ':=ρe) ?_).trans ?_
  ·have tk:qp [.int n3] [.int 60]=.ok (.int (r6:Nat),[.int (n3/60)]):=by
    have:=vW (n:=n3) (m:=60) (by decide) (by decide)
    rw[er6]at this
    exact this
   push_cast [tk,ρe,R6]
  ·have hg:=λk hk=>(he k hk).1
   have hf:=qeV he hel' (r:=r6) (by omega)
   have cf:tst (qg jk %[dv 3,dv 4|0]) ρe=.ok (rch (qcB es2) r6,ρe):=qR (zR rfl rfl hf)
   refine qhE ?_
   cases c:rch (qcB es2) r6 with
   |false=>
    rw[c]at cf
    exact qrx cf
   | true=>
    rw[c]at cf
    refine qry cf (qR ?_)
    have hks:=qs6 he
    have hs:=qkL qaq (λk hk=>(hks k hk).kd) (r:=r6) (by omega)
    rw[qkQ (qp2 hg) (by omega),qs7 he,c]at hs
    obtain⟨b,eb⟩:=Option.isSome_iff_exists.mp hs
    have mf:zl [.tup (es2.map kD),.int (r6:Nat)]=.ok (.int b):=by
     rw[qs5 he,wv hks (by rw[lM_,lM_];exact hel') (by omega)]
     unfold fD
     rw[eb]
     rfl
    have ew:=qbF es2 hg (by omega) hen r6 (by omega)
    refine qh (zR rfl rfl mf) (zR rfl rfl ew) ?_
    rw[yY,decide_eq_false]
    have:=qrH (qp2 hg) eb
    omega
theorem qib (ns:List Int):∀(ds:List D)(o1:OD)(r:Env),r.length=3->(∀d∈ds,∃i:Int,d=.int i/\0<=i)->∃ρ,uH (qq 1) (qG (qah 2 (qfw yy %[dv 0,dv 1|0])) (qG (sif (qco (tst (qg ze %[qD jQ 2 %[ret (.int 4)|0],qD qp 2 %[ret (.int 41)|0]|0]))) (jc (ret (.bl false))) wW) (qG (zG 3 (qD z4 2 %[ret (.int 4),ret (.int 9)|0])) (qG (sif (qco (tst (qg qP %[dv 3|0]))) (jc (ret (.bl false))) wW) (qG (zG 4 (qD qp 2 %[ret (.int 60)|0])) (sif (qle (tst (qg jk %[dv 3,dv 4|0])) (tst (d2 gtD (qg zl %[dv 3,dv 4|0]) (qg zN %[dv 3,dv 4|0])))) (jc (ret (.bl false))) wW)))))) ds ([some (.fz ns),o1]++r)=.ok (.nx ρ)
 | [],o1,r,_,_=>⟨_,rfl⟩
 |d::ds,o1,r,hr,h=>by
  obtain⟨i,rfl,h0⟩:=h d mS_
  obtain⟨r',hr',e⟩:=qne ns i h0 r hr
  obtain⟨ρ,q⟩:=qib ns ds (some (.int i)) r' hr' λy hy=>h y (mM _ hy)
  refine⟨ρ,?_⟩
  unfold uH
  simp only[qq,ye3,yaJ,ycd,yde]at e |-
  simp only[e]
  exact q
theorem law_true (ns:List Int) (hn:ns.length<=63):qg1 [.fz ns]=.ok (.bl true):=by
 let j:Int:=if(if(3:Int)<(ns.length:Int) then(3:Int) else(ns.length:Int))>1 then(if(3:Int)<(ns.length:Int) then(3:Int) else(ns.length:Int))else 1
 have hj0:0<=j:=by simp only[j];split<;>split<;>omega
 have hj1:j<=6:=by simp only[j];split<;>split<;>omega
 obtain ⟨ρ,q⟩:=qib ns (qbK 0 j.toNat) none [none,none,none] rfl λd hd=>by
  unfold qbK at hd
  obtain⟨k,hk,rfl⟩:=mP_.mp hd
  exact⟨_,rfl,by omega⟩
 unfold qg1
 refine uG rfl ⟨ρ,?_⟩
 unfold qpA
 refine(qj (ρ':=ρ) ?_).trans rfl
 rw[vb,wD (j:=j) (ρ1:=[some (.fz ns),none,none,none,none]) ?_ hj0 (by omega)]
 ·exact q
 ·rfl
section
variable{P:yar}{w:World}{K:yas}{mg:Str->Option Value}{base:Heap}
variable{f:Addr}{fd:ybn}
set_option maxHeartbeats 4000000
theorem qa3:qm ["kind","room","alone"] ["kind","room"] (qd jU):=%[0|1]
section
variable(P:yar)(w:World)(K:Fr0)(mg:Str->Option Value)(base:Heap)
abbrev Q0:Prop:=qA P w K mg base 1 "most_within" ["kind","room"] (spD K ji)
abbrev Q1:Prop:=qA P w K mg base 1 "room_left" ["kind","times","room"] (spD K jj)
abbrev Q2:Prop:=qA P w K mg base 2 "many_with" ["kind","row","room"] (spD K ud)
abbrev Q3:Prop:=qA P w K mg base 3 "filling_counts" ["store","room"] (spD K zw)
abbrev Q4:Prop:=qA P w K mg base 1 "need_few" ["number"] (spD K qbV)
abbrev Q5:Prop:=qA P w K mg base 1 "is_whole" ["thing"] (spD K qaR)
abbrev Q6:Prop:=qA P w K mg base 2 "is_count" ["thing"] (spD K yu)
abbrev Q7:Prop:=qA P w K mg base 3 "need_count" ["thing"] (spD K uA)
abbrev Q8:Prop:=qA P w K mg base 3 "is_kind" ["thing"] (spD K qar)
abbrev Q9:Prop:=qA P w K mg base 4 "is_store" ["thing"] (spD K qaS)
abbrev Q10:Prop:=qA P w K mg base 5 "need_store" ["thing"] (spD K yw)
abbrev Q11:Prop:=qA P w K mg base 6 "need_asked" ["store","number"] (spD K zm)
abbrev Q12:Prop:=qA P w K mg base 7 "filled" ["store","room"] (spD K jk)
abbrev Q13:Prop:=qA P w K mg base 2 "filling_times" ["kind","row","room"] (spD K jM)
abbrev Q14:Prop:=qA P w K mg base 2 "worth_with" ["kind","times","row","room"] (spD K zn)
abbrev Q15:Prop:=qA P w K mg base 3 "filling_worths" ["kind","row","room"] (spD K qQ)
abbrev Q16:Prop:=qA P w K mg base 4 "most_rows" ["store","room"] (spD K ue)
abbrev Q17:Prop:=qA P w K mg base 7 "most_filling" ["store","room"] (spD K zl)
abbrev Q18:Prop:=qA P w K mg base 1 "rounds_taken" ["first","worths","room"] (spD K um)
abbrev Q19:Prop:=qA P w K mg base 1 "weights_product" ["store"] (spD K jW)
abbrev Q20:Prop:=qA P w K mg base 2 "lead_place" ["store"] (spD K vH)
abbrev Q21:Prop:=qA P w K mg base 3 "lead_kind" ["store"] (spD K ug)
abbrev Q22:Prop:=qA P w K mg base 1 "out_of_rounds" ["first","worths"] (spD K jb)
abbrev Q23:Prop:=qA P w K mg base 1 "heaviest" ["store"] (spD K yx)
abbrev Q24:Prop:=qA P w K mg base 4 "surely_in_rounds" ["store"] (spD K jC)
abbrev Q25:Prop:=qA P w K mg base 5 "small_worths" ["store"] (spD K uo)
abbrev Q26:Prop:=qA P w K mg base 6 "worths_before" ["store"] (spD K yI)
abbrev Q27:Prop:=qA P w K mg base 2 "need_light" ["store"] (spD K qat)
abbrev Q28:Prop:=qA P w K mg base 1 "need_endless" ["store"] (spD K vU)
abbrev Q29:Prop:=qA P w K mg base 6 "need_light_endless" ["store"] (spD K qM)
abbrev Q30:Prop:=qA P w K mg base 7 "need_endless_asked" ["store","room"] (spD K jY)
abbrev Q31:Prop:=qA P w K mg base 8 "endless_worth" ["store","room"] (spD K zN)
abbrev Q32:Prop:=qA P w K mg base 1 "_law_take" ["box","many"] (qlf K qp)
abbrev Q33:Prop:=qA P w K mg base 7 "all_filled" ["store","room"] (spD K jf)
abbrev Q34:Prop:=qA P w K mg base 1 "greatest_divisor" ["one","other"] (spD K zq)
abbrev Q35:Prop:=qA P w K mg base 2 "weights_divisor" ["store"] (spD K zd)
abbrev Q36:Prop:=qA P w K mg base 2 "never_rooms" ["store"] (spD K jm)
abbrev Q37:Prop:=qA P w K mg base 7 "never_many" ["store"] (spD K uE)
abbrev Q38:Prop:=qA P w K mg base 7 "never_filled" ["store"] (spD K j8)
abbrev Q39:Prop:=qA P w K mg base 8 "_law_never_right" ["store"] (spD K qP)
abbrev Q40:Prop:=qA P w K mg base 2 "_law_endless" ["box","most","heaviest_v"] (qlf K z4)
abbrev Q41:Prop:=qA P w K mg base 3 "best_with" ["kind","row","room"] (spD K ui)
abbrev Q42:Prop:=qA P w K mg base 4 "best_rows" ["store","room"] (spD K wJ)
abbrev Q43:Prop:=qA P w K mg base 7 "best_worths" ["store","room"] (spD K uT)
abbrev Q44:Prop:=qA P w K mg base 8 "best_worth" ["store","room"] (spD K jN)
abbrev Q45:Prop:=qA P w K mg base 7 "least_filling" ["store","room"] (spD K jO)
abbrev Q46:Prop:=qA P w K mg base 3 "can_take" ["kind","times"] (spD K u5)
abbrev Q47:Prop:=qA P w K mg base 6 "is_load" ["thing","store"] (spD K wp)
abbrev Q48:Prop:=qA P w K mg base 1 "taken_together" ["store","load","part"] (spD K jt)
abbrev Q49:Prop:=qA P w K mg base 7 "need_load" ["store","thing"] (spD K wL)
abbrev Q50:Prop:=qA P w K mg base 8 "weight" ["store","load"] (spD K qcA)
abbrev Q51:Prop:=qA P w K mg base 8 "worth" ["store","load"] (spD K qeM)
abbrev Q52:Prop:=qA P w K mg base 7 "fills_many" ["store","room"] (spD K vI)
abbrev Q53:Prop:=qA P w K mg base 3 "fewest_of_most" ["kind","most","row","room"] (spD K zU)
abbrev Q54:Prop:=qA P w K mg base 7 "fill" ["store","room"] (spD K qhV)
abbrev Q55:Prop:=qA P w K mg base 9 "_law_room_right" ["store","room"] (spD K ze)
abbrev Q56:Prop:=qA P w K mg base 2 "_law_store" ["box","most"] (qlf K jQ)
abbrev Q57:Prop:=qA P w K mg base 1 "_law_box" ["script","k"] (spD K yy)
end
theorem q0 (F:Fun K "most_within" "most_within" jU f fd) (m:mg "most_within"=some (.ref f)) (T:Txt K mg):Q0 P w K mg base:=by
 refine %[f,fd,m,F,[_,_]|2]
 exact qs (N:=["kind","room","alone"]) (O:=[]) (body:=wE) F qa3 (by decide) λcdv A outer s H E B hr=>(qf (qK (i:=2) qa3.nd (qr qd6 qcp (qc 1) (qI qv qu (qc 0) (gI T.c_WEIGHT))))
   (qi (qy (qlz (zg qb9 qaf (qI qv qu (qc 0) (gI T.c_MOST)) yB (qE _)) (qc 2) (qN (qe7 rfl) qfn rfl T.b_min qfx (qb (qc 2) (qb (qI qv qu (qc 0) (gI T.c_MOST)) qe)))))))
theorem qgi:qm ["kind","times","room"] ["kind","times","room"] (qd y7):=%[0|1]
theorem q1 (F:Fun K "room_left" "room_left" y7 f fd) (m:mg "room_left"=some (.ref f)) (T:Txt K mg):Q1 P w K mg base:=by
 refine %[f,fd,m,F,[_,_,_]|2]
 exact qs (N:=["kind","times","room"]) (O:=[]) (body:=qbd) F qgi (by decide) λcdv A outer s H E B hr=>(qi (qy (qr qab u8 (qc 2) (qr jz zQ (qc 1) (qI qv qu (qc 0) (gI T.c_WEIGHT))))))
theorem qgj:qm ["kind","row","room"] ["kind","row","room"] (qd yc):=%[0|1]
theorem q2 (F:Fun K "many_with" "many_with" yc f fd) (m:mg "many_with"=some (.ref f)) (T:Txt K mg) (Cr:Q0 P w K mg base) (Ci:Q1 P w K mg base):Q2 P w K mg base:=by
 refine %[f,fd,m,F,[_,_,_]|2]
 exact qs (N:=["kind","row","room"]) (O:=[]) (body:=qbe) F qgj (by decide) λcdv A outer s H E B hr=>(qi (qy (qN (qhm rfl) qfr rfl T.b_sum qnF (qb (zH (fo:=none) rfl (jr rfl T.b_range (qb (qr qS qT (dC Cr hr (qb (qc 0) (qb (qc 2) qe))) qk) qe)) (cs ["kind","row","room"] ["times","row","kind","room"] 1 [1,0,2] (qd yc)) (f0 [1,0,2] []) (λ_ _ _ _ _ _ _ _ _ _ _=>⟨(qw (i:=0) (nd ["times","row","kind","room"])),yS,(qI qv qu (qc 1) (dC Ci hr (qb (qc 2) (qb (qc 0) (qb (qc 3) qe)))))⟩)) qe))))
theorem jX:qm ["store","room","row","kind"] ["store","room"] (qd zr):=%[0|1]
theorem q3 (F:Fun K "filling_counts" "filling_counts" zr f fd) (m:mg "filling_counts"=some (.ref f)) (T:Txt K mg) (CT:Q2 P w K mg base):Q3 P w K mg base:=by
 refine %[f,fd,m,F,[_,_]|2]
 exact qs (N:=["store","room","row","kind"]) (O:=[]) (body:=uL) F jX (by decide) λcdv A outer s H E B hr=>(qf (qK (i:=2) jX.nd (qr qS qT (vv (qb qk qe)) (qr jz zQ (vv (qb qk qe)) (qc 1))))
   (qf (v0 ya0 rfl (uv (qc 0)) (qw (i:=3) jX.nd) (qi (qK (i:=2) jX.nd (zH (fo:=none) rfl (jr rfl T.b_range (qb (qr qS qT (qc 1) qk) qe)) (cs ["store","room","row","kind"] ["size","kind","row"] 1 [3,2] (qd zr)) (f0 [3,2] []) (λ_ _ _ _ _ _ _ _ _ _ _=>⟨(qw (i:=0) (nd ["size","kind","row"])),yS,(dC CT hr (qb (qc 1) (qb (qc 2) (qb (qc 0) qe))))⟩)))))
   (qi (qy (qc 2)))))
theorem qg7:qm ["number"] ["number"] (qd uW):=%[0|1]
theorem q4 (F:Fun K "need_few" "need_few" uW f fd) (m:mg "need_few"=some (.ref f)) (T:Txt K mg):Q4 P w K mg base:=by
 refine %[f,fd,m,F,[_]|2]
 exact qs (N:=["number"]) (O:=[]) (body:=wm) F qg7 (by decide) λcdv A outer s H E B hr=>(qi (uu (zg qci wU (qc 0) (gI T.c_ASKED_AT_MOST) (qE _)) (qi v4) qO))
theorem qg8:qm ["thing"] ["thing"] (qd uX):=%[0|1]
theorem q5 (F:Fun K "is_whole" "is_whole" uX f fd) (m:mg "is_whole"=some (.ref f)) (T:Txt K mg):Q5 P w K mg base:=by
 refine %[f,fd,m,F,[_]|2]
 exact qs (N:=["thing"]) (O:=[]) (body:=qbW) F qg8 (by decide) λcdv A outer s H E B hr=>(qi (qy (qcH (qfq qoE rfl T.b_isinstance rfl T.b_int qq5 (qc 0) yD) (qbn (qnq (qfq qlF rfl T.b_isinstance rfl T.b_bool qoV (qc 0) yD))))))
theorem qg9:qm ["thing"] ["thing"] (qd uY):=%[0|1]
theorem q6 (F:Fun K "is_count" "is_count" uY f fd) (m:mg "is_count"=some (.ref f)) (T:Txt K mg) (C5:Q5 P w K mg base):Q6 P w K mg base:=by
 refine %[f,fd,m,F,[_]|2]
 exact qs (N:=["thing"]) (O:=[]) (body:=qbX) F qg9 (by decide) λcdv A outer s H E B hr=>(qi (qy (qcH (dC C5 hr (qb (qc 0) qe)) (qbn (ut qsy qqN (qc 0) qk (qE _))))))
theorem qeW:qm ["thing"] ["thing"] (qd yj):=%[0|1]
theorem q7 (F:Fun K "need_count" "need_count" yj f fd) (m:mg "need_count"=some (.ref f)) (T:Txt K mg) (Ck:Q6 P w K mg base):Q7 P w K mg base:=by
 refine %[f,fd,m,F,[_]|2]
 exact qs (N:=["thing"]) (O:=[]) (body:=uz) F qeW (by decide) λcdv A outer s H E B hr=>(qi (uu (vZ (vx (dC Ck hr (qb (qc 0) qe)))) (qi v4) qO))
theorem qiX:qm ["thing"] ["thing"] (qd wj):=%[0|1]
theorem q8 (F:Fun K "is_kind" "is_kind" wj f fd) (m:mg "is_kind"=some (.ref f)) (T:Txt K mg) (Ck:Q6 P w K mg base):Q8 P w K mg base:=by
 refine %[f,fd,m,F,[_]|2]
 exact qs (N:=["thing"]) (O:=[]) (body:=qde) F qiX (by decide) λcdv A outer s H E B hr=>(qf (uu (DW.dt (qdy (vZ (vx (qfq qcM rfl T.b_isinstance rfl T.b_tuple wA (qc 0) yD))) (qcb (zg (wX hr) uJ (qN jp jq rfl T.b_len wV (qb (qc 0) qe)) qk (qE _))))) (qi (qy qa4)) qO)
   (qf (uu (DW.dt (qdy (vZ (vx (dC Ck hr (qb (qI qv qu (qc 0) (gI T.c_WEIGHT)) qe)))) (qcb (zg (qaj hr) va (qI qv qu (qc 0) (gI T.c_WEIGHT)) qk (qE _))))) (qi (qy qa4)) qO)
   (qi (qy (qcH (dC Ck hr (qb (qI qv qu (qc 0) (gI T.c_WORTH)) qe)) (qbn (qly (ut qb9 qaf (qI qv qu (qc 0) (gI T.c_MOST)) yB (qE _)) (qbn (dC Ck hr (qb (qI qv qu (qc 0) (gI T.c_MOST)) qe))))))))))
theorem qha:qm ["thing"] ["thing"] (qd y8):=%[0|1]
theorem q9 (F:Fun K "is_store" "is_store" y8 f fd) (m:mg "is_store"=some (.ref f)) (T:Txt K mg) (C0:Q8 P w K mg base):Q9 P w K mg base:=by
 refine %[f,fd,m,F,[_]|2]
 exact qs (N:=["thing"]) (O:=[]) (body:=qbY) F qha (by decide) λcdv A outer s H E B hr=>(qf (uu (DW.dt (qdy (vZ (vx (qfq qcM rfl T.b_isinstance rfl T.b_tuple wA (qc 0) yD))) (qcb (zg qci wU (qN jp jq rfl T.b_len wV (qb (qc 0) qe)) (gI T.c_KINDS_AT_MOST) (qE _))))) (qi (qy qa4)) qO)
   (qi (qy (qN (qee rfl) qcN rfl T.b_all qjE (qb (zH (fo:=none) rfl (uv (qc 0)) (cs ["thing"] ["part"] 1 [] (qd y8)) (f0 [] []) (λ_ _ _ _ _ _ _ _ _ _ _=>⟨(qw (i:=0) (nd ["part"])),yS,(dC C0 hr (qb (qc 0) qe))⟩)) qe)))))
theorem qeX:qm ["thing"] ["thing"] (qd yk):=%[0|1]
theorem q10 (F:Fun K "need_store" "need_store" yk f fd) (m:mg "need_store"=some (.ref f)) (T:Txt K mg) (CY:Q9 P w K mg base):Q10 P w K mg base:=by
 refine %[f,fd,m,F,[_]|2]
 exact qs (N:=["thing"]) (O:=[]) (body:=uB) F qeX (by decide) λcdv A outer s H E B hr=>(qi (uu (vZ (vx (dC CY hr (qb (qc 0) qe)))) (qi v4) qO))
theorem qeY:qm ["store","number"] ["store","number"] (qd ym):=%[0|1]
theorem q11 (F:Fun K "need_asked" "need_asked" ym f fd) (m:mg "need_asked"=some (.ref f)) (T:Txt K mg) (CZ:Q4 P w K mg base) (CA:Q7 P w K mg base) (Ch:Q10 P w K mg base):Q11 P w K mg base:=by
 refine %[f,fd,m,F,[_,_]|2]
 exact qs (N:=["store","number"]) (O:=[]) (body:=uC) F qeY (by decide) λcdv A outer s H E B hr=>(qf (qU (dC Ch hr (qb (qc 0) qe)))
   (qf (qU (dC CA hr (qb (qc 1) qe)))
   (qi (qU (dC CZ hr (qb (qc 1) qe))))))
theorem qla:qm ["store","room"] ["store","room"] (qd qaP):=%[0|1]
theorem q12 (F:Fun K "filled" "filled" qaP f fd) (m:mg "filled"=some (.ref f)) (T:Txt K mg) (Co:Q3 P w K mg base) (Cb:Q11 P w K mg base):Q12 P w K mg base:=by
 refine %[f,fd,m,F,[_,_]|2]
 exact qs (N:=["store","room"]) (O:=[]) (body:=qeK) F qla (by decide) λcdv A outer s H E B hr=>(qf (qU (dC Cb hr (qb (qc 0) (qb (qc 1) qe))))
   (qi (qy (ut qci wU (qI qv qu (dC Co hr (qb (qc 0) (qb (qc 1) qe))) (qc 1)) qk (qE _)))))
theorem w9:qm ["kind","row","room","last"] ["kind","row","room"] (qd zJ):=%[0|1]
theorem q13 (F:Fun K "filling_times" "filling_times" zJ f fd) (m:mg "filling_times"=some (.ref f)) (T:Txt K mg) (Ci:Q1 P w K mg base) (Cr:Q0 P w K mg base):Q13 P w K mg base:=by
 refine %[f,fd,m,F,[_,_,_]|2]
 exact qs (N:=["kind","row","room","last"]) (O:=[]) (body:=vg) F w9 (by decide) λcdv A outer s H E B hr=>(qf (qK (i:=3) w9.nd (dC Cr hr (qb (qc 0) (qb (qc 2) qe))))
   (qi (qy (zH (fo:=none) rfl (jr rfl T.b_range (qb (qr qS qT (qc 3) qk) qe)) (cs ["kind","row","room","last"] ["times","row","kind","room"] 1 [1,0,2] (qd zJ)) (f0 [1,0,2] []) (λ_ _ _ _ _ _ _ _ _ _ _=>⟨(qw (i:=0) (nd ["times","row","kind","room"])),(qcd (zg qgp qed (qI qv qu (qc 1) (dC Ci hr (qb (qc 2) (qb (qc 0) (qb (qc 3) qe))))) yB (qE _))),(qc 0)⟩)))))
theorem qeZ:qm ["kind","times","row","room"] ["kind","times","row","room"] (qd yn):=%[0|1]
theorem q14 (F:Fun K "worth_with" "worth_with" yn f fd) (m:mg "worth_with"=some (.ref f)) (T:Txt K mg) (Ci:Q1 P w K mg base):Q14 P w K mg base:=by
 refine %[f,fd,m,F,[_,_,_,_]|2]
 exact qs (N:=["kind","times","row","room"]) (O:=[]) (body:=vG) F qeZ (by decide) λcdv A outer s H E B hr=>(qi (qy (qr qS qT (qr qeo qcu (qc 1) (qI qv qu (qc 0) (gI T.c_WORTH))) (qI qv qu (qc 2) (dC Ci hr (qb (qc 0) (qb (qc 1) (qb (qc 3) qe))))))))
theorem qb5:qm ["kind","row","room"] ["kind","row","room"] (qd zt):=%[0|1]
theorem q15 (F:Fun K "filling_worths" "filling_worths" zt f fd) (m:mg "filling_worths"=some (.ref f)) (T:Txt K mg) (CF:Q13 P w K mg base) (Cs:Q14 P w K mg base):Q15 P w K mg base:=by
 refine %[f,fd,m,F,[_,_,_]|2]
 exact qs (N:=["kind","row","room"]) (O:=[]) (body:=uM) F qb5 (by decide) λcdv A outer s H E B hr=>(qi (qy (zH (fo:=none) rfl (uv (dC CF hr (qb (qc 0) (qb (qc 1) (qb (qc 2) qe))))) (cs ["kind","row","room"] ["times","kind","row","room"] 1 [0,1,2] (qd zt)) (f0 [0,1,2] []) (λ_ _ _ _ _ _ _ _ _ _ _=>⟨(qw (i:=0) (nd ["times","kind","row","room"])),yS,(dC Cs hr (qb (qc 1) (qb (qc 0) (qb (qc 2) (qb (qc 3) qe)))))⟩))))
theorem qaC:qm ["store","room","rows","kind"] ["store","room"] (qd yd):=%[0|1]
theorem q16 (F:Fun K "most_rows" "most_rows" yd f fd) (m:mg "most_rows"=some (.ref f)) (T:Txt K mg) (CC:Q15 P w K mg base):Q16 P w K mg base:=by
 refine %[f,fd,m,F,[_,_]|2]
 exact qs (N:=["store","room","rows","kind"]) (O:=[2]) (body:=qbf) F qaC (by decide) λcdv A outer s H E B hr=>(qf (qai (i:=2) qaC.nd (qke (qb (qr qS qT (vv (qb qk qe)) (qr jz zQ (vv (qb yB qe)) (qc 1))) qe)))
   (qf (v0 ya0 rfl (qnO rfl T.b_reversed (qb (qc 0) qe)) (qw (i:=3) qaC.nd) (qi (qU (qfM (i:=2) (zH (fo:=(some (2,2))) rfl (jr rfl T.b_range (qb (qr qS qT (qc 1) qk) qe)) (cs ["store","room","rows","kind"] ["size","kind","rows"] 1 [3,2] (qd yd)) (f1 1 [3,2] [2] 2 2) (λ_ _ _ _ _ _ _ _ _ _ _=>⟨(qw (i:=0) (nd ["size","kind","rows"])),yS,(qbu (qcY rfl) qbO rfl T.b_max qdL (qb (dC CC hr (qb (qc 1) (qb (qft (i:=2) qk) (qb (qc 0) qe)))) qe) (qen yB qhx))⟩))))))
   (qi (qgC (i:=2)))))
theorem qds:qm ["store","room"] ["store","room"] (qd jv):=%[0|1]
theorem q17 (F:Fun K "most_filling" "most_filling" jv f fd) (m:mg "most_filling"=some (.ref f)) (T:Txt K mg) (Cv:Q16 P w K mg base) (Cb:Q11 P w K mg base):Q17 P w K mg base:=by
 refine %[f,fd,m,F,[_,_]|2]
 exact qs (N:=["store","room"]) (O:=[]) (body:=vQ) F qds (by decide) λcdv A outer s H E B hr=>(qf (qU (dC Cb hr (qb (qc 0) (qb (qc 1) qe))))
   (qi (qy (qI qv qu (qI qv qu (dC Cv hr (qb (qc 0) (qb (qc 1) qe))) qk) (qc 1)))))
theorem qdt:qm ["first","worths","room"] ["first","worths","room"] (qd jw):=%[0|1]
theorem q18 (F:Fun K "rounds_taken" "rounds_taken" jw f fd) (m:mg "rounds_taken"=some (.ref f)) (T:Txt K mg):Q18 P w K mg base:=by
 refine %[f,fd,m,F,[_,_,_]|2]
 exact qs (N:=["first","worths","room"]) (O:=[]) (body:=vR) F qdt (by decide) λcdv A outer s H E B hr=>(qf (uu (zg qqu qns (qc 2) (qN jp jq rfl T.b_len wV (qb (qc 1) qe)) (qE _)) (qi (qy qk)) qO)
   (qi (qy (qr qS qT (qr qd6 qcp (qr qab u8 (qc 2) (qN jp jq rfl T.b_len wV (qb (qc 1) qe))) (qI qv qu (qc 0) (gI T.c_WEIGHT))) qk))))
theorem jE:qm ["store","product","kind"] ["store"] (qd zE):=%[0|1]
theorem q19 (F:Fun K "weights_product" "weights_product" zE f fd) (m:mg "weights_product"=some (.ref f)) (T:Txt K mg):Q19 P w K mg base:=by
 refine %[f,fd,m,F,[_]|2]
 exact qs (N:=["store","product","kind"]) (O:=[]) (body:=uf) F jE (by decide) λcdv A outer s H E B hr=>(qf (qK (i:=1) jE.nd qk)
   (qf (v0 ya0 rfl (uv (qc 0)) (qw (i:=2) jE.nd) (qi (qK (i:=1) jE.nd (qr jz zQ (qc 1) (qI qv qu (qc 2) (gI T.c_WEIGHT))))))
   (qi (qy (qc 1)))))
theorem wR:qm ["store","product","ranks"] ["store"] (qd je):=%[0|1]
theorem q20 (F:Fun K "lead_place" "lead_place" je f fd) (m:mg "lead_place"=some (.ref f)) (T:Txt K mg) (CK:Q19 P w K mg base):Q20 P w K mg base:=by
 refine %[f,fd,m,F,[_]|2]
 exact qs (N:=["store","product","ranks"]) (O:=[]) (body:=qas) F wR (by decide) λcdv A outer s H E B hr=>(qf (qK (i:=1) wR.nd (dC CK hr (qb (qc 0) qe)))
   (qf (qjV (i:=2) wR.nd (qjU (fo:=none) rfl (uv (qc 0)) (cs ["store","product","ranks"] ["kind","product"] 1 [1] (qd je)) (f0 [1] []) (λ_ _ _ _ _ _ _ _ _ _ _=>⟨(qw (i:=0) (nd ["kind","product"])),yS,(qbl (qb (qr jz zQ (qjD (qI qv qu (qc 0) (gI T.c_WORTH))) (qr qd6 qcp (qc 1) (qI qv qu (qc 0) (gI T.c_WEIGHT)))) (qb (qI qv qu (qc 0) (gI T.c_WEIGHT)) qe)))⟩)) rfl (cs ["store","product","ranks"] ["kind","product"] 1 [1] (qd je)))
   (qi (qy (qo3 ye9 ql2 (qj2 hr) qfG (qc 2) (qb (qN (qfE hr rfl) qdO rfl T.b_min qfx (qb (qc 2) qe)) qe))))))
theorem qgk:qm ["store"] ["store"] (qd y9):=%[0|1]
theorem q21 (F:Fun K "lead_kind" "lead_kind" y9 f fd) (m:mg "lead_kind"=some (.ref f)) (T:Txt K mg) (C8:Q20 P w K mg base):Q21 P w K mg base:=by
 refine %[f,fd,m,F,[_]|2]
 exact qs (N:=["store"]) (O:=[]) (body:=qbg) F qgk (by decide) λcdv A outer s H E B hr=>(qi (qy (qI qv qu (qc 0) (dC C8 hr (qb (qc 0) qe)))))
theorem qaa:qm ["first","worths","weight"] ["first","worths"] (qd zK):=%[0|1]
theorem q22 (F:Fun K "out_of_rounds" "out_of_rounds" zK f fd) (m:mg "out_of_rounds"=some (.ref f)) (T:Txt K mg):Q22 P w K mg base:=by
 refine %[f,fd,m,F,[_,_]|2]
 exact qs (N:=["first","worths","weight"]) (O:=[]) (body:=vh) F qaa (by decide) λcdv A outer s H E B hr=>(qf (qK (i:=2) qaa.nd (qI qv qu (qc 0) (gI T.c_WEIGHT)))
   (qi (qy (zH (fo:=none) rfl (qcV rfl T.b_range (qb (qc 2) (qb (qN jp jq rfl T.b_len wV (qb (qc 1) qe)) qe))) (cs ["first","worths","weight"] ["room","worths","first","weight"] 1 [1,0,2] (qd zK)) (f0 [1,0,2] []) (λ_ _ _ _ _ _ _ _ _ _ _=>⟨(qw (i:=0) (nd ["room","worths","first","weight"])),(qcd (zg (wX hr) uJ (qI qv qu (qc 1) (qc 0)) (qr qS qT (qI qv qu (qc 1) (qr qab u8 (qc 0) (qc 3))) (qI qv qu (qc 2) (gI T.c_WORTH))) (qE _))),(qc 0)⟩)))))
theorem qhb:qm ["store"] ["store"] (qd ua):=%[0|1]
theorem q23 (F:Fun K "heaviest" "heaviest" ua f fd) (m:mg "heaviest"=some (.ref f)) (T:Txt K mg):Q23 P w K mg base:=by
 refine %[f,fd,m,F,[_]|2]
 exact qs (N:=["store"]) (O:=[]) (body:=qbZ) F qhb (by decide) λcdv A outer s H E B hr=>(qi (qy (qN (qfB rfl) qdM rfl T.b_max qdL (qb (zH (fo:=none) rfl (uv (qc 0)) (cs ["store"] ["kind"] 1 [] (qd ua)) (f0 [] []) (λ_ _ _ _ _ _ _ _ _ _ _=>⟨(qw (i:=0) (nd ["kind"])),yS,(qI qv qu (qc 0) (gI T.c_WEIGHT))⟩)) qe))))
theorem vp:qm ["store","weight"] ["store"] (qd zo):=%[0|1]
theorem q24 (F:Fun K "surely_in_rounds" "surely_in_rounds" zo f fd) (m:mg "surely_in_rounds"=some (.ref f)) (T:Txt K mg) (Cq:Q23 P w K mg base) (Cm:Q21 P w K mg base):Q24 P w K mg base:=by
 refine %[f,fd,m,F,[_]|2]
 exact qs (N:=["store","weight"]) (O:=[]) (body:=yH) F vp (by decide) λcdv A outer s H E B hr=>(qf (qK (i:=1) vp.nd (qI qv qu (dC Cm hr (qb (qc 0) qe)) (gI T.c_WEIGHT)))
   (qi (qy (qr qS qT (qc 1) (qr jz zQ (qr qab u8 (qc 1) qk) (dC Cq hr (qb (qc 0) qe)))))))
theorem yO:qm ["store","worths","room","fitting"] ["store"] (qd zj):=%[0|1]
theorem q25 (F:Fun K "small_worths" "small_worths" zj f fd) (m:mg "small_worths"=some (.ref f)) (T:Txt K mg) (C1:Q24 P w K mg base):Q25 P w K mg base:=by
 refine %[f,fd,m,F,[_]|2]
 exact qs (N:=["store","worths","room","fitting"]) (O:=[1]) (body:=vT) F yO (by decide) λcdv A outer s H E B hr=>(qf (qai (i:=1) yO.nd (qfs qe))
   (qf (v0 ya0 rfl (jr rfl T.b_range (qb (dC C1 hr (qb (qc 0) qe)) qe)) (qw (i:=2) yO.nd) (qf (qjV (i:=3) yO.nd (qjU (fo:=none) rfl (uv (qc 0)) (cs ["store","worths","room","fitting"] ["kind","room"] 1 [2] (qd zj)) (f0 [2] [1]) (λ_ _ _ _ _ _ _ _ _ _ _=>⟨(qw (i:=0) (nd ["kind","room"])),(qcd (zg qjc qfl (qI qv qu (qc 0) (gI T.c_WEIGHT)) (qc 1) (qE _))),(qc 0)⟩)) rfl (cs ["store","worths","room","fitting"] ["kind","room"] 1 [2] (qd zj)))
   (qi (qU (qag (i:=1) (qbu (qcY rfl) qbO rfl T.b_max qdL (qb (zH (fo:=(some (1,1))) rfl (uv (qc 3)) (cs ["store","worths","room","fitting"] ["kind","worths","room"] 1 [1,2] (qd zj)) (f1 1 [1,2] [1] 1 1) (λ_ _ _ _ _ _ _ _ _ _ _=>⟨(qw (i:=0) (nd ["kind","worths","room"])),yS,(qr qS qT (qft (i:=1) (qr qab u8 (qc 2) (qI qv qu (qc 0) (gI T.c_WEIGHT)))) (qI qv qu (qc 0) (gI T.c_WORTH)))⟩)) qe) (qen qk qhx)))))))
   (qi (qgC (i:=1)))))
theorem uQ:qm ["store","worths","first"] ["store"] (qd z9):=%[0|1]
theorem q26 (F:Fun K "worths_before" "worths_before" z9 f fd) (m:mg "worths_before"=some (.ref f)) (T:Txt K mg) (CQ:Q22 P w K mg base) (Cm:Q21 P w K mg base) (CO:Q25 P w K mg base):Q26 P w K mg base:=by
 refine %[f,fd,m,F,[_]|2]
 exact qs (N:=["store","worths","first"]) (O:=[]) (body:=vi) F uQ (by decide) λcdv A outer s H E B hr=>(qf (qK (i:=1) uQ.nd (dC CO hr (qb (qc 0) qe)))
   (qf (qK (i:=2) uQ.nd (dC Cm hr (qb (qc 0) qe)))
   (qi (qy (qka (qc 1) qoF (qoG (qr qS qT (qbu (qcY rfl) qbO rfl T.b_max qdL (qb (dC CQ hr (qb (qc 2) (qb (qc 1) qe))) qe) (qen (qr qab u8 (qI qv qu (qc 2) (gI T.c_WEIGHT)) qk) qhx)) qk)))))))
theorem qe0:qm ["store"] ["store"] (qd yo):=%[0|1]
theorem q27 (F:Fun K "need_light" "need_light" yo f fd) (m:mg "need_light"=some (.ref f)) (T:Txt K mg) (Cq:Q23 P w K mg base):Q27 P w K mg base:=by
 refine %[f,fd,m,F,[_]|2]
 exact qs (N:=["store"]) (O:=[]) (body:=uD) F qe0 (by decide) λcdv A outer s H E B hr=>(qi (uu (zg qci wU (dC Cq hr (qb (qc 0) qe)) (gI T.c_WEIGHT_AT_MOST) (qE _)) (qi v4) qO))
theorem qdu:qm ["store"] ["store"] (qd zZ):=%[0|1]
theorem q28 (F:Fun K "need_endless" "need_endless" zZ f fd) (m:mg "need_endless"=some (.ref f)) (T:Txt K mg):Q28 P w K mg base:=by
 refine %[f,fd,m,F,[_]|2]
 exact qs (N:=["store"]) (O:=[]) (body:=j7) F qdu (by decide) λcdv A outer s H E B hr=>(qi (uu (DW.dt (qdy (zg (qaj hr) va (qc 0) (qbl qe) (qE _)) (qcb (vZ (vx (qN (qee rfl) qcN rfl T.b_all qjE (qb (zH (fo:=none) rfl (uv (qc 0)) (cs ["store"] ["kind"] 1 [] (qd zZ)) (f0 [] []) (λ_ _ _ _ _ _ _ _ _ _ _=>⟨(qw (i:=0) (nd ["kind"])),yS,(ut qb9 qaf (qI qv qu (qc 0) (gI T.c_MOST)) yB (qE _))⟩)) qe))))))) (qi v4) qO))
theorem qaD:qm ["store"] ["store"] (qd qW):=%[0|1]
theorem q29 (F:Fun K "need_light_endless" "need_light_endless" qW f fd) (m:mg "need_light_endless"=some (.ref f)) (T:Txt K mg) (Cg:Q27 P w K mg base) (Cu:Q28 P w K mg base) (Ch:Q10 P w K mg base):Q29 P w K mg base:=by
 refine %[f,fd,m,F,[_]|2]
 exact qs (N:=["store"]) (O:=[]) (body:=zy) F qaD (by decide) λcdv A outer s H E B hr=>(qf (qU (dC Ch hr (qb (qc 0) qe)))
   (qf (qU (dC Cu hr (qb (qc 0) qe)))
   (qi (qU (dC Cg hr (qb (qc 0) qe))))))
theorem qaE:qm ["store","room"] ["store","room"] (qd qX):=%[0|1]
theorem q30 (F:Fun K "need_endless_asked" "need_endless_asked" qX f fd) (m:mg "need_endless_asked"=some (.ref f)) (T:Txt K mg) (Cp:Q29 P w K mg base) (CA:Q7 P w K mg base) (Ch:Q10 P w K mg base):Q30 P w K mg base:=by
 refine %[f,fd,m,F,[_,_]|2]
 exact qs (N:=["store","room"]) (O:=[]) (body:=zA) F qaE (by decide) λcdv A outer s H E B hr=>(qf (qU (dC Ch hr (qb (qc 0) qe)))
   (qf (qU (dC CA hr (qb (qc 1) qe)))
   (qi (qU (dC Cp hr (qb (qc 0) qe))))))
theorem ya:qm ["store","room","worths","first","rounds"] ["store","room"] (qd ja):=%[0|1]
theorem q31 (F:Fun K "endless_worth" "endless_worth" ja f fd) (m:mg "endless_worth"=some (.ref f)) (T:Txt K mg) (CN:Q18 P w K mg base) (Cm:Q21 P w K mg base) (CU:Q26 P w K mg base) (CP:Q30 P w K mg base):Q31 P w K mg base:=by
 refine %[f,fd,m,F,[_,_]|2]
 exact qs (N:=["store","room","worths","first","rounds"]) (O:=[]) (body:=vj) F ya (by decide) λcdv A outer s H E B hr=>(qf (qU (dC CP hr (qb (qc 0) (qb (qc 1) qe))))
   (qf (qK (i:=2) ya.nd (dC CU hr (qb (qc 0) qe)))
   (qf (qK (i:=3) ya.nd (dC Cm hr (qb (qc 0) qe)))
   (qf (qK (i:=4) ya.nd (dC CN hr (qb (qc 3) (qb (qc 2) (qb (qc 1) qe)))))
   (qi (qy (qr qS qT (qI qv qu (qc 2) (qr qab u8 (qc 1) (qr qeo qcu (qc 4) (qI qv qu (qc 3) (gI T.c_WEIGHT))))) (qr qeo qcu (qc 4) (qI qv qu (qc 3) (gI T.c_WORTH))))))))))
theorem qaF:qm ["box","many","left","digit"] ["box","many"] (qd ub):=%[0|1]
theorem q32 (F:Fun K "_law_take" "_law_take" ub f fd) (m:mg "_law_take"=some (.ref f)) (T:Txt K mg):Q32 P w K mg base:=by
 refine⟨f,fd,?_,m,F.kp,F.binds λ_ _ _ _ _ _ us hl=>match us,hl with | [_,_],_=>rfl⟩
 show qe5 P w K mg base CX0 1 f fd ["box","many"] (qlf K (qcP (["box","many","left","digit"]:List Str).length (["box","many"]:List Str).length wG))
 refine qoI (N:=["box","many","left","digit"]) (ps:=["box","many"]) (k:=0) (O:=[0]) (body:=wG) F qaF ?a ?a0 ?b
 case a=>decide
 case a0=>decide
 intro cdv A outer s H E B Io S hr
 exact (qf (qnr (qN qgq qfo rfl T.b_divmod qjF (qb (qft (i:=0) qk) (qb (qc 1) qe))) (qcc (n:=2) rfl (zV (qw (i:=2) qaF.nd) (zV (qw (i:=3) qaF.nd) qad))))
   (qf (qoH (i:=0) (qc 2) qk)
   (qi (qy (qc 3)))))
theorem qe1:qm ["store","room"] ["store","room"] (qd jK):=%[0|1]
theorem q33 (F:Fun K "all_filled" "all_filled" jK f fd) (m:mg "all_filled"=some (.ref f)) (T:Txt K mg) (Co:Q3 P w K mg base) (Cb:Q11 P w K mg base):Q33 P w K mg base:=by
 refine %[f,fd,m,F,[_,_]|2]
 exact qs (N:=["store","room"]) (O:=[]) (body:=qau) F qe1 (by decide) λcdv A outer s H E B hr=>(qf (qU (dC Cb hr (qb (qc 0) (qb (qc 1) qe))))
   (qi (qy (zH (fo:=none) rfl (qhv rfl T.b_enumerate (qb (dC Co hr (qb (qc 0) (qb (qc 1) qe))) qe)) (cs ["store","room"] ["size","many"] 2 [] (qd jK)) (f0 [] []) (λ_ _ _ _ _ _ _ _ _ _ _=>⟨(qcc (n:=2) rfl (zV (qw (i:=0) (nd ["size","many"])) (zV (qw (i:=1) (nd ["size","many"])) qad))),(qcd (zg qci wU (qc 1) qk (qE _))),(qc 0)⟩)))))
theorem jo:qm ["one","other","rest"] ["one","other"] (qd zp):=%[0|1]
theorem q34 (F:Fun K "greatest_divisor" "greatest_divisor" zp f fd) (m:mg "greatest_divisor"=some (.ref f)) (T:Txt K mg):Q34 P w K mg base:=by
 refine %[f,fd,m,F,[_,_]|2]
 exact qs (N:=["one","other","rest"]) (O:=[]) (body:=yJ) F jo (by decide) λcdv A outer s H E B hr=>(qf (ql0 ya0 (zg qci wU (qc 1) qk (qE _)) (qf (qK (i:=2) jo.nd (qr qb8 qae (qc 0) (qc 1)))
   (qf (qK (i:=0) jo.nd (qc 1))
   (qi (qK (i:=1) jo.nd (qc 2))))))
   (qi (qy (qc 0))))
theorem jG:qm ["store","divisor","kind"] ["store"] (qd zF):=%[0|1]
theorem q35 (F:Fun K "weights_divisor" "weights_divisor" zF f fd) (m:mg "weights_divisor"=some (.ref f)) (T:Txt K mg) (C7:Q34 P w K mg base):Q35 P w K mg base:=by
 refine %[f,fd,m,F,[_]|2]
 exact qs (N:=["store","divisor","kind"]) (O:=[]) (body:=uh) F jG (by decide) λcdv A outer s H E B hr=>(qf (qK (i:=1) jG.nd qk)
   (qf (v0 ya0 rfl (uv (qc 0)) (qw (i:=2) jG.nd) (qi (qK (i:=1) jG.nd (dC C7 hr (qb (qc 1) (qb (qI qv qu (qc 2) (gI T.c_WEIGHT)) qe))))))
   (qi (qy (qc 1)))))
theorem ur:qm ["store","lightest","full","room"] ["store"] (qd zk):=%[0|1]
theorem q36 (F:Fun K "never_rooms" "never_rooms" zk f fd) (m:mg "never_rooms"=some (.ref f)) (T:Txt K mg) (Cq:Q23 P w K mg base):Q36 P w K mg base:=by
 refine %[f,fd,m,F,[_]|2]
 exact qs (N:=["store","lightest","full","room"]) (O:=[2]) (body:=wH) F ur (by decide) λcdv A outer s H E B hr=>(qf (qK (i:=1) ur.nd (qN (qfE hr rfl) qdO rfl T.b_min qfx (qb (zH (fo:=none) rfl (uv (qc 0)) (cs ["store","lightest","full","room"] ["kind"] 1 [] (qd zk)) (f0 [] [2]) (λ_ _ _ _ _ _ _ _ _ _ _=>⟨(qw (i:=0) (nd ["kind"])),yS,(qI qv qu (qc 0) (gI T.c_WEIGHT))⟩)) qe)))
   (qf (qai (i:=2) ur.nd (qfs (qb qa4 qe)))
   (qf (v0 ya0 rfl (qcV rfl T.b_range (qb qk (qb (qr jz zQ (qc 1) (dC Cq hr (qb (qc 0) qe))) qe))) (qw (i:=3) ur.nd) (qi (qU (qag (i:=2) (qN (qlH rfl) qju rfl T.b_any qq4 (qb (zH (fo:=(some (2,2))) rfl (uv (qc 0)) (cs ["store","lightest","full","room"] ["kind","room","full"] 1 [3,2] (qd zk)) (f1 1 [3,2] [2] 2 2) (λ_ _ _ _ _ _ _ _ _ _ _=>⟨(qw (i:=0) (nd ["kind","room","full"])),yS,(qcH (ut qjc qfl (qI qv qu (qc 0) (gI T.c_WEIGHT)) (qc 1) (qE _)) (qbn (qft (i:=2) (qr qab u8 (qc 1) (qI qv qu (qc 0) (gI T.c_WEIGHT))))))⟩)) qe))))))
   (qi (qy (qsM (qra (ql7 (i:=2) (ql5 (fo:=none) rfl (qhv rfl T.b_enumerate (qb (qc 2) qe)) (cs ["store","lightest","full","room"] ["room","is_full"] 2 [] (qd zk)) (f0 [] []) (λ_ _ _ _ _ _ _ _ _ _ _=>⟨(qcc (n:=2) rfl (zV (qw (i:=0) (nd ["room","is_full"])) (zV (qw (i:=1) (nd ["room","is_full"])) qad))),(qcd (vZ (vx (qc 1)))),(qc 0)⟩))) rfl (cs ["store","lightest","full","room"] ["room","is_full"] 2 [] (qd zk)))))))))
theorem qe2:qm ["store"] ["store"] (qd yp):=%[0|1]
theorem q37 (F:Fun K "never_many" "never_many" yp f fd) (m:mg "never_many"=some (.ref f)) (T:Txt K mg) (CI:Q35 P w K mg base) (Cw:Q36 P w K mg base) (Cp:Q29 P w K mg base):Q37 P w K mg base:=by
 refine %[f,fd,m,F,[_]|2]
 exact qs (N:=["store"]) (O:=[]) (body:=qav) F qe2 (by decide) λcdv A outer s H E B hr=>(qf (qU (dC Cp hr (qb (qc 0) qe)))
   (qi (qy (qlz (zg qci wU (dC CI hr (qb (qc 0) qe)) qk (qE _)) yB (qN jp jq rfl T.b_len wV (qb (dC Cw hr (qb (qc 0) qe)) qe))))))
theorem vq:qm ["store","divisor","rooms"] ["store"] (qd jx):=%[0|1]
theorem q38 (F:Fun K "never_filled" "never_filled" jx f fd) (m:mg "never_filled"=some (.ref f)) (T:Txt K mg) (Cw:Q36 P w K mg base) (CI:Q35 P w K mg base) (Cp:Q29 P w K mg base):Q38 P w K mg base:=by
 refine %[f,fd,m,F,[_]|2]
 exact qs (N:=["store","divisor","rooms"]) (O:=[]) (body:=vV) F vq (by decide) λcdv A outer s H E B hr=>(qf (qU (dC Cp hr (qb (qc 0) qe)))
   (qf (qK (i:=1) vq.nd (dC CI hr (qb (qc 0) qe)))
   (qf (uu (zg qci wU (qc 1) qk (qE _)) (qi (qy (qbl (qb qfi (qb (qc 1) qe))))) qO)
   (qf (qK (i:=2) vq.nd (dC Cw hr (qb (qc 0) qe)))
   (qi (qy (qlz (zg (qaj hr) va (qc 2) (vv qe) (qE _)) (qbl (qb qfi qe)) (qbl (qb qfi (qb (qI qv qu (qc 2) (qjD qk)) qe))))))))))
theorem zf:qm ["store","told","many","last","rooms","weights"] ["store"] (qd qH):=%[0|1]
theorem q39 (F:Fun K "_law_never_right" "_law_never_right" qH f fd) (m:mg "_law_never_right"=some (.ref f)) (T:Txt K mg) (Cj:Q12 P w K mg base) (CH:Q33 P w K mg base) (C9:Q37 P w K mg base) (Zb:Q38 P w K mg base):Q39 P w K mg base:=by
 refine %[f,fd,m,F,[_]|2]
 exact qs (N:=["store","told","many","last","rooms","weights"]) (O:=[]) (body:=jD) F zf (by decide) λcdv A outer s H E B hr=>(qf (qnr (qbl (qb (dC Zb hr (qb (qc 0) qe)) (qb (dC C9 hr (qb (qc 0) qe)) qe))) (qcc (n:=2) rfl (zV (qw (i:=1) zf.nd) (zV (qw (i:=2) zf.nd) qad))))
   (qf (uu (zg (qaj hr) va (qI qv qu (qc 1) qk) qfi (qE _)) (qi (qy (qcH (ut qb9 qaf (qc 2) yB (qE _)) (qcH (ut (qaj hr) va (zH (fo:=none) rfl (uv (qc 0)) (cs ["store","told","many","last","rooms","weights"] ["kind","told"] 1 [1] (qd qH)) (f0 [1] []) (λ_ _ _ _ _ _ _ _ _ _ _=>⟨(qw (i:=0) (nd ["kind","told"])),(qcd (zg (wX hr) uJ (qr qb8 qae (qI qv qu (qc 0) qk) (qI qv qu (qc 1) qk)) qk (qE _))),(qI qv qu (qc 0) qk)⟩)) (vv qe) (qE _)) (qbn (qnq (dC Cj hr (qb (qc 0) (qb qk qe))))))))) qO)
   (qf (qK (i:=3) zf.nd (qlz (zg (qaj hr) va (qI qv qu (qc 1) qk) qfi (qE _)) (qI qv qu (qc 1) qk) qk))
   (qf (qK (i:=4) zf.nd (dC CH hr (qb (qc 0) (qb qk qe))))
   (qf (uu (DW.dt (qdy (zg qci wU (qc 3) qk (qE _)) (qdy (zg (wX hr) uJ (qc 2) (qr qab u8 qk (qN jp jq rfl T.b_len wV (qb (qc 4) qe))) (qE _)) (qcb (DW.dt (qnp (zg qci wU (qc 2) qk (qE _)) (qjp (vx (dC Cj hr (qb (qc 0) (qb (qc 3) qe))))))))))) (qi (qy qa4)) qO)
   (qf (uu (zg (wX hr) uJ (zH (fo:=none) rfl (qcV rfl T.b_range (qb (qr qS qT (qc 3) qk) (qb qk qe))) (cs ["store","told","many","last","rooms","weights"] ["room","rooms"] 1 [4] (qd qH)) (f0 [4] []) (λ_ _ _ _ _ _ _ _ _ _ _=>⟨(qw (i:=0) (nd ["room","rooms"])),(qcd (zg (qo9 hr) ql9 (qc 0) (qc 1) rfl)),(qc 0)⟩)) (vv qe) (qE _)) (qi (qy qa4)) qO)
   (qf (qK (i:=5) zf.nd (qpm (zH (fo:=none) rfl (uv (qc 0)) (cs ["store","told","many","last","rooms","weights"] ["kind"] 1 [] (qd qH)) (f0 [] []) (λ_ _ _ _ _ _ _ _ _ _ _=>⟨(qw (i:=0) (nd ["kind"])),yS,(qI qv qu (qc 0) qk)⟩)) rfl rfl T.b_sorted rfl T.b_set))
   (qi (qy (qly (ut (wX hr) uJ (qN jp jq rfl T.b_len wV (qb (qc 5) qe)) qk (qE _)) (qly (ut (qaj hr) va (qI qv qu (qc 5) qk) qk (qE _)) (qbn (ut (qaj hr) va (qc 3) (qr qab u8 (qr qab u8 (qr jz zQ (qI qv qu (qc 5) qk) (qI qv qu (qc 5) qk)) (qI qv qu (qc 5) qk)) (qI qv qu (qc 5) qk)) (qE _))))))))))))))
theorem zP:qm ["box","most","heaviest_v","kind","found","k","heft","given","gain"] ["box","most","heaviest_v"] (qd jy):=%[0|1]
theorem q40 (F:Fun K "_law_endless" "_law_endless" jy f fd) (m:mg "_law_endless"=some (.ref f)) (T:Txt K mg) (Cd:Q32 P w K mg base):Q40 P w K mg base:=by
 refine⟨f,fd,?_,m,F.kp,F.binds λ_ _ _ _ _ _ us hl=>match us,hl with | [_,_,_],_=>rfl⟩
 show qe5 P w K mg base CX0 2 f fd ["box","most","heaviest_v"] (qlf K (qcP (["box","most","heaviest_v","kind","found","k","heft","given","gain"]:List Str).length (["box","most","heaviest_v"]:List Str).length uq))
 refine qoI (N:=["box","most","heaviest_v","kind","found","k","heft","given","gain"]) (ps:=["box","most","heaviest_v"]) (k:=1) (O:=[0,4]) (body:=uq) F zP ?a ?a0 ?b
 case a=>decide
 case a0=>decide
 intro cdv A outer s H E B Io S hr
 exact (qf (qK (i:=3) zP.nd (iC (i:=0) Cd hr (qb qk qe)))
   (qf (qai (i:=4) zP.nd (qfs qe))
   (qf (v0 ya0 rfl (jr rfl T.b_range (qb (qr qS qT qk (iC (i:=0) Cd hr (qb (qc 1) qe))) qe)) (qw (i:=5) zP.nd) (qf (qK (i:=6) zP.nd (qr qS qT qk (iC (i:=0) Cd hr (qb (qc 2) qe))))
   (qf (qK (i:=7) zP.nd (iC (i:=0) Cd hr (qb qk qe)))
   (qf (qK (i:=8) zP.nd (qI qv qu (vv (qb (qc 7) (qb (qc 6) (qb (qr qS qT (qr jz zQ qk (qc 6)) (qr qb8 qae (qc 7) qk)) (qb qk (qb (qr qS qT (qr qqs qoS qk qk) (qc 7)) qe)))))) (qc 3)))
   (qi (qU (qag (i:=4) (qbl (qb (qc 6) (qb (qc 8) (qb yB qe)))))))))))
   (qi (qy (qgB (i:=4) rfl T.b_tuple wA))))))
theorem qgl:qm ["kind","row","room"] ["kind","row","room"] (qd ye):=%[0|1]
theorem q41 (F:Fun K "best_with" "best_with" ye f fd) (m:mg "best_with"=some (.ref f)) (T:Txt K mg) (Cr:Q0 P w K mg base) (Cs:Q14 P w K mg base):Q41 P w K mg base:=by
 refine %[f,fd,m,F,[_,_,_]|2]
 exact qs (N:=["kind","row","room"]) (O:=[]) (body:=qbh) F qgl (by decide) λcdv A outer s H E B hr=>(qi (qy (qN (qfB rfl) qdM rfl T.b_max qdL (qb (zH (fo:=none) rfl (jr rfl T.b_range (qb (qr qS qT (dC Cr hr (qb (qc 0) (qb (qc 2) qe))) qk) qe)) (cs ["kind","row","room"] ["times","kind","row","room"] 1 [0,1,2] (qd ye)) (f0 [0,1,2] []) (λ_ _ _ _ _ _ _ _ _ _ _=>⟨(qw (i:=0) (nd ["times","kind","row","room"])),yS,(dC Cs hr (qb (qc 1) (qb (qc 0) (qb (qc 2) (qb (qc 3) qe)))))⟩)) qe))))
theorem qaG:qm ["store","room","rows","kind"] ["store","room"] (qd yf):=%[0|1]
theorem q42 (F:Fun K "best_rows" "best_rows" yf f fd) (m:mg "best_rows"=some (.ref f)) (T:Txt K mg) (C2:Q41 P w K mg base):Q42 P w K mg base:=by
 refine %[f,fd,m,F,[_,_]|2]
 exact qs (N:=["store","room","rows","kind"]) (O:=[2]) (body:=qbi) F qaG (by decide) λcdv A outer s H E B hr=>(qf (qai (i:=2) qaG.nd (qke (qb (qr jz zQ (vv (qb qk qe)) (qr qS qT (qc 1) qk)) qe)))
   (qf (v0 ya0 rfl (qnO rfl T.b_reversed (qb (qc 0) qe)) (qw (i:=3) qaG.nd) (qi (qU (qfM (i:=2) (zH (fo:=(some (2,2))) rfl (jr rfl T.b_range (qb (qr qS qT (qc 1) qk) qe)) (cs ["store","room","rows","kind"] ["size","kind","rows"] 1 [3,2] (qd yf)) (f1 1 [3,2] [2] 2 2) (λ_ _ _ _ _ _ _ _ _ _ _=>⟨(qw (i:=0) (nd ["size","kind","rows"])),yS,(dC C2 hr (qb (qc 1) (qb (qft (i:=2) qk) (qb (qc 0) qe))))⟩))))))
   (qi (qgC (i:=2)))))
theorem qdF:qm ["store","room"] ["store","room"] (qd jV):=%[0|1]
theorem q43 (F:Fun K "best_worths" "best_worths" jV f fd) (m:mg "best_worths"=some (.ref f)) (T:Txt K mg) (Zc:Q42 P w K mg base) (Cb:Q11 P w K mg base):Q43 P w K mg base:=by
 refine %[f,fd,m,F,[_,_]|2]
 exact qs (N:=["store","room"]) (O:=[]) (body:=wK) F qdF (by decide) λcdv A outer s H E B hr=>(qf (qU (dC Cb hr (qb (qc 0) (qb (qc 1) qe))))
   (qi (qy (qI qv qu (dC Zc hr (qb (qc 0) (qb (qc 1) qe))) qk))))
theorem qe3:qm ["store","room"] ["store","room"] (qd yq):=%[0|1]
theorem q44 (F:Fun K "best_worth" "best_worth" yq f fd) (m:mg "best_worth"=some (.ref f)) (T:Txt K mg) (CM:Q43 P w K mg base):Q44 P w K mg base:=by
 refine %[f,fd,m,F,[_,_]|2]
 exact qs (N:=["store","room"]) (O:=[]) (body:=qaw) F qe3 (by decide) λcdv A outer s H E B hr=>(qi (qy (qI qv qu (dC CM hr (qb (qc 0) (qb (qc 1) qe))) (qc 1))))
theorem yb:qm ["store","room","row","kind"] ["store","room"] (qd zM):=%[0|1]
theorem q45 (F:Fun K "least_filling" "least_filling" zM f fd) (m:mg "least_filling"=some (.ref f)) (T:Txt K mg) (CC:Q15 P w K mg base) (Cb:Q11 P w K mg base):Q45 P w K mg base:=by
 refine %[f,fd,m,F,[_,_]|2]
 exact qs (N:=["store","room","row","kind"]) (O:=[]) (body:=vk) F yb (by decide) λcdv A outer s H E B hr=>(qf (qU (dC Cb hr (qb (qc 0) (qb (qc 1) qe))))
   (qf (qK (i:=2) yb.nd (qr qS qT (vv (qb qk qe)) (qr jz zQ (vv (qb yB qe)) (qc 1))))
   (qf (v0 ya0 rfl (uv (qc 0)) (qw (i:=3) yb.nd) (qi (qK (i:=2) yb.nd (zH (fo:=none) rfl (jr rfl T.b_range (qb (qr qS qT (qc 1) qk) qe)) (cs ["store","room","row","kind"] ["size","kind","row"] 1 [3,2] (qd zM)) (f0 [3,2] []) (λ_ _ _ _ _ _ _ _ _ _ _=>⟨(qw (i:=0) (nd ["size","kind","row"])),yS,(qbu (qj8 rfl) qiB rfl T.b_min qfx (qb (dC CC hr (qb (qc 1) (qb (qc 2) (qb (qc 0) qe)))) qe) (qen yB qhx))⟩)))))
   (qi (qy (qI qv qu (qc 2) (qc 1)))))))
theorem qhc:qm ["kind","times"] ["kind","times"] (qd uZ):=%[0|1]
theorem q46 (F:Fun K "can_take" "can_take" uZ f fd) (m:mg "can_take"=some (.ref f)) (T:Txt K mg) (Ck:Q6 P w K mg base):Q46 P w K mg base:=by
 refine %[f,fd,m,F,[_,_]|2]
 exact qs (N:=["kind","times"]) (O:=[]) (body:=qb0) F qhc (by decide) λcdv A outer s H E B hr=>(qi (qy (qcH (dC Ck hr (qb (qc 1) qe)) (qbn (qly (ut qb9 qaf (qI qv qu (qc 0) (gI T.c_MOST)) yB (qE _)) (qbn (ut qjc qfl (qc 1) (qI qv qu (qc 0) (gI T.c_MOST)) (qE _))))))))
theorem qiY:qm ["thing","store"] ["thing","store"] (qd vf):=%[0|1]
theorem q47 (F:Fun K "is_load" "is_load" vf f fd) (m:mg "is_load"=some (.ref f)) (T:Txt K mg) (Zd:Q46 P w K mg base) (Ch:Q10 P w K mg base):Q47 P w K mg base:=by
 refine %[f,fd,m,F,[_,_]|2]
 exact qs (N:=["thing","store"]) (O:=[]) (body:=qdf) F qiY (by decide) λcdv A outer s H E B hr=>(qf (qU (dC Ch hr (qb (qc 1) qe)))
   (qf (uu (DW.dt (qdy (vZ (vx (qfq qcM rfl T.b_isinstance rfl T.b_tuple wA (qc 0) yD))) (qcb (zg (wX hr) uJ (qN jp jq rfl T.b_len wV (qb (qc 0) qe)) (qN jp jq rfl T.b_len wV (qb (qc 1) qe)) (qE _))))) (qi (qy qa4)) qO)
   (qi (qy (qN (qee rfl) qcN rfl T.b_all qjE (qb (zH (fo:=none) rfl (qnC rfl T.b_zip (qb (qc 1) (qb (qc 0) qe))) (cs ["thing","store"] ["kind","times"] 2 [] (qd vf)) (f0 [] []) (λ_ _ _ _ _ _ _ _ _ _ _=>⟨(qcc (n:=2) rfl (zV (qw (i:=0) (nd ["kind","times"])) (zV (qw (i:=1) (nd ["kind","times"])) qad))),yS,(dC Zd hr (qb (qc 0) (qb (qc 1) qe)))⟩)) qe))))))
theorem qb6:qm ["store","load","part"] ["store","load","part"] (qd zu):=%[0|1]
theorem q48 (F:Fun K "taken_together" "taken_together" zu f fd) (m:mg "taken_together"=some (.ref f)) (T:Txt K mg):Q48 P w K mg base:=by
 refine %[f,fd,m,F,[_,_,_]|2]
 exact qs (N:=["store","load","part"]) (O:=[]) (body:=uN) F qb6 (by decide) λcdv A outer s H E B hr=>(qi (qy (qN (qhm rfl) qfr rfl T.b_sum qnF (qb (zH (fo:=none) rfl (qnC rfl T.b_zip (qb (qc 0) (qb (qc 1) qe))) (cs ["store","load","part"] ["kind","times","part"] 2 [2] (qd zu)) (f0 [2] []) (λ_ _ _ _ _ _ _ _ _ _ _=>⟨(qcc (n:=2) rfl (zV (qw (i:=0) (nd ["kind","times","part"])) (zV (qw (i:=1) (nd ["kind","times","part"])) qad))),yS,(qr qeo qcu (qI qv qu (qc 0) (qc 2)) (qc 1))⟩)) qe))))
theorem qgm:qm ["store","thing"] ["store","thing"] (qd uc):=%[0|1]
theorem q49 (F:Fun K "need_load" "need_load" uc f fd) (m:mg "need_load"=some (.ref f)) (T:Txt K mg) (CD:Q47 P w K mg base):Q49 P w K mg base:=by
 refine %[f,fd,m,F,[_,_]|2]
 exact qs (N:=["store","thing"]) (O:=[]) (body:=vm) F qgm (by decide) λcdv A outer s H E B hr=>(qi (uu (vZ (vx (dC CD hr (qb (qc 1) (qb (qc 0) qe))))) (qi v4) qO))
theorem qlb:qm ["store","load"] ["store","load"] (qd qaQ):=%[0|1]
theorem q50 (F:Fun K "weight" "weight" qaQ f fd) (m:mg "weight"=some (.ref f)) (T:Txt K mg) (CG:Q48 P w K mg base) (Cz:Q49 P w K mg base):Q50 P w K mg base:=by
 refine %[f,fd,m,F,[_,_]|2]
 exact qs (N:=["store","load"]) (O:=[]) (body:=qeL) F qlb (by decide) λcdv A outer s H E B hr=>(qf (qU (dC Cz hr (qb (qc 0) (qb (qc 1) qe))))
   (qi (qy (dC CG hr (qb (qc 0) (qb (qc 1) (qb (gI T.c_WEIGHT) qe)))))))
theorem qnf:qm ["store","load"] ["store","load"] (qd qbU):=%[0|1]
theorem q51 (F:Fun K "worth" "worth" qbU f fd) (m:mg "worth"=some (.ref f)) (T:Txt K mg) (CG:Q48 P w K mg base) (Cz:Q49 P w K mg base):Q51 P w K mg base:=by
 refine %[f,fd,m,F,[_,_]|2]
 exact qs (N:=["store","load"]) (O:=[]) (body:=qg0) F qnf (by decide) λcdv A outer s H E B hr=>(qf (qU (dC Cz hr (qb (qc 0) (qb (qc 1) qe))))
   (qi (qy (dC CG hr (qb (qc 0) (qb (qc 1) (qb (gI T.c_WORTH) qe)))))))
theorem qe4:qm ["store","room"] ["store","room"] (qd yr):=%[0|1]
theorem q52 (F:Fun K "fills_many" "fills_many" yr f fd) (m:mg "fills_many"=some (.ref f)) (T:Txt K mg) (Co:Q3 P w K mg base) (Cb:Q11 P w K mg base):Q52 P w K mg base:=by
 refine %[f,fd,m,F,[_,_]|2]
 exact qs (N:=["store","room"]) (O:=[]) (body:=qax) F qe4 (by decide) λcdv A outer s H E B hr=>(qf (qU (dC Cb hr (qb (qc 0) (qb (qc 1) qe))))
   (qi (qy (qI qv qu (dC Co hr (qb (qc 0) (qb (qc 1) qe))) (qc 1)))))
theorem ww:qm ["kind","most","row","room","fitting"] ["kind","most","row","room"] (qd zv):=%[0|1]
theorem q53 (F:Fun K "fewest_of_most" "fewest_of_most" zv f fd) (m:mg "fewest_of_most"=some (.ref f)) (T:Txt K mg) (Cs:Q14 P w K mg base) (CF:Q13 P w K mg base):Q53 P w K mg base:=by
 refine %[f,fd,m,F,[_,_,_,_]|2]
 exact qs (N:=["kind","most","row","room","fitting"]) (O:=[]) (body:=uO) F ww (by decide) λcdv A outer s H E B hr=>(qf (qK (i:=4) ww.nd (dC CF hr (qb (qc 0) (qb (qc 2) (qb (qc 3) qe)))))
   (qi (qy (qI qv qu (zH (fo:=none) rfl (uv (qc 4)) (cs ["kind","most","row","room","fitting"] ["times","most","kind","row","room"] 1 [1,0,2,3] (qd zv)) (f0 [1,0,2,3] []) (λ_ _ _ _ _ _ _ _ _ _ _=>⟨(qw (i:=0) (nd ["times","most","kind","row","room"])),(qcd (zg (qaj hr) va (dC Cs hr (qb (qc 2) (qb (qc 0) (qb (qc 3) (qb (qc 4) qe))))) (qc 1) (qE _))),(qc 0)⟩)) qk))))
theorem qaH:qm ["store","room","rows","load","left","place","kind","times"] ["store","room"] (qd qdY):=%[0|1]
theorem q54 (F:Fun K "fill" "fill" qdY f fd) (m:mg "fill"=some (.ref f)) (T:Txt K mg) (Ci:Q1 P w K mg base) (CS:Q53 P w K mg base) (Cv:Q16 P w K mg base) (Cb:Q11 P w K mg base):Q54 P w K mg base:=by
 refine %[f,fd,m,F,[_,_]|2]
 exact qs (N:=["store","room","rows","load","left","place","kind","times"]) (O:=[3]) (body:=qhU) F qaH (by decide) λcdv A outer s H E B hr=>(qf (qU (dC Cb hr (qb (qc 0) (qb (qc 1) qe))))
   (qf (qK (i:=2) qaH.nd (dC Cv hr (qb (qc 0) (qb (qc 1) qe))))
   (qf (uu (zg qb9 qaf (qI qv qu (qI qv qu (qc 2) qk) (qc 1)) yB (qE _)) (qi (qy yB)) qO)
   (qf (qai (i:=3) qaH.nd (qfs qe))
   (qf (qK (i:=4) qaH.nd (qc 1))
   (qf (v0 ya0 rfl (qo0 rfl T.b_enumerate (qb (qc 0) qe)) (qcc (n:=2) rfl (zV (qw (i:=5) qaH.nd) (zV (qw (i:=6) qaH.nd) qad))) (qf (qK (i:=7) qaH.nd (dC CS hr (qb (qc 6) (qb (qI qv qu (qI qv qu (qc 2) (qc 5)) (qc 4)) (qb (qI qv qu (qc 2) (qr qS qT (qc 5) qk)) (qb (qc 4) qe))))))
   (qf (qU (qag (i:=3) (qc 7)))
   (qi (qK (i:=4) qaH.nd (dC Ci hr (qb (qc 6) (qb (qc 7) (qb (qc 4) qe)))))))))
   (qi (qy (qgB (i:=3) rfl T.b_tuple wA)))))))))
theorem yP:qm ["store","room","load","best","same"] ["store","room"] (qd zb):=%[0|1]
theorem q55 (F:Fun K "_law_room_right" "_law_room_right" zb f fd) (m:mg "_law_room_right"=some (.ref f)) (T:Txt K mg) (Ct:Q44 P w K mg base) (CH:Q33 P w K mg base) (CW:Q45 P w K mg base) (CD:Q47 P w K mg base) (Cf:Q50 P w K mg base) (Cc:Q51 P w K mg base) (CL:Q52 P w K mg base) (Cj:Q12 P w K mg base) (Cy:Q17 P w K mg base) (Ca:Q54 P w K mg base):Q55 P w K mg base:=by
 refine %[f,fd,m,F,[_,_]|2]
 exact qs (N:=["store","room","load","best","same"]) (O:=[]) (body:=uj) F yP (by decide) λcdv A outer s H E B hr=>(qf (qnE (i:=2) (j:=3) yP.nd (qb (dC Ca hr (qb (qc 0) (qb (qc 1) qe))) (qb (dC Cy hr (qb (qc 0) (qb (qc 1) qe))) qe)) rfl)
   (qf (uu (DW.dt (qdy (zg (wX hr) uJ (ut qb9 qaf (qc 2) yB (qE _)) (ut qb9 qaf (qc 3) yB (qE _)) (qE _)) (qcb (zg (wX hr) uJ (dC Cj hr (qb (qc 0) (qb (qc 1) qe))) (ut qgp qed (qc 2) yB (qE _)) (qE _))))) (qi (qy qa4)) qO)
   (qf (uu (zg (wX hr) uJ (ut qci wU (dC CL hr (qb (qc 0) (qb (qc 1) qe))) qk (qE _)) (dC Cj hr (qb (qc 0) (qb (qc 1) qe))) (qE _)) (qi (qy qa4)) qO)
   (qf (uu (zg qgp qed (qc 2) yB (qE _)) (qf (uu (DW.dt (qdy (vZ (vx (dC CD hr (qb (qc 2) (qb (qc 0) qe))))) (qdy (zg (wX hr) uJ (dC Cf hr (qb (qc 0) (qb (qc 2) qe))) (qc 1) (qE _)) (qcb (zg (wX hr) uJ (dC Cc hr (qb (qc 0) (qb (qc 2) qe))) (qc 3) (qE _)))))) (qi (qy qa4)) qO)
   (qi (uu (vZ (qmm qjc qfl qjc qfl (dC CW hr (qb (qc 0) (qb (qc 1) qe))) (qc 3) (dC Ct hr (qb (qc 0) (qb (qc 1) qe))))) (qi (qy qa4)) qO))) qO)
   (qf (qK (i:=4) yP.nd (qjr qbk qgx rfl T.b_tuple wA (qb (zH (fo:=none) rfl (uv (qc 0)) (cs ["store","room","load","best","same"] ["heavy","dear","most"] 3 [] (qd zb)) (f0 [] []) (λ_ _ _ _ _ _ _ _ _ _ _=>⟨(qcc (n:=3) rfl (zV (qw (i:=0) (nd ["heavy","dear","most"])) (zV (qw (i:=1) (nd ["heavy","dear","most"])) (zV (qw (i:=2) (nd ["heavy","dear","most"])) qad)))),yS,(qbl (qb (qc 0) (qb (qc 0) (qb (qc 2) qe))))⟩)) qe)))
   (qi (qy (ut (qaj hr) va (dC Ct hr (qb (qc 4) (qb (qc 1) qe))) (qI qv qu (dC CH hr (qb (qc 0) (qb (qc 1) qe))) (qjD qk)) (qE _)))))))))
theorem uU:qm ["box","most","found","k","heft","gain"] ["box","most"] (qd yt):=%[0|1]
theorem q56 (F:Fun K "_law_store" "_law_store" yt f fd) (m:mg "_law_store"=some (.ref f)) (T:Txt K mg) (Cd:Q32 P w K mg base):Q56 P w K mg base:=by
 refine⟨f,fd,?_,m,F.kp,F.binds λ_ _ _ _ _ _ us hl=>match us,hl with | [_,_],_=>rfl⟩
 show qe5 P w K mg base CX0 2 f fd ["box","most"] (qlf K (qcP (["box","most","found","k","heft","gain"]:List Str).length (["box","most"]:List Str).length vJ))
 refine qoI (N:=["box","most","found","k","heft","gain"]) (ps:=["box","most"]) (k:=1) (O:=[0,2]) (body:=vJ) F uU ?a ?a0 ?b
 case a=>decide
 case a0=>decide
 intro cdv A outer s H E B Io S hr
 exact (qf (qai (i:=2) uU.nd (qfs qe))
   (qf (v0 ya0 rfl (jr rfl T.b_range (qb (iC (i:=0) Cd hr (qb (qr qS qT (qc 1) qk) qe)) qe)) (qw (i:=3) uU.nd) (qf (qnE (i:=4) (j:=5) uU.nd (qb (qr qS qT qk (iC (i:=0) Cd hr (qb qk qe))) (qb (iC (i:=0) Cd hr (qb qk qe)) qe)) rfl)
   (qi (qU (qag (i:=2) (qbl (qb (qc 4) (qb (qc 5) (qb (qI qv qu (vv (qb yB (qb qk (qb qk (qb qk (qb qk (qb qk (qb qk qe)))))))) (iC (i:=0) Cd hr (qb qk qe))) qe)))))))))
   (qi (qy (qgB (i:=2) rfl T.b_tuple wA)))))
theorem jS:qm ["script","k","here","number","j","part"] ["script","k"] (qd u4):=%[0|1]
theorem q57 (F:Fun K "_law_box" "_law_box" u4 f fd) (m:mg "_law_box"=some (.ref f)) (T:Txt K mg):Q57 P w K mg base:=by
 refine %[f,fd,m,F,[_,_]|2]
 exact qs (N:=["script","k","here","number","j","part"]) (O:=[]) (body:=qaT) F jS (by decide) λcdv A outer s H E B hr=>(qf (qK (i:=2) jS.nd (qr qS qT (qr jz zQ qk (qc 1)) qk))
   (qf (uu (zg qqu qns (qc 1) (qN jp jq rfl T.b_len wV (qb (qc 0) qe)) (qE _)) (qi (qK (i:=2) jS.nd (qI qv qu (qc 0) (qc 1)))) qO)
   (qf (uu (zg (qaj hr) va (qr qb8 qae (qc 2) qk) qk (qE _)) (qi (qy (vv (qb (qr qd6 qcp (qc 2) qk) qe)))) qO)
   (qf (qK (i:=3) jS.nd qk)
   (qf (v0 ya0 rfl (jr rfl T.b_range (qb qk qe)) (qw (i:=4) jS.nd) (qf (qK (i:=5) jS.nd (qr qb8 qae (qr qS qT (qr qS qT (qr jz zQ (qr qb8 qae (qc 2) qk) qk) (qr jz zQ qk (qc 4))) qk) qk))
   (qf (qK (i:=5) jS.nd (qr qb8 qae (qr jz zQ (qc 5) (qc 5)) qk))
   (qi (qK (i:=3) jS.nd (qr qS qT (qr jz zQ (qc 3) qk) (qr qb8 qae (qr jz zQ (qc 5) (qr qS qT (qc 5) qk)) qk)))))))
   (qi (qy (vv (qb (qc 3) qe)))))))))
theorem qgn:qm ["script","k","box","store","room"] ["script"] (qd qeJ):=%[0|1]
theorem qr5 (F:Fun K "law" "law" qeJ f fd) (T:Txt K mg) (Cj:Q12 P w K mg base) (Cy:Q17 P w K mg base) (Za:Q31 P w K mg base) (Cd:Q32 P w K mg base) (C6:Q39 P w K mg base) (CJ:Q40 P w K mg base) (CV:Q55 P w K mg base) (C3:Q56 P w K mg base) (C4:Q57 P w K mg base):qe5 P w K mg base CX0 10 f fd ["script"] (spD K qg1):=by
 exact qs (N:=["script","k","box","store","room"]) (O:=[2]) (body:=qpA) F qgn (by decide) λcdv A outer s H E B hr=>(qf (v0 ya0 rfl (jr rfl T.b_range (qb (qN (qjd rfl) qjt rfl T.b_max qdL (qb qk (qb (qN (qe7 rfl) qfn rfl T.b_min qfx (qb (qN jp jq rfl T.b_len wV (qb (qc 0) qe)) (qb qk qe))) qe))) qe)) (qw (i:=1) qgn.nd) (qf (qai (i:=2) qgn.nd (nC C4 hr (qb (qc 0) (qb (qc 1) qe))))
   (qf (uu (vZ (vx (dC CV hr (qb (iC (i:=2) C3 hr (qb qk qe)) (qb (iC (i:=2) Cd hr (qb qk qe)) qe))))) (qi (qy qa4)) qO)
   (qf (qK (i:=3) qgn.nd (iC (i:=2) CJ hr (qb qk (qb qk qe))))
   (qf (uu (vZ (vx (dC C6 hr (qb (qc 3) qe)))) (qi (qy qa4)) qO)
   (qf (qK (i:=4) qgn.nd (iC (i:=2) Cd hr (qb qk qe)))
   (qi (uu (DW.dt (qnp (vx (dC Cj hr (qb (qc 3) (qb (qc 4) qe)))) (qjp (zg qci wU (dC Cy hr (qb (qc 3) (qb (qc 4) qe))) (dC Za hr (qb (qc 3) (qb (qc 4) qe))) (qE _))))) (qi (qy qa4)) qO))))))))
   (qi (qy qa4)))
end
theorem all_mk {l:yfg} {w:World} {K:yas} {h:Heap} {mg:Str->Option Value} {fa f0 f1 f2 f3 f4 f5 f6 f7 f8 f9 f10 f11 f12 f13 f14 f15 f16 f17 f18 f19 f20 f21 f22 f23 f24 f25 f26 f27 f28 f29 f30 f31 f32 f33 f34 f35 f36 f37 f38 f39 f40 f41 f42 f43 f44 f45 f46 f47 f48 f49 f50 f51 f52 f53 f54 f55 f56 f57 f58:Addr} (X:K.In h) (G:h.Ns yad mg) (hfa:mg "law"=some (.ref fa))
  {od0 an0 od1 an1 od2 an2 od3 an3 od4 an4 od5 an5 od6 an6 od7 an7 od8 an8 od9 an9 od10 an10 od11 an11 od12 an12 od13 an13 od14 an14 od15 an15 od16 an16 od17 an17 od18 an18 od19 an19 od20 an20 od21 an21 od22 an22 od23 an23 od24 an24 od25 an25 od26 an26 od27 an27 od28 an28 od29 an29 od30 an30 od31 an31 od32 an32 od33 an33 od34 an34 od35 an35 od36 an36 od37 an37 od38 an38 od39 an39 od40 an40 od41 an41 od42 an42 od43 an43 od44 an44 od45 an45 od46 an46 od47 an47 od48 an48 od49 an49 od50 an50 od51 an51 od52 an52 od53 an53 od54 an54 od55 an55 od56 an56 od57 an57 od58 an58:Option Addr} {sl0 sl1 sl2 sl3 sl4 sl5 sl6 sl7 sl8 sl9 sl10 sl11 sl12 sl13 sl14 sl15 sl16 sl17 sl18 sl19 sl20 sl21 sl22 sl23 sl24 sl25 sl26 sl27 sl28 sl29 sl30 sl31 sl32 sl33 sl34 sl35 sl36 sl37 sl38 sl39 sl40 sl41 sl42 sl43 sl44 sl45 sl46 sl47 sl48 sl49 sl50 sl51 sl52 sl53 sl54 sl55 sl56 sl57 sl58:Array (Option Value)} {oc0 kV0 dc0 pm0 cd0 ct0 oc1 kV1 dc1 pm1 cd1 ct1 oc2 kV2 dc2 pm2 cd2 ct2 oc3 kV3 dc3 pm3 cd3 ct3 oc4 kV4 dc4 pm4 cd4 ct4 oc5 kV5 dc5 pm5 cd5 ct5 oc6 kV6 dc6 pm6 cd6 ct6 oc7 kV7 dc7 pm7 cd7 ct7 oc8 kV8 dc8 pm8 cd8 ct8 oc9 kV9 dc9 pm9 cd9 ct9 oc10 kV10 dc10 pm10 cd10 ct10 oc11 kV11 dc11 pm11 cd11 ct11 oc12 kV12 dc12 pm12 cd12 ct12 oc13 kV13 dc13 pm13 cd13 ct13 oc14 kV14 dc14 pm14 cd14 ct14 oc15 kV15 dc15 pm15 cd15 ct15 oc16 kV16 dc16 pm16 cd16 ct16 oc17 kV17 dc17 pm17 cd17 ct17 oc18 kV18 dc18 pm18 cd18 ct18 oc19 kV19 dc19 pm19 cd19 ct19 oc20 kV20 dc20 pm20 cd20 ct20 oc21 kV21 dc21 pm21 cd21 ct21 oc22 kV22 dc22 pm22 cd22 ct22 oc23 kV23 dc23 pm23 cd23 ct23 oc24 kV24 dc24 pm24 cd24 ct24 oc25 kV25 dc25 pm25 cd25 ct25 oc26 kV26 dc26 pm26 cd26 ct26 oc27 kV27 dc27 pm27 cd27 ct27 oc28 kV28 dc28 pm28 cd28 ct28 oc29 kV29 dc29 pm29 cd29 ct29 oc30 kV30 dc30 pm30 cd30 ct30 oc31 kV31 dc31 pm31 cd31 ct31 oc32 kV32 dc32 pm32 cd32 ct32 oc33 kV33 dc33 pm33 cd33 ct33 oc34 kV34 dc34 pm34 cd34 ct34 oc35 kV35 dc35 pm35 cd35 ct35 oc36 kV36 dc36 pm36 cd36 ct36 oc37 kV37 dc37 pm37 cd37 ct37 oc38 kV38 dc38 pm38 cd38 ct38 oc39 kV39 dc39 pm39 cd39 ct39 oc40 kV40 dc40 pm40 cd40 ct40 oc41 kV41 dc41 pm41 cd41 ct41 oc42 kV42 dc42 pm42 cd42 ct42 oc43 kV43 dc43 pm43 cd43 ct43 oc44 kV44 dc44 pm44 cd44 ct44 oc45 kV45 dc45 pm45 cd45 ct45 oc46 kV46 dc46 pm46 cd46 ct46 oc47 kV47 dc47 pm47 cd47 ct47 oc48 kV48 dc48 pm48 cd48 ct48 oc49 kV49 dc49 pm49 cd49 ct49 oc50 kV50 dc50 pm50 cd50 ct50 oc51 kV51 dc51 pm51 cd51 ct51 oc52 kV52 dc52 pm52 cd52 ct52 oc53 kV53 dc53 pm53 cd53 ct53 oc54 kV54 dc54 pm54 cd54 ct54 oc55 kV55 dc55 pm55 cd55 ct55 oc56 kV56 dc56 pm56 cd56 ct56 oc57 kV57 dc57 pm57 cd57 ct57 oc58 kV58 dc58 pm58 cd58 ct58:Value} {tk_ASKED_AT_MOST:Tok} {tk_KINDS_AT_MOST:Tok} {tk_MOST:Tok} {tk_WEIGHT:Tok} {tk_WEIGHT_AT_MOST:Tok} {tk_WORTH:Tok}
  (a0:%["most_within",f0|3]) (l0:%["most_within",jU,0|4]) (c0:%["most_within",cd0|5]) (k0:%[f0|6])
  (a1:%["room_left",f1|3]) (l1:%["room_left",y7,1|4]) (c1:%["room_left",cd1|5]) (k1:%[f1|6])
  (a2:%["many_with",f2|3]) (l2:%["many_with",yc,2|4]) (c2:%["many_with",cd2|5]) (k2:%[f2|6])
  (a3:%["filling_counts",f3|3]) (l3:%["filling_counts",zr,3|4]) (c3:%["filling_counts",cd3|5]) (k3:%[f3|6])
  (a4:%["need_few",f4|3]) (l4:%["need_few",uW,4|4]) (c4:%["need_few",cd4|5]) (k4:%[f4|6])
  (a5:%["is_whole",f5|3]) (l5:%["is_whole",uX,5|4]) (c5:%["is_whole",cd5|5]) (k5:%[f5|6])
  (a6:%["is_count",f6|3]) (l6:%["is_count",uY,6|4]) (c6:%["is_count",cd6|5]) (k6:%[f6|6])
  (a7:%["need_count",f7|3]) (l7:%["need_count",yj,7|4]) (c7:%["need_count",cd7|5]) (k7:%[f7|6])
  (a8:%["is_kind",f8|3]) (l8:%["is_kind",wj,8|4]) (c8:%["is_kind",cd8|5]) (k8:%[f8|6])
  (a9:%["is_store",f9|3]) (l9:%["is_store",y8,9|4]) (c9:%["is_store",cd9|5]) (k9:%[f9|6])
  (a10:%["need_store",f10|3]) (l10:%["need_store",yk,10|4]) (c10:%["need_store",cd10|5]) (k10:%[f10|6])
  (a11:%["need_asked",f11|3]) (l11:%["need_asked",ym,11|4]) (c11:%["need_asked",cd11|5]) (k11:%[f11|6])
  (a12:%["filled",f12|3]) (l12:%["filled",qaP,12|4]) (c12:%["filled",cd12|5]) (k12:%[f12|6])
  (a13:%["filling_times",f13|3]) (l13:%["filling_times",zJ,13|4]) (c13:%["filling_times",cd13|5]) (k13:%[f13|6])
  (a14:%["worth_with",f14|3]) (l14:%["worth_with",yn,14|4]) (c14:%["worth_with",cd14|5]) (k14:%[f14|6])
  (a15:%["filling_worths",f15|3]) (l15:%["filling_worths",zt,15|4]) (c15:%["filling_worths",cd15|5]) (k15:%[f15|6])
  (a16:%["most_rows",f16|3]) (l16:%["most_rows",yd,16|4]) (c16:%["most_rows",cd16|5]) (k16:%[f16|6])
  (a17:%["most_filling",f17|3]) (l17:%["most_filling",jv,17|4]) (c17:%["most_filling",cd17|5]) (k17:%[f17|6])
  (a18:%["rounds_taken",f18|3]) (l18:%["rounds_taken",jw,18|4]) (c18:%["rounds_taken",cd18|5]) (k18:%[f18|6])
  (a19:%["weights_product",f19|3]) (l19:%["weights_product",zE,19|4]) (c19:%["weights_product",cd19|5]) (k19:%[f19|6])
  (a20:%["lead_place",f20|3]) (l20:%["lead_place",je,20|4]) (c20:%["lead_place",cd20|5]) (k20:%[f20|6])
  (a21:%["lead_kind",f21|3]) (l21:%["lead_kind",y9,21|4]) (c21:%["lead_kind",cd21|5]) (k21:%[f21|6])
  (a22:%["out_of_rounds",f22|3]) (l22:%["out_of_rounds",zK,22|4]) (c22:%["out_of_rounds",cd22|5]) (k22:%[f22|6])
  (a23:%["heaviest",f23|3]) (l23:%["heaviest",ua,23|4]) (c23:%["heaviest",cd23|5]) (k23:%[f23|6])
  (a24:%["surely_in_rounds",f24|3]) (l24:%["surely_in_rounds",zo,24|4]) (c24:%["surely_in_rounds",cd24|5]) (k24:%[f24|6])
  (a25:%["small_worths",f25|3]) (l25:%["small_worths",zj,25|4]) (c25:%["small_worths",cd25|5]) (k25:%[f25|6])
  (a26:%["worths_before",f26|3]) (l26:%["worths_before",z9,26|4]) (c26:%["worths_before",cd26|5]) (k26:%[f26|6])
  (a27:%["need_light",f27|3]) (l27:%["need_light",yo,27|4]) (c27:%["need_light",cd27|5]) (k27:%[f27|6])
  (a28:%["need_endless",f28|3]) (l28:%["need_endless",zZ,28|4]) (c28:%["need_endless",cd28|5]) (k28:%[f28|6])
  (a29:%["need_light_endless",f29|3]) (l29:%["need_light_endless",qW,29|4]) (c29:%["need_light_endless",cd29|5]) (k29:%[f29|6])
  (a30:%["need_endless_asked",f30|3]) (l30:%["need_endless_asked",qX,30|4]) (c30:%["need_endless_asked",cd30|5]) (k30:%[f30|6])
  (a31:%["endless_worth",f31|3]) (l31:%["endless_worth",ja,31|4]) (c31:%["endless_worth",cd31|5]) (k31:%[f31|6])
  (a32:%["_law_take",f32|3]) (l32:%["_law_take",ub,32|4]) (c32:%["_law_take",cd32|5]) (k32:%[f32|6])
  (a33:%["all_filled",f33|3]) (l33:%["all_filled",jK,33|4]) (c33:%["all_filled",cd33|5]) (k33:%[f33|6])
  (a34:%["greatest_divisor",f34|3]) (l34:%["greatest_divisor",zp,34|4]) (c34:%["greatest_divisor",cd34|5]) (k34:%[f34|6])
  (a35:%["weights_divisor",f35|3]) (l35:%["weights_divisor",zF,35|4]) (c35:%["weights_divisor",cd35|5]) (k35:%[f35|6])
  (a36:%["never_rooms",f36|3]) (l36:%["never_rooms",zk,36|4]) (c36:%["never_rooms",cd36|5]) (k36:%[f36|6])
  (a37:%["never_many",f37|3]) (l37:%["never_many",yp,37|4]) (c37:%["never_many",cd37|5]) (k37:%[f37|6])
  (a38:%["never_filled",f38|3]) (l38:%["never_filled",jx,38|4]) (c38:%["never_filled",cd38|5]) (k38:%[f38|6])
  (a39:%["_law_never_right",f39|3]) (l39:%["_law_never_right",qH,39|4]) (c39:%["_law_never_right",cd39|5]) (k39:%[f39|6])
  (a40:%["_law_endless",f40|3]) (l40:%["_law_endless",jy,40|4]) (c40:%["_law_endless",cd40|5]) (k40:%[f40|6])
  (a41:%["best_with",f41|3]) (l41:%["best_with",ye,41|4]) (c41:%["best_with",cd41|5]) (k41:%[f41|6])
  (a42:%["best_rows",f42|3]) (l42:%["best_rows",yf,42|4]) (c42:%["best_rows",cd42|5]) (k42:%[f42|6])
  (a43:%["best_worths",f43|3]) (l43:%["best_worths",jV,43|4]) (c43:%["best_worths",cd43|5]) (k43:%[f43|6])
  (a44:%["best_worth",f44|3]) (l44:%["best_worth",yq,44|4]) (c44:%["best_worth",cd44|5]) (k44:%[f44|6])
  (a45:%["least_filling",f45|3]) (l45:%["least_filling",zM,45|4]) (c45:%["least_filling",cd45|5]) (k45:%[f45|6])
  (a46:%["can_take",f46|3]) (l46:%["can_take",uZ,46|4]) (c46:%["can_take",cd46|5]) (k46:%[f46|6])
  (a47:%["is_load",f47|3]) (l47:%["is_load",vf,47|4]) (c47:%["is_load",cd47|5]) (k47:%[f47|6])
  (a48:%["taken_together",f48|3]) (l48:%["taken_together",zu,48|4]) (c48:%["taken_together",cd48|5]) (k48:%[f48|6])
  (a49:%["need_load",f49|3]) (l49:%["need_load",uc,49|4]) (c49:%["need_load",cd49|5]) (k49:%[f49|6])
  (a50:%["weight",f50|3]) (l50:%["weight",qaQ,50|4]) (c50:%["weight",cd50|5]) (k50:%[f50|6])
  (a51:%["worth",f51|3]) (l51:%["worth",qbU,51|4]) (c51:%["worth",cd51|5]) (k51:%[f51|6])
  (a52:%["fills_many",f52|3]) (l52:%["fills_many",yr,52|4]) (c52:%["fills_many",cd52|5]) (k52:%[f52|6])
  (a53:%["fewest_of_most",f53|3]) (l53:%["fewest_of_most",zv,53|4]) (c53:%["fewest_of_most",cd53|5]) (k53:%[f53|6])
  (a54:%["fill",f54|3]) (l54:%["fill",qdY,54|4]) (c54:%["fill",cd54|5]) (k54:%[f54|6])
  (a55:%["_law_room_right",f55|3]) (l55:%["_law_room_right",zb,55|4]) (c55:%["_law_room_right",cd55|5]) (k55:%[f55|6])
  (a56:%["_law_store",f56|3]) (l56:%["_law_store",yt,56|4]) (c56:%["_law_store",cd56|5]) (k56:%[f56|6])
  (a57:%["_law_box",f57|3]) (l57:%["_law_box",u4,57|4]) (c57:%["_law_box",cd57|5]) (k57:%[f57|6])
  (a58:%["law",f58|3]) (l58:%["law",qeJ,58|4]) (c58:%["law",cd58|5]) (k58:%[f58|6])
  (zb_all:yaf K yad "all"=some none)
  (zb_any:yaf K yad "any"=some none)
  (zb_bool:yaf K yad "bool"=some none)
  (zb_divmod:yaf K yad "divmod"=some none)
  (zb_enumerate:yaf K yad "enumerate"=some none)
  (zb_int:yaf K yad "int"=some none)
  (zb_isinstance:yaf K yad "isinstance"=some none)
  (zb_len:yaf K yad "len"=some none)
  (zb_max:yaf K yad "max"=some none)
  (zb_min:yaf K yad "min"=some none)
  (zb_range:yaf K yad "range"=some none)
  (zb_reversed:yaf K yad "reversed"=some none)
  (zb_set:yaf K yad "set"=some none)
  (zb_sorted:yaf K yad "sorted"=some none)
  (zb_sum:yaf K yad "sum"=some none)
  (zb_tuple:yaf K yad "tuple"=some none)
  (zb_zip:yaf K yad "zip"=some none)
  (zg_ASKED_AT_MOST:yaf K yad "ASKED_AT_MOST"=some (some (.int 200 tk_ASKED_AT_MOST)))
  (zg_KINDS_AT_MOST:yaf K yad "KINDS_AT_MOST"=some (some (.int 12 tk_KINDS_AT_MOST)))
  (zg_MOST:yaf K yad "MOST"=some (some (.int 2 tk_MOST)))
  (zg_WEIGHT:yaf K yad "WEIGHT"=some (some (.int 0 tk_WEIGHT)))
  (zg_WEIGHT_AT_MOST:yaf K yad "WEIGHT_AT_MOST"=some (some (.int 20 tk_WEIGHT_AT_MOST)))
  (zg_WORTH:yaf K yad "WORTH"=some (some (.int 1 tk_WORTH))) :
  ∃fd:ybn,(∀(s:yab)(v:Value),yfy s fd ⟨[v],[]⟩ [("script",v)])/\∀base:Heap,K.In base->base.Ns yad mg->qe5 l.prog w K mg base CX0 10 fa fd ["script"] (spD K qg1):=by
 have e:=hfa.symm.trans (yak X G a58)
 cases e
 have T:Txt K mg:=⟨yaC X G zb_all,yaC X G zb_any,yaC X G zb_bool,yaC X G zb_divmod,yaC X G zb_enumerate,yaC X G zb_int,yaC X G zb_isinstance,yaC X G zb_len,yaC X G zb_max,yaC X G zb_min,yaC X G zb_range,yaC X G zb_reversed,yaC X G zb_set,yaC X G zb_sorted,yaC X G zb_sum,yaC X G zb_tuple,yaC X G zb_zip,⟨_,yak X G zg_ASKED_AT_MOST⟩,⟨_,yak X G zg_KINDS_AT_MOST⟩,⟨_,yak X G zg_MOST⟩,⟨_,yak X G zg_WEIGHT⟩,⟨_,yak X G zg_WEIGHT_AT_MOST⟩,⟨_,yak X G zg_WORTH⟩⟩
 refine⟨yal "law" "law" (qo qeJ) (ql qeJ) (qd qeJ) .none kV58 dc58 pm58 an58 cd58 ct58,λs v => .of_eq rfl,λbase hB _=>?_⟩
 have Cr:=%[q0,jU,0|7]
 have Ci:=%[q1,y7,1|7]
 have CT:=%[q2,yc,2|7] Cr Ci
 have Co:=%[q3,zr,3|7] CT
 have CZ:=%[q4,uW,4|7]
 have C5:=%[q5,uX,5|7]
 have Ck:=%[q6,uY,6|7] C5
 have CA:=%[q7,yj,7|7] Ck
 have C0:=%[q8,wj,8|7] Ck
 have CY:=%[q9,y8,9|7] C0
 have Ch:=%[q10,yk,10|7] CY
 have Cb:=%[q11,ym,11|7] CZ CA Ch
 have Cj:=%[q12,qaP,12|7] Co Cb
 have CF:=%[q13,zJ,13|7] Ci Cr
 have Cs:=%[q14,yn,14|7] Ci
 have CC:=%[q15,zt,15|7] CF Cs
 have Cv:=%[q16,yd,16|7] CC
 have Cy:=%[q17,jv,17|7] Cv Cb
 have CN:=%[q18,jw,18|7]
 have CK:=%[q19,zE,19|7]
 have C8:=%[q20,je,20|7] CK
 have Cm:=%[q21,y9,21|7] C8
 have CQ:=%[q22,zK,22|7]
 have Cq:=%[q23,ua,23|7]
 have C1:=%[q24,zo,24|7] Cq Cm
 have CO:=%[q25,zj,25|7] C1
 have CU:=%[q26,z9,26|7] CQ Cm CO
 have Cg:=%[q27,yo,27|7] Cq
 have Cu:=%[q28,zZ,28|7]
 have Cp:=%[q29,qW,29|7] Cg Cu Ch
 have CP:=%[q30,qX,30|7] Cp CA Ch
 have Za:=%[q31,ja,31|7] CN Cm CU CP
 have Cd:=%[q32,ub,32|7]
 have CH:=%[q33,jK,33|7] Co Cb
 have C7:=%[q34,zp,34|7]
 have CI:=%[q35,zF,35|7] C7
 have Cw:=%[q36,zk,36|7] Cq
 have C9:=%[q37,yp,37|7] CI Cw Cp
 have Zb:=%[q38,jx,38|7] Cw CI Cp
 have C6:=%[q39,qH,39|7] Cj CH C9 Zb
 have CJ:=%[q40,jy,40|7] Cd
 have C2:=%[q41,ye,41|7] Cr Cs
 have Zc:=%[q42,yf,42|7] C2
 have CM:=%[q43,jV,43|7] Zc Cb
 have Ct:=%[q44,yq,44|7] CM
 have CW:=%[q45,zM,45|7] CC Cb
 have Zd:=%[q46,uZ,46|7] Ck
 have CD:=%[q47,vf,47|7] Zd Ch
 have CG:=%[q48,zu,48|7]
 have Cz:=%[q49,uc,49|7] CD
 have Cf:=%[q50,qaQ,50|7] CG Cz
 have Cc:=%[q51,qbU,51|7] CG Cz
 have CL:=%[q52,yr,52|7] Co Cb
 have CS:=%[q53,zv,53|7] Cs CF
 have Ca:=%[q54,qdY,54|7] Ci CS Cv Cb
 have CV:=%[q55,zb,55|7] Ct CH CW CD Cf Cc CL Cj Cy Ca
 have C3:=%[q56,yt,56|7] Cd
 have C4:=%[q57,u4,57|7]
 exact qr5 (P:=l.prog) (w:=w) (base:=base) (qB (st:=qeJ) l58 c58 k58) T Cj Cy Za Cd C6 CJ CV C3 C4
theorem qta {K:Fr0} {H:Hp} {a:Addr} {ns:List Int} (hO:qr8 H) (hS:SqL K H a (ns.map V.int)):qqL K H a (ns.map V.int):=by
 rcases hS with(h|h)|h
 ·rcases hO a with z|z
  ·rw[h]at z;cases z
  ·rcases z with⟨_,_,z⟩|⟨_,_,z⟩<;>(rw[h]at z;cases z)
 ·exact .inl h
 ·exact .inr h
theorem walk {l:yfg} {q:yar} {loose:List Str} {XP:(Str->Option Value)->Heap->Prop} {YP:World->Heap->Prop} {d:DefRec} {K:Params->yas} (hn:l.most=some 63) (hdf:d.params.defaults=[])
  (hY:∀(w:World)(h:Heap),YP w h->(K w.params).In h) (hlm:∀(w:World)(mean:ExcName->Option Value)(mg mb:Str->Option Value)(h:Heap)(c Pt:Addr)(pos:Pos),Top q (PySem.W.looseW q loose) mean mg mb h->(K w.params).In h->lamOf (K w.params)=some (c,Pt,pos)->yfz h c Pt/\h.get? Pt=some (yfA #[])/\(K w.params).lookup Pt=none) (hlaw:∀ns:List Int,ns.length<=63->qg1 [.fz ns]=.ok (.bl true))
  (F:∀(w:World)(mg:Str->Option Value)(fa:Addr)(h:Heap),(K w.params).In h->h.Ns yad mg->mg d.name=some (.ref fa) ->
   ∃fd:ybn,(∀(s:yab)(u:Value),yfy s fd ⟨[u],[]⟩ [("script",u)])/\∀base:Heap,(K w.params).In base->base.Ns yad mg->qe5 l.prog w (K w.params) mg base CX0 10 fa fd ["script"] (spD (K w.params) qg1)) :
  PySem.W.WalkO q loose XP YP l.row.toRowW d [] (λf vs=>ygT f vs) :=
 L2.walk_lam (n:=63) (k:=10) (x:="script") (CX:=λ_=>CX0) (sp:=λw=>spD (K w.params) qg1) (lm:=λw=>(lamOf (K w.params)).map λz=>(z.1,z.2.1,z.2.2,qsG)) hn (by decide) hdf ⟨rfl,by decide,by decide,rfl⟩ hY (λw mean mg mb h c Pt pos z T X e=>by
  cases el:lamOf (K w.params) with
  |none=>rw[el]at e;cases e
  |some p=>obtain⟨c',P',pos'⟩:=p;rw[el]at e;cases e;exact hlm w mean mg mb h _ _ _ T X el) F (λw H a ns hl hO hT hS=>by
  refine⟨[.fz ns],λ_=>False,⟨.ref a,[],rfl,⟨a,rfl,qta hO hS⟩,rfl⟩,λc P pos e=>⟨hT c P pos qsG (by rw[e];rfl),λz=>z⟩,?_⟩
  rw[hlaw ns hl]
  exact λv H' _ h=>h) λ_ _ _ _ _ z=>z
end Law
end L2.Sk
open PySem PySem.W PyProof.Rows
set_option maxRecDepth 100000 in
set_option maxHeartbeats 0 in
theorem PySem.Challenge.cw_sackloads_k55_whole_fills_holds : PySem.Challenge.rw_sackloads_k55_whole_fills.Holds := by
 w_on;o_law;k_head;(case hw=>w_witness2)
 k_fill
 refine L2.Sk.Law.walk (l:=PySem.Challenge.rw_sackloads_k55_whole_fills) rfl rfl (λw h Y=>by first|exact PySem.W.kIn_of Y|exact PySem.W.km_in_of Y) ?hlm0 L2.Sk.Law.law_true ?F
 case hlm0=>
  intro w mean mg mb h c Pt pos T X e
  exact absurd ((show L2.Sk.lamOf _=none by kernel_rfl).symm.trans e) (by simp)
 case F=>
  intro w mg fa h KX G hmg
  refine' L2.Sk.Law.all_mk KX G hmg ?a0 ?l0 ?c0 ?k0 ?a1 ?l1 ?c1 ?k1 ?a2 ?l2 ?c2 ?k2 ?a3 ?l3 ?c3 ?k3 ?a4 ?l4 ?c4 ?k4 ?a5 ?l5 ?c5 ?k5 ?a6 ?l6 ?c6 ?k6 ?a7 ?l7 ?c7 ?k7 ?a8 ?l8 ?c8 ?k8 ?a9 ?l9 ?c9 ?k9 ?a10 ?l10 ?c10 ?k10 ?a11 ?l11 ?c11 ?k11 ?a12 ?l12 ?c12 ?k12 ?a13 ?l13 ?c13 ?k13 ?a14 ?l14 ?c14 ?k14 ?a15 ?l15 ?c15 ?k15 ?a16 ?l16 ?c16 ?k16 ?a17 ?l17 ?c17 ?k17 ?a18 ?l18 ?c18 ?k18 ?a19 ?l19 ?c19 ?k19 ?a20 ?l20 ?c20 ?k20 ?a21 ?l21 ?c21 ?k21 ?a22 ?l22 ?c22 ?k22 ?a23 ?l23 ?c23 ?k23 ?a24 ?l24 ?c24 ?k24 ?a25 ?l25 ?c25 ?k25 ?a26 ?l26 ?c26 ?k26 ?a27 ?l27 ?c27 ?k27 ?a28 ?l28 ?c28 ?k28 ?a29 ?l29 ?c29 ?k29 ?a30 ?l30 ?c30 ?k30 ?a31 ?l31 ?c31 ?k31 ?a32 ?l32 ?c32 ?k32 ?a33 ?l33 ?c33 ?k33 ?a34 ?l34 ?c34 ?k34 ?a35 ?l35 ?c35 ?k35 ?a36 ?l36 ?c36 ?k36 ?a37 ?l37 ?c37 ?k37 ?a38 ?l38 ?c38 ?k38 ?a39 ?l39 ?c39 ?k39 ?a40 ?l40 ?c40 ?k40 ?a41 ?l41 ?c41 ?k41 ?a42 ?l42 ?c42 ?k42 ?a43 ?l43 ?c43 ?k43 ?a44 ?l44 ?c44 ?k44 ?a45 ?l45 ?c45 ?k45 ?a46 ?l46 ?c46 ?k46 ?a47 ?l47 ?c47 ?k47 ?a48 ?l48 ?c48 ?k48 ?a49 ?l49 ?c49 ?k49 ?a50 ?l50 ?c50 ?k50 ?a51 ?l51 ?c51 ?k51 ?a52 ?l52 ?c52 ?k52 ?a53 ?l53 ?c53 ?k53 ?a54 ?l54 ?c54 ?k54 ?a55 ?l55 ?c55 ?k55 ?a56 ?l56 ?c56 ?k56 ?a57 ?l57 ?c57 ?k57 ?a58 ?l58 ?c58 ?k58 ?zb_all ?zb_any ?zb_bool ?zb_divmod ?zb_enumerate ?zb_int ?zb_isinstance ?zb_len ?zb_max ?zb_min ?zb_range ?zb_reversed ?zb_set ?zb_sorted ?zb_sum ?zb_tuple ?zb_zip ?zg_ASKED_AT_MOST ?zg_KINDS_AT_MOST ?zg_MOST ?zg_WEIGHT ?zg_WEIGHT_AT_MOST ?zg_WORTH
  (case a0|l0|c0|k0|a1|l1|c1|k1|a2|l2|c2|k2|a3|l3|c3|k3|a4|l4|c4|k4|a5|l5|c5|k5|a6|l6|c6|k6|a7|l7|c7|k7|a8|l8|c8|k8|a9|l9|c9|k9|a10|l10|c10|k10|a11|l11|c11|k11|a12|l12|c12|k12|a13|l13|c13|k13|a14|l14|c14|k14|a15|l15|c15|k15|a16|l16|c16|k16|a17|l17|c17|k17|a18|l18|c18|k18|a19|l19|c19|k19|a20|l20|c20|k20|a21|l21|c21|k21|a22|l22|c22|k22|a23|l23|c23|k23|a24|l24|c24|k24|a25|l25|c25|k25|a26|l26|c26|k26|a27|l27|c27|k27|a28|l28|c28|k28|a29|l29|c29|k29|a30|l30|c30|k30|a31|l31|c31|k31|a32|l32|c32|k32|a33|l33|c33|k33|a34|l34|c34|k34|a35|l35|c35|k35|a36|l36|c36|k36|a37|l37|c37|k37|a38|l38|c38|k38|a39|l39|c39|k39|a40|l40|c40|k40|a41|l41|c41|k41|a42|l42|c42|k42|a43|l43|c43|k43|a44|l44|c44|k44|a45|l45|c45|k45|a46|l46|c46|k46|a47|l47|c47|k47|a48|l48|c48|k48|a49|l49|c49|k49|a50|l50|c50|k50|a51|l51|c51|k51|a52|l52|c52|k52|a53|l53|c53|k53|a54|l54|c54|k54|a55|l55|c55|k55|a56|l56|c56|k56|a57|l57|c57|k57|a58|l58|c58|k58|zb_all|zb_any|zb_bool|zb_divmod|zb_enumerate|zb_int|zb_isinstance|zb_len|zb_max|zb_min|zb_range|zb_reversed|zb_set|zb_sorted|zb_sum|zb_tuple|zb_zip|zg_ASKED_AT_MOST|zg_KINDS_AT_MOST|zg_MOST|zg_WEIGHT|zg_WEIGHT_AT_MOST|zg_WORTH=>k_is)
