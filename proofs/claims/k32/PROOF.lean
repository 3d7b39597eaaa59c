import PyProof.Rows.All
import Wide.All
import OpenK.AllK
import Wide.FinOn
import Lean
import PyProof.EqAt
import PyProof.EqKinds
import PyProof.TupleCall
import KE.KUnpack
import PySem.Challenge.RW_sackloads_k32_cuts_looked_at
namespace PySem.W.Fast
def tw18294736371557253:Nat:=0
def tw4050190842384425985:Nat:=0
def tw10593377366420840363:Nat:=0
def tw4157879906178933718:Nat:=0
def tw6499319969115959173:Nat:=0
def tw18102477601493055658:Nat:=0
def tw1506831604336160363:Nat:=0
def tw11947278814315777916:Nat:=0
def tw3144488714995098052:Nat:=0
def tw8090881979223059732:Nat:=0
def tw9835258402497194232:Nat:=0
def tw18193100316167958572:Nat:=0
def tw4891385254644082181:Nat:=0
def tw17116018709070440114:Nat:=0
end PySem.W.Fast
open PySem renaming wpAny_bind→yaa,Shared→yab,mainGlobals→yad,wpAny_pure→yag,starEach→yah,sizeLine→yaq,Program→yar,Around→yas,bootBuiltins→yaz,wpAny_field→yaC,compareOp→yaL,wpAny_newObj_type→yaN,FuncData→yaP,backTo→yaR,Env→yaU,mem_of_lookup→yaW,wpAny_holding→yba,wpAny_truthy_bool→ybc,wpAny_mono→ybf,IsPair→ybm,wpAny_seqItems→ybo,binaryOp→ybp,wpAny_setField_rec→ybu,assignEach→ybx,behindInMarks→ybD,wpAny_call_entry→ybG,sizeLine_eq→ybH,rawInt→ybI,wpAny_passesOwn→ybO,foldedSetIterable→ybS,call_meets→ybU,codeAny→ybW,builtinsNs→yb3,wpAny_loadPart'→yb5,sliceBounds→yb7,sysModules→ycc,assign→ycg,Keyword→ycm,Builtin→ycn,getItem→yco,wpAny_execs_nil→yct,letOwnedTupleGo→ycu,wpAny_Call_Name_kw→ycz,IsPart→ycB,wpAny_pyIter_tuple→ycD,wpAny_setField→ycG,not_mem_of_deeper→ycK,pyNext→ycL,wpAny_standAt→ycP,swapsWithSole→ycQ,swappedStores→ycR,attributeBase→ycT,NameKind→ycW,swapsWith→yc0,wpAny_rule→yc5,wpAny_typeOf→yc7,wpAny_updateSeq_pair→ydb,holding→ydj,recursionLimit→ydk,leaving→ydl,keywordEach→ydq,wpAny_Constant_int→ydr,cellsFrom→ydu,setFlight→ydy,wpAny_newFunctionEnv_cells→ydE,wpAny_onRaise→ydG,wpAny_sequenceKey→ydJ,typeIs_int→ydM,wpAny_binaryOp_repeat_ref→ydN,BindsTo→ydQ,callerA→ydR,wpAny_eqBool_int→ydS,Result→ydT,codeAny_mono→ydU,noFill_tuple_add→ydW,wpAny_getItem_list_slice→ydX,wpAny_comprehension_free→ydY,Arguments→yec,codeAny_builtin→yed,noteFrame→yee,wpAny_updateSeq→yeh,codeAny_compStart_list→yem,wpAny_letGo→yen,wpAny_isTrue_Compare1→yep,codeAny_call_function→yes,wpAny_newTuple→yew,builtinLookup_eq_fast→yeA,backToKw→yeH,codeAny_call_builtin→yeK,compEnvC→yeL,wpAny_newFunctionEnv→yeM,assignInOrder→yeR,seq_tuple_add→yeS,evalPart_none→yeU,wpAny_isSubtype_exc→yeX,PassesOwn→ye6,concat_meets→yfb,seqIndex_neg→yfe,slicePick→yff,Fin→yfo,intKind→yfu,wpAny_assign_Name→yfv,wpAny_pyIter_list→yfB,sizeLine_eq→yfD,wpAny_pyIter_enum→yfE,wpAny_loadPart_at→yfG,seqIndex_of→yfN,excClassObj→yfO,GenState→yfP,bindName→yfQ,compPost→yfR,ReadsAll→yfS,wpAny_Name→yfT,typeLookup→yfU,call→yfW,sliceRange→yfX
open Nat renaming le_refl→yac,le_trans→yau,lt_of_lt_of_le→yaw,ne_of_lt→yax,zero_le→yaD,zero_add→yaV,gcd→ya9,reduceAdd→ybs,lt_of_le_of_lt→ybw,lt_irrefl→ybC,mul_le_mul_left→yb1,le_of_lt→ycx,ne_of_gt→ycy,le_of_not_lt→ycX,min_eq_left→ydc,mul_le_mul_right→ydf,pow_le_pow_right→ydg,le_add_right→ydZ,le_max_right→yd3,gcd_comm→yd4,gcd_pos_of_pos_right→yd5,exists_eq_add_of_le→yd7,le_max_left→yei,div_le_self→yek,le_div_iff_mul_le→yeC,succ_mul→yfg,mul_comm→yfh,lt_trans→yfi,gcd_zero_right→yft,log2_lt→yfM
open PySem.W renaming keepIn→yae,nsIn→yaf,mg_of→yai,codeIn→yak,Frag→yan,fnOf→yao,mg_none_of→yaG,kia_one→yaY,findIn→ybE,cellsFrom_some→ycM,methodObj→ydH,kitx_list→ydI,kat_cons→yd1,instObj→yeb,OpenLaw→yef,kat_yes→yeg,lookIn→yeq,kitOne→yer,CodeHd→yeu,tabObj→yev,kat_no→yez,kitx_tuple→ye7,callWith_K→ye8,codeRec_of→ye9,specialIn→yfx,kitx_dict→yfy
open PySem.Value renaming ref→yaj,none→yaA,bool→yaQ,int→ybB,type→yb2,builtin→ycU,isInt→yfK
open Bool renaming and_eq_true→yal,false_ne_true→yap,and_self→yaF,false_eq_true→yaX,true_and→ybb,eq_iff_iff→ybg,false_and→ybV,not_eq_true'→yb8,or_eq_true→yda,and_false→yet,or_true→yfj
open PySem.Heap renaming lt_size→yam,SameBut→ybX,size_update→ycY,size_push→ydp,MadeExcOf→yey
open List renaming replicate→yat,mem_cons→yav,range→yay,length_singleton→yaJ,length_take→yaT,lookup_cons→ya7,filterMap_cons→ybe,append_nil→ybh,length_replicate→ybl,getElem_mem→ybn,mem_of_getElem?→yby,nil_append→ybz,length_drop→ybF,set_cons_zero→ybM,flatten_cons→ybT,map_nil→yca,mem_append_left→ycd,countP_cons→yce,all_cons→yci,length_reverse→ycr,forIn_cons→ycw,filterMap_map→ycC,reverse_cons→ycJ,drop_of_length_le→ycO,any_cons→ycS,take_succ_eq_append_getElem→ycZ,length_filter_le→yc4,of_mem_zip→yc6,forIn_nil→ydo,set_cons_succ→ydA,flatMap_cons→ydK,drop_eq_getElem_cons→ydO,take_of_length_le→yeo,mem_iff_getElem?→yex,singleton_append→yeB,countP_le_length→yeE,foldl→yeJ,getElem_toArray→yeN,mem_of_mem_drop→yeP,mem_of_mem_take→yeQ,toList_toArray→yeZ,map_congr_left→ye0,zip_cons_cons→yfa,all_map→yfq,take_sublist→yfz
open PySem.PyData renaming depthAll→yaB,showableAll→yaI,depth→ya0,eqv→ya1,showable→ya6,canLayAll0→ybd,shownAll→ybj,canLay0→ybt,leavesShortAll→ybv,shown→ybL,leavesShort→ybN,weightAll→yb0,weight→ycj,hasDictAll→yfJ
open PySem.Builtin.SmallTypes renaming nextOf→yaE,ownedTupleIsFree→yaH,ownedTupleHandOut→ycE
open PySem.Obj renaming mapSeq→yaK,data_mapFields→ybK,isFreed_of_fields→yc3,mapFields→yeV,cls_mapFields→yfC
open Option.some renaming inj→yaM
open Int renaming toNat_natCast→yaO,toNat_of_nonneg→ybq,natAbs_natCast→yb6,fdiv_eq_ediv_of_nonneg→ydC,fmod_eq_emod_of_nonneg→ydD,eq_ofNat_of_zero_le→yd9,ediv_nonneg→yej,ediv_one→yfc,emod_lt_of_pos→yfr
open PySem.PassesOwn renaming never→yaS
open PySem.Builtin.Tuple renaming tupleExact→yaZ,tupleItemsOf→ych,tupleIsExact→ydF
open PyProof.Rows renaming slot_tuple_getitem→ya2,envOfC→ybi,IntsAre→ybP,kindOf→yb9,callWith_type1→ycb,tuples'→ycf,AllBare→ycl,seqObj→ycF,entry_tuple_getitem→ydh,slicePart_none→ydm,assignInOrder_cons→yds,args_tuple_getitem→ydw,subscriptTail_builtinR→yel,tupleItemsOf_→yeT,listUpdate_at→yeW,keyLt'→ye1,assignInOrder_nil→yfw,Subscript_→yfV
open Or renaming inr→ya3,inl→ybr
open PySem.NameKind renaming free→ya4,cell→ycV
open False renaming elim→ya5
open PySem.Builtin.Slice renaming slicePlaces→ya8,sliceApplied→ybQ,sliceAdjust→ycv,sliceFields→ydL
open Ne renaming symm→ybk
open ForInStep renaming yield→ybA
open PySem.Str renaming ofString→ybJ
open PySem.F renaming slot_tuple_iterator_next→ybR,plain_extend_loop→ycs,args_tuple_add_2→ycA,entry_tuple_add→ycH,slot_list_index→ycI,slot_tuple_add→ycN,typeOf_object_class→yc2,slot_int_rmul→yc9,slot_zip_next→yde,args_tuple_iterator_next_1→ydn,entry_tuple_iterator_next→ydx,plainAttrs_list→yd6,slot_list_count→yea,args_list_count_2→yeY,entry_extend_loop→ye2,entry_list_count→yfk,args_int_rmul_2→yfA,slot_list_count→yfH,args_zip_next_1→yfI
open PySem.Builtin.List renaming listTooLong→ybY,listExtendWith→ydz,listSameRef→yd2,listUpdate→yd8
open PySem.AutoSeq1 renaming wpAny_loadPart'→ybZ,sub_tuple_tuple→ydV
open True renaming intro→yb4
open Sum renaming inl→yck,inr→ydP
open Array renaming length_toList→ycp,forIn_toList→yfp
open PySem.Heap.SameBut renaming update→ycq,refl→yfF
open LawfulBEq renaming eq_of_beq→yc1
open PySem.SeqAt.EqAt renaming bool_bool→yc8,int_int→ydv,int_str→ye3,str_int→ye4
open Option renaming map_some→ydd,bind_some→yd0
open PySem.EntryCells renaming newEntry→ydi
open PyProof.Rows.IsTup renaming new→ydt
open PySem.Calls renaming Name_function_global→ydB,evalArgs_plain→yeI,Constant_str→ye5
open Classical renaming choose_spec→yeD
open PySem.Around renaming frames_deeper→yeF,under_plainId→yeO
open PySem.SeqAt renaming EqAt→yeG,list_countAt→yfl,list_indexAt→yfm,readOf→yfn
open PySem.Heap.IsSliceOf renaming new→yfd
open PySem.Data renaming fields→yfL
set_option linter.all false
set_option Elab.async false
set_option maxRecDepth 100000
open List renaming mem_cons_of_mem → mM, mem_cons_self → mS_, getElem?_eq_getElem → gG, length_cons → lC_, length_map → lM_, length_append → lA_, getElem?_map → gM_, map_cons → mC_, mem_append → mA_, length_range → lR_, length_nil → lN_, size_toArray → sT_, mem_range → mR_, mem_map → mP_, map_map → mm_, replicate_succ → rS_, length_set → lS_, not_mem_nil → nN_, append_assoc → aA_, getElem?_eq_some_iff → gI_, foldl_cons → fo_, mem_singleton → ms_, mem_append_right → mr_, filter_cons → ft_
namespace L2
open PySem PySem.Spec PyProof.Rows
abbrev Key:=Sum Int Str
def qdT:Key->Value->Bool
 |.inl k,v=>yfK k v
 |.inr x,v=>Value.isStrOf x v
def qqw (w:World):Key->Int
 |.inl k=>hashInt k
 |.inr x=>hashStr w x
theorem z8:∀{k:Key}{v:Value},qdT k v=true->(∃i t,k=yck i/\v=ybB i t)\/(∃x t,k=ydP x/\v=Value.str x t)
 |.inl i,v,h=>by
  obtain⟨t,e⟩:=Value.isInt_shape (k:=i) (v:=v) h
  exact .inl ⟨i,t,rfl,e⟩
 |.inr x,v,h=>by
  obtain⟨t,e⟩:=Value.isStrOf_shape (x:=x) (v:=v) h
  exact .inr ⟨x,t,rfl,e⟩
theorem qg8(i:Int)(t:Tok):qdT (.inl i) (.int i t)=true:=by simp[qdT,yfK]
theorem qg9(x:Str)(t:Tok):qdT (.inr x) (.str x t)=true:=by simp[qdT,Value.isStrOf]
theorem qmN (a b:Int):decide ((yck a:Key)=yck b)=(a==b):=by
 by_cases e:a=b
 ·subst e;simp
 ·have h:¬(yck a:Key)=yck b:=λq=>e (Sum.inl.inj q)
  rw[decide_eq_false h]
  exact(beq_eq_false_iff_ne.mpr e).symm
theorem qmO (a b:Str):decide ((ydP a:Key)=ydP b)=decide (a=b):=by
 by_cases e:a=b
 ·subst e;simp
 ·have h:¬(ydP a:Key)=ydP b:=λq=>e (Sum.inr.inj q)
  rw[decide_eq_false h,decide_eq_false e]
theorem qmP(a:Int)(b:Str):decide ((yck a:Key)=ydP b)=false:=decide_eq_false (λq=>nomatch q)
theorem qmQ(a:Str)(b:Int):decide ((ydP a:Key)=yck b)=false:=decide_eq_false (λq=>nomatch q)
def qbW (prog:yar) (w:World):PySem.KeyKind prog w Key where
 is:=qdT
 hash:=qqw w
 inj:=λv a b ha hb=>by
  rcases z8 ha with⟨i,t,rfl,rfl⟩|⟨x,t,rfl,rfl⟩
  ·rcases z8 hb with⟨j,u,rfl,e⟩|⟨y,u,rfl,e⟩
   ·injection e with e1 _;rw[e1]
   ·exact nomatch e
  ·rcases z8 hb with⟨j,u,rfl,e⟩|⟨y,u,rfl,e⟩
   ·exact nomatch e
   ·injection e with e1 _;rw[e1]
 byValue:=λk v h=>by
  rcases z8 h with⟨i,t,rfl,rfl⟩|⟨x,t,rfl,rfl⟩<;>rfl
 pyHash:=λhv h=>by
  rcases z8 hv with⟨i,t,rfl,rfl⟩|⟨x,t,rfl,rfl⟩
  ·exact wpAny_pyHash_int h
  ·exact wpAny_pyHash_str h
 eqBool:=λhu hv h=>by
  rcases z8 hu with⟨i,t,rfl,rfl⟩|⟨x,t,rfl,rfl⟩
  ·rcases z8 hv with⟨j,u,rfl,rfl⟩|⟨y,u,rfl,rfl⟩
   ·rw[qmN]at h;exact ydS h
   ·rw[qmP]at h;exact ye3 i t y u _ _ _ _ h
  ·rcases z8 hv with⟨j,u,rfl,rfl⟩|⟨y,u,rfl,rfl⟩
   ·rw[qmQ]at h;exact ye4 x t j u _ _ _ _ h
   ·rw[qmO]at h;exact wpAny_eqBool_str h
 «strs»:=λk x t v h=>by
  rcases z8 h with⟨i,u,rfl,e⟩|⟨y,u,rfl,e⟩
  ·exact nomatch e
  ·injection e with e1 _
   subst e1
   cases v<;>rfl
end L2
namespace L2
open PySem PySem.Spec PyProof.Rows
inductive V where
 |non|bl (b:Bool)|int (i:Int)|str (x:Str)|byt (b:Array UInt8)|flt (b:UInt64)|ref (a:Addr)|ty (n:String)
 deriving DecidableEq
def yg:V->Value->Prop
 |.non,u=>u=yaA
 |.bl b,u=>u=yaQ b
 |.int i,u=>∃t,u=ybB i t
 |.str x,u=>∃t,u=Value.str x t
 |.byt b,u=>∃t,u=Value.bytes b t
 |.flt b,u=>∃t,u=Value.float b t
 |.ref a,u=>u=yaj a
 |.ty n,u=>u=yb2 n
abbrev zM:List V->List Value->Prop:=Paired yg
theorem zM.length{xs:List V}{us:List Value}(r:zM xs us):xs.length=us.length:=Paired.length r
theorem zM.get:∀{xs:List V}{us:List Value}{i:Nat}{x:V},zM xs us->xs[i]? = some x->∃u,us[i]? = some u/\yg x u
 |_,_,_,_,.nil,e=>by simp at e
 |_,_,0,_,.cons r _,e=>by simp at e;subst e;exact⟨_,rfl,r⟩
 |_,_,i+1,x,.cons _ t,e=>by
  obtain⟨u,h1,h2⟩:=zM.get (i:=i) (x:=x) t (by simpa using e)
  exact⟨u,by simpa using h1,h2⟩
theorem zM.set {x:V} {u:Value} (r:yg x u):∀{xs:List V}{us:List Value}(i:Nat),zM xs us->zM (xs.set i x) (us.set i u)
 |_,_,_,.nil => .nil
 |_,_,0,.cons _ t => .cons r t
 |_,_,i+1,.cons q t => .cons q (zM.set r i t)
theorem zM.append:∀{xs ys:List V}{us ws:List Value},zM xs us->zM ys ws->zM (xs++ys) (us++ws)
 |_,_,_,_,.nil,s=>s
 |_,_,_,_,.cons r t,s => .cons r (zM.append t s)
theorem zM.take:∀{xs:List V}{us:List Value}(n:Nat),zM xs us->zM (xs.take n) (us.take n)
 |_,_,0,_ => .nil
 |_,_,_+1,.nil => .nil
 |_,_,n+1,.cons r t => .cons r (zM.take n t)
theorem zM.drop:∀{xs:List V}{us:List Value}(n:Nat),zM xs us->zM (xs.drop n) (us.drop n)
 |_,_,0,r=>r
 |_,_,_+1,.nil => .nil
 |_,_,n+1,.cons _ t=>zM.drop n t
def qmR:Option V->Option Value->Prop
 |some v,some u=>yg v u
 |none,none=>True
 |_,_=>False
def KV{κ:Type}:List (κ×V)->List (κ×Value)->Prop:=Paired λ(p:κ×V) (q:κ×Value)=>p.1=q.1/\yg p.2 q.2
def kV:Key->V
 |.inl i => .int i
 |.inr x => .str x
inductive HO where
 /-- a list -/
 |lst (xs:List V)
 /-- a tuple (never changes) -/
 |tup (xs:List V)
 /-- a dict whose keys are ints and texts;one whose keys are tuples of ints and texts (the empty one is both) -/
 |dK (kvs:List (Key×V))|dT (kvs:List (List Key×V))
 /-- a set of ints: its members,its size -/
 |set (S:Int->Bool) (n:Nat)
 /-- an instance of the class at C,its dict at dx,its attributes -/
 |ins (C dx:Addr) (fs:List (Str×V))
 /-- the dict of the instance at x -/
 |own (x:Addr)
 /-- the dict of an exception -/
 |xd (fs:List (Str×V))
 /-- a bound method,f of x -/
 |met (f x:Addr)
 /-- a range object lo,lo+1,.. below hi -/
 |rng (lo hi:Int)
 /-- a thing that is known to the object (the script;a dict while a loop walks it): read,never written while it is so -/
 |frz (o:Obj) (u:HO)
 /-- a code object's table -/
 |tbl (ps:Array Value)
 /-- any other thing,by what is true of its one object (a def of one's own: SetO a S n:=HO.ext λh => ..) -/
 |ext (φ:Heap->Prop)
 /-- the table of a code object in which at most one lambda's code stands -/
 |lam (pos:Pos) (q:Str)
abbrev Hp:=Addr->Option HO
def upd(H:Hp)(a:Addr)(o:HO):Hp:=λb=>if b=a then some o else H b
theorem qK{H:Hp}{a:Addr}{o:HO}:upd H a o a=some o:=by unfold upd;rw[if_pos rfl]
theorem qM{H:Hp}{a b:Addr}{o:HO}(h:b≠a):upd H a o b=H b:=by unfold upd;rw[if_neg h]
theorem qbG {H:Hp} {a b:Addr} {o u:HO} (h:H a=some o) (h':H b=some u) (d:o≠u):a≠b:=by
 intro e;subst e;rw[h]at h';exact d (yaM h')
theorem zl {H:Hp} {a b:Addr} {o:HO} (h:H a=some o) (h':H b=none):a≠b:=by
 intro e;subst e;rw[h]at h';cases h'
section
variable(P:yar)(w:World)
def uB (H:Hp) (h:Heap) (a:Addr):HO->Prop
 |.lst xs=>xs.length<=yaq/\∃(its:List Value)(n:Nat),zM xs its/\h.get? a=some {cls:=.type "list",data:=.seq its.toArray n}
 |.tup xs=>xs.length<=yaq/\∃its:List Value,zM xs its/\IsTup h a its.toArray
 |.dK kvs=>kvs.length<=yaq/\(a==ycc)=false/\∃vs,KV kvs vs/\h.DictOf (qbW P w) a vs
 | .dT kvs=>kvs.length<=yaq/\(a==ycc)=false/\∃xs:List (List Key×Addr×Value),
   Paired (λ(p:List Key×V) (q:List Key×Addr×Value)=>p.1=q.1/\H q.2.1=some (.tup (p.1.map kV))/\yg p.2 q.2.2) kvs xs /\
   ∃o es ep,h.get? a=some o/\o.ExactDict/\o.data=.dict es ep/\es.toList=xs.map (entryOfKey (tupleKind (qbW P w)))/\(xs.map (·.1)).Nodup
 |.set S n=>h.SetOf (yfu P w) a S n
 | .ins C dx fs=>H dx=some (.own a)/\fs.length<=1000/\dx≠a/\h.get? a=some (yeb C dx) /\
   ∃mA,h.Ns1 dx mA/\(∀f,qmR (fs.lookup f) (mA f))/\PySem.Within mA (fs.map (·.1))
 |.own _=>∃o,h.get? a=some o
 |.xd fs=>∃mA,h.Ns1 a mA/\∀f,qmR (fs.lookup f) (mA f)
 |.rng lo hi=>∃t u v,h.get? a=some {cls:=.type "range",data:=.fields #[.int lo t,.int hi u,.int 1 v]}
 |.frz o u=>h.get? a=some o/\uB H h a u
 |.tbl ps=>h.get? a=some {cls:=.none,data:=.fields ps}
 |.met f x=>h.get? a=some (ydH (.ref f) (.ref x))
 | .lam pos q=>h.get? a=some {cls:=.none,data:=.fields #[]}\/∃(c:Addr)(oc:Obj)(vs:Array Value)(t:Tok),H c=some (.frz oc (.own c))/\oc.data=.fields vs/\vs[1]? = some (.str q t) /\
   h.get? a=some {cls:=.none,data:=.fields #[ybI pos.line,ybI pos.col,.ref c]}
 |.ext φ=>φ h/\(∃o,h.get? a=some o)/\∀h1 h2:Heap,φ h1->(∀o,h1.get? a=some o->h2.get? a=some o)->φ h2
def HOk(H:Hp)(h:Heap):Prop:=∀a o,H a=some o->uB P w H h a o
end
section
variable{P:yar}{w:World}{H H':Hp}{h h':Heap}{a:Addr}{o:HO}
theorem uB.lt (x:uB P w H h a o):a<h.objs.size:=by
 cases o with
 |lst xs=>obtain⟨_,_,_,_,e⟩:=x;exact yam e
 |tup xs=>obtain⟨_,_,_,p⟩:=x;exact p.lt
 |dK kvs=>obtain⟨_,_,_,_,o,_,_,e,_⟩:=x;exact yam e
 |dT kvs=>obtain⟨_,_,_,_,o,_,_,e,_⟩:=x;exact yam e
 |set S n=>obtain⟨o,_,_,_,e,_⟩:=x;exact yam e
 |ins C dx fs=>obtain⟨_,_,_,e,_⟩:=x;exact yam e
 |own y=>obtain⟨_,e⟩:=x;exact yam e
 |xd fs=>obtain⟨_,⟨_,_,_,e,_⟩,_⟩:=x;exact yam e
 |rng lo hi=>obtain⟨_,_,_,e⟩:=x;exact yam e
 |frz ob u=>obtain⟨e,_⟩:=x;exact yam e
 |tbl ps=>exact yam (show h.get? a=some _ from x)
 |met f y=>exact yam (show h.get? a=some _ from x)
 |ext φ=>obtain⟨_,⟨_,e⟩,_⟩:=x;exact yam e
 |lam pos q=>
  rcases x with e|⟨_,_,_,_,_,_,_,e⟩
  ·exact yam e
  ·exact yam e
theorem Paired.mapP {α β:Type} {F G:α->β->Prop}:∀{lQ:List α}{lK:List β},Paired F lQ lK->(∀a b,F a b->G a b)->Paired G lQ lK
 |_,_,.nil,_ => .nil
 |_,_,.cons r t,f => .cons (f _ _ r) (Paired.mapP t f)
theorem uB.stay (x:uB P w H h a o) (k:∀b u,(b=a\/H b=some (.own a))->h.get? b=some u->h'.get? b=some u)
  (ho:∀b,H b=some (.own a)->H' b=some (.own a)) (ht:∀b xs,H b=some (.tup xs)->H' b=some (.tup xs)) (hz:∀b ob u,H b=some (.frz ob u)->H' b=some (.frz ob u):=by exact λ_ _ _ q=>q):uB P w H' h' a o:=by
 induction o with
 |lst xs=>obtain⟨z,its,n,r,e⟩:=x;exact⟨z,its,n,r,k _ _ (.inl rfl) e⟩
 |tup xs=>obtain⟨z,its,r,ob,e,c⟩:=x;exact⟨z,its,r,ob,k _ _ (.inl rfl) e,c⟩
 |dK kvs=>obtain⟨z,y,vs,r,ob,es,ep,e,c⟩:=x;exact⟨z,y,vs,r,ob,es,ep,k _ _ (.inl rfl) e,c⟩
 |dT kvs=>
  obtain⟨z,y,xs,r,ob,es,ep,e,c⟩:=x
  exact⟨z,y,xs,Paired.mapP r λp q z=>⟨z.1,ht _ _ z.2.1,z.2.2⟩,ob,es,ep,k _ _ (.inl rfl) e,c⟩
 |set S n=>obtain⟨ob,es,ep,t,e,c⟩:=x;exact⟨ob,es,ep,t,k _ _ (.inl rfl) e,c⟩
 |ins C dx fs=>
  obtain⟨d,z,ne,e,mA,⟨od,es,ep,e2,c⟩,r⟩:=x
  exact⟨ho _ d,z,ne,k _ _ (.inl rfl) e,mA,⟨od,es,ep,k _ _ (.inr d) e2,c⟩,r⟩
 |own y=>obtain⟨ob,e⟩:=x;exact⟨ob,k _ _ (.inl rfl) e⟩
 |xd fs=>obtain⟨mA,⟨od,es,ep,e,c⟩,r⟩:=x;exact⟨mA,⟨od,es,ep,k _ _ (.inl rfl) e,c⟩,r⟩
 |rng lo hi=>obtain⟨t,u,v,e⟩:=x;exact⟨t,u,v,k _ _ (.inl rfl) e⟩
 |frz ob u ih=>obtain⟨e,q⟩:=x;exact⟨k _ _ (.inl rfl) e,ih q⟩
 |tbl ps=>
  have e:h.get? a=some {cls:=.none,data:=.fields ps}:=x
  show h'.get? a=some {cls:=.none,data:=.fields ps}
  exact k a _ (.inl rfl) e
 |met f y=>
  have e:h.get? a=some (ydH (.ref f) (.ref y)):=x
  show h'.get? a=some (ydH (.ref f) (.ref y))
  exact k a _ (.inl rfl) e
 |ext φ=>obtain⟨p,⟨o,e⟩,st⟩:=x;exact⟨st _ _ p λo q=>k _ _ (.inl rfl) q,⟨o,k _ _ (.inl rfl) e⟩,st⟩
 |lam pos q=>
  rcases x with e|⟨c,oc,vs,t,h1,h2,h3,e⟩
  ·exact .inl (k _ _ (.inl rfl) e)
  ·exact .inr ⟨c,oc,vs,t,hz _ _ _ h1,h2,h3,k _ _ (.inl rfl) e⟩
theorem HOk.lt(x:HOk P w H h)(e:H a=some o):a<h.objs.size:=(x a o e).lt
theorem HOk.fresh (x:HOk P w H h) (e:h.objs.size<=a):H a=none:=by
 cases q:H a with
 |none=>rfl
 |some u=>exact absurd (yaw (x.lt q) e) (ybC _)
theorem HOk.kept (x:HOk P w H h) (k:∀b u,h.get? b=some u->h'.get? b=some u):HOk P w H h':=λa o e=>
 (x a o e).stay (λb u _ q=>k b u q) (λ_ q=>q) λ_ _ q=>q
theorem HOk.laid (x:HOk P w H h) (k:∀b u,h.get? b=some u->h'.get? b=some u) (hp:h.objs.size<=a) (new:uB P w (upd H a o) h' a o):HOk P w (upd H a o) h':=λb u e=>by
 have hn:=x.fresh hp
 by_cases hb:b=a
 ·subst hb;rw[qK]at e;cases e;exact new
 ·rw[qM hb]at e
  exact(x b u e).stay (λc v _ q=>k c v q) (λc q=>by rw[qM (zl q hn)];exact q) (λc xs q=>by rw[qM (zl q hn)];exact q) λc ob z q=>by rw[qM (zl q hn)];exact q
end
def Rd(H:Hp)(a:Addr)(u:HO):Prop:=H a=some u\/∃o,H a=some (.frz o u)
theorem Rd.ok {P:yar} {w:World} {H:Hp} {h:Heap} {a:Addr} {u:HO} (r:Rd H a u) (x:HOk P w H h):uB P w H h a u:=by
 rcases r with r|⟨o,r⟩
 ·exact x a u r
 ·obtain⟨_,q⟩:=x a _ r
  exact q
def Mut:Option HO->Prop
 |some (.lst _)=>True
 |some (.dK _)=>True
 |some (.dT _)=>True
 |some (.set _ _)=>True
 |some (.ins _ _ _)=>True
 |some (.ext _)=>True
 |_=>False
section
variable{P:yar}{w:World}{H:Hp}{h h':Heap}{x e:Addr}{o':HO}
theorem HOk.write (ok:HOk P w H h) (mu:Mut (H x)) (he:e=x\/H e=some (.own x)) (k:∀b u,b≠e->h.get? b=some u->h'.get? b=some u) (heo:∃u,h'.get? e=some u)
  (new:uB P w (upd H x o') h' x o'):HOk P w (upd H x o') h':=λb u q=>by
 have nown:∀c y,H c=some (.own y)->c≠x:=λc y r z=>by subst z;rw[r]at mu;exact mu
 have ntup:∀c xs,H c=some (.tup xs)->c≠x:=λc xs r z=>by subst z;rw[r]at mu;exact mu
 have nfrz:∀c ob y,H c=some (.frz ob y)->c≠x:=λc ob y r z=>by subst z;rw[r]at mu;exact mu
 by_cases hb:b=x
 ·subst hb;rw[qK]at q;cases q;exact new
 ·rw [qM hb]at q
  by_cases hbe:b=e
  ·have q':H b=some (.own x):=by
    rcases he with z|z
    ·exact absurd (hbe.trans z) hb
    ·rw[hbe];exact z
   rw[q]at q';cases q'
   obtain⟨v,hv⟩:=heo
   exact⟨v,by rw[hbe];exact hv⟩
  ·refine (ok b u q).stay (λc v hc r=>k c v ?_ r) (λc r=>by rw[qM (nown c b r)];exact r) (λc xs r=>by rw[qM (ntup c xs r)];exact r) λc ob z r=>by rw[qM (nfrz c ob z r)];exact r
   rcases hc with rfl|hc
   ·exact hbe
   ·rintro rfl
    rcases he with z|z
    ·exact nown c b hc z
    ·rw[hc]at z;cases z;exact hb rfl
end
structure Un (fs ex:List Addr) (H H':Hp) (h h':Heap):Prop where
 keep:∀b o,h.get? b=some o->H b=none->b ∉ fs->b ∉ ex->h'.get? b=some o
 slot:∀b o,h.get? b=some o->H b=none->b∈fs->b ∉ ex->∃sl,h'.get? b=some {o with slots:=sl}
 free:∀b o,h.get? b=some o->H b=none->b ∉ ex->H' b=none
 there:∀b o,h.get? b=some o->b ∉ ex->∃o',h'.get? b=some o'
 tups:∀b xs,H b=some (.tup xs)->H' b=some (.tup xs)
 frzs:∀b o u,H b=some (.frz o u)->H' b=some (.frz o u)
 tbls:∀b pos q,H b=some (.lam pos q)->H' b=some (.lam pos q)
section
variable{fs fs' ex ex':List Addr}{H H1 H2:Hp}{h h1 h2 h':Heap}{a x e:Addr}{o:HO}
theorem Un.any (u:Un fs ex H H1 h h1) {b:Addr} {ob:Obj} (q:h.get? b=some ob) (n:H b=none) (hx:b ∉ ex):∃sl,h1.get? b=some {ob with slots:=sl}:=by
 by_cases hb:b∈fs
 ·exact u.slot b ob q n hb hx
 ·exact⟨ob.slots,u.keep b ob q n hb hx⟩
theorem Un.trans (a:Un fs ex H H1 h h1) (b:Un fs ex H1 H2 h1 h2):Un fs ex H H2 h h2 where
 keep:=λc ob q n hc hx=>b.keep c ob (a.keep c ob q n hc hx) (a.free c ob q n hx) hc hx
 slot:=λc ob q n hc hx=>by
  obtain⟨sl,e1⟩:=a.slot c ob q n hc hx
  obtain⟨sl',e2⟩:=b.slot c _ e1 (a.free c ob q n hx) hc hx
  exact⟨sl',e2⟩
 free:=λc ob q n hx=>by
  obtain⟨o',e1⟩:=a.there c ob q hx
  exact b.free c o' e1 (a.free c ob q n hx) hx
 there:=λc ob q hx=>by
  obtain⟨o',e1⟩:=a.there c ob q hx
  exact b.there c o' e1 hx
 tups:=λc xs q=>b.tups c xs (a.tups c xs q)
 frzs:=λc ob xs q=>b.frzs c ob xs (a.frzs c ob xs q)
 tbls:=λc ps x q=>b.tbls c ps x (a.tbls c ps x q)
theorem Un.kept (k:∀b u,h.get? b=some u->h'.get? b=some u):Un fs ex H H h h' :=
 ⟨λb ob q _ _ _=>k b ob q,λb ob q _ _ _=>⟨ob.slots,k b ob q⟩,λ_ _ _ n _=>n,λb ob q _=>⟨ob,k b ob q⟩,λ_ _ q=>q,λ_ _ _ q=>q,λ_ _ _ q=>q⟩
theorem Un.refl:Un fs ex H H h h:=Un.kept λ_ _ q=>q
theorem Un.laid (k:∀b u,h.get? b=some u->h'.get? b=some u) (hp:h.objs.size<=a) (hn:H a=none):Un fs ex H (upd H a o) h h' where
 keep:=λb u q _ _ _=>k b u q
 slot:=λb u q _ _ _=>⟨u.slots,k b u q⟩
 free:=λb u q n _=>by rw[qM (yax (yaw (yam q) hp))];exact n
 there:=λb u q _=>⟨u,k b u q⟩
 tups:=λb xs q=>by rw[qM (zl q hn)];exact q
 frzs:=λb u xs q=>by rw[qM (zl q hn)];exact q
 tbls:=λb ps x q=>by rw[qM (zl q hn)];exact q
theorem Un.write (mu:Mut (H x)) (he:e=x\/H e=some (.own x)) (k:∀b u,b≠e->h.get? b=some u->h'.get? b=some u) (heo:∃u,h'.get? e=some u):Un fs ex H (upd H x o) h h':=by
 have hx:∀b,H b=none->b≠x:=λb n z=>by subst z;rw[n]at mu;exact mu
 have hb:∀b,H b=none->b≠e:=λb n z=>by
  subst z
  rcases he with r|r
  ·exact hx b n r
  ·rw[n]at r;cases r
 have hm:∀b u,H b=some u->¬Mut (some u)->b≠x:=λb u q nm z=>by subst z;rw[q]at mu;exact nm mu
 refine ⟨λb u q n _ _=>k b u (hb b n) q,λb u q n _ _=>⟨u.slots,k b u (hb b n) q⟩,λb u q n _=>by rw[qM (hx b n)];exact n,λb u q _=>?_,
  λb xs q=>by rw[qM (hm b _ q λz=>z)];exact q,λb u xs q=>by rw[qM (hm b _ q λz=>z)];exact q,λb ps x q=>by rw[qM (hm b _ q λz=>z)];exact q⟩
 by_cases hbe:b=e
 ·subst hbe;exact heo
 ·exact⟨u,k b u hbe q⟩
end
def trk(h:Heap)(H:Hp):List Addr:=(yay h.objs.size).filter λa=>(H a).isSome
def qiZ(h:Heap)(H:Hp):Heap:=PySem.W.hideAll h (trk h H)
theorem qha(h:Heap)(H:Hp):(qiZ h H).objs.size=h.objs.size:=PySem.W.hideAll_size _ _
theorem qi0 {h:Heap} {H:Hp} {b:Addr} {o:Obj} (e:h.get? b=some o) (n:H b=none):(qiZ h H).get? b=some o :=
 PySem.W.hideAll_get _ e λhm=>by
  have q:(H b).isSome=true:=(List.mem_filter.mp hm).2
  rw[n]at q;simp at q
theorem qk5 {h:Heap} {H:Hp} {b:Addr} {o:Obj} (e:(qiZ h H).get? b=some o):h.get? b=some o/\H b=none:=by
 have e':h.get? b=some o:=PySem.W.of_hideAll (trk h H) e
 refine⟨e',?_⟩
 cases q:H b with
 |none=>rfl
 |some x=>
  have hm:b∈trk h H:=List.mem_filter.mpr ⟨mR_.mpr (yam e'),by simp[q]⟩
  have z:(qiZ h H).get? b=none:=PySem.W.hideAll_none (trk h H) hm
  rw[z]at e;cases e
def qk6(g h:Heap)(L:Addr):List (Addr×Obj):=(yay h.objs.size).filterMap λa=>if a=L\/(g.get? a).isSome=true then none else(h.get? a).map λo=>(a,o)
def qbN(g h:Heap)(L d:Addr):List (Addr×Obj):=(qk6 g h L).filter λp=>decide (p.1≠d)
end L2
namespace L2
open PySem PySem.Spec PyProof.Rows
structure Mod (K:yan) (mg:Str->Option Value) (base:Heap):Prop where
 kin:K.In base
 glob:base.Ns yad mg
 blt:∃mb,base.Ns yb3 mb/\∀x:Str,x≠"__name__"->mb x=yaz x
 nolimit:base.NoLimit
 bm:∃bm ob,mg "__builtins__"=some (.ref bm)/\bm≠yb3/\base.get? bm=some ob/\ob.cls=.type "module"/\ob.dict=some yb3/\ob.data=.plain
structure Cx where
 prog:yar
 w:World
 K:yan
 mg:Str->Option Value
 base:Heap
 A:yas
 N:List Str
 s₀:yab
 H₀:Hp
 env:Env
 outer:List Env
 stack:List Env
 ex:List Addr
 fn:Str->Bool
 calm:Bool
 pn:List (Addr×Obj)
 xe:Value->yab->Prop
def frs(l:List Env):List Addr:=l.filterMap (·.frame)
abbrev Cx.fs(X:Cx):List Addr:=frs X.outer
def Vis(sc:Scope)(x:Str):Prop:=sc.names.lookup x=some .local\/sc.names.lookup x=some .cell\/sc.names.lookup x=some .free
def Loc(sc:Scope)(x:Str):Prop:=sc.names.lookup x=some .local\/sc.names.lookup x=some .cell
def qqx (env:Env) (h:Heap) (m:Str->Option Value) (x:Str) (u:Value):Prop :=
 (env.kindOf x=some .local/\m x=some u)\/((env.kindOf x=some .cell\/env.kindOf x=some .free)/\∃c,env.cells.lookup x=some c/\h.IsCell c (some u))
structure Cx.Ok (X:Cx):Prop where
 mod:Mod X.K X.mg X.base
 kind:X.env.scope.kind=.function
 glob:X.env.globals=yad
 blt:X.env.builtins=yb3
 above:X.s₀.heap.objs.size<=X.env.locals
 inj:∀x y c,X.env.cells.lookup x=some c->X.env.cells.lookup y=some c->x=y
 has:∀x,(X.env.kindOf x=some .cell\/X.env.kindOf x=some .free)->∃c,X.env.cells.lookup x=some c
 cab:∀x c,X.fn x=true->X.env.cells.lookup x=some c->X.s₀.heap.objs.size<=c
 hd:X.calm=true->X.A.handled=none
 frames:X.A.frames=some X.stack
 stk:X.stack=X.outer\/(X.stack=X.env::X.outer/\X.env.frame=some X.env.locals)
 exf:∀b∈X.ex,b≠X.env.locals/\∀x c,X.env.cells.lookup x=some c->c≠b
 bs:∀b o,X.base.get? b=some o->X.s₀.heap.get? b=some o/\X.H₀ b=none
 bsz:X.base.objs.size<=X.s₀.heap.objs.size
 noex:∀b o,X.base.get? b=some o->b ∉ X.ex
 exfs:∀b∈X.ex,b ∉ X.fs
 funs:X.s₀.heap.FunFrames X.base X.outer
 frf:∀b∈X.fs,X.H₀ b=none
structure Inv (X:Cx) (pins:List (Addr×Obj)) (σ:List (Option V)) (H:Hp) (s:yab):Prop where
 ok:X.Ok
 os:s.os=X.s₀.os
 bare:ycl s.gens
 base:Un X.fs X.ex X.H₀ H X.s₀.heap s.heap
 loc:∃m,s.heap.Ns X.env.locals m/\∀(i:Nat)(x:Str)(v:V),X.N[i]? = some x->σ[i]? = some (some v)->Vis X.env.scope x->∃u,yg v u/\qqx X.env s.heap m x u
 cell:∀x c,X.env.cells.lookup x=some c->∃v,s.heap.IsCell c v
 free:H X.env.locals=none
 freeC:∀x c,X.env.cells.lookup x=some c->H c=none
 pin:∀p∈X.pn++pins,s.heap.get? p.1=some p.2/\H p.1=none/\p.1≠X.env.locals/\p.1 ∉ X.fs/\∀v,p.2.data ≠ .cell v
 hok:HOk X.prog X.w H s.heap
 len:σ.length=X.N.length
section
variable{X:Cx}{pins:List (Addr×Obj)}{σ:List (Option V)}{H H':Hp}{s:yab}{h':Heap}
theorem Cx.Ok.nofr (ok:X.Ok) {b:Addr} {o:Obj} (e:X.base.get? b=some o):b ∉ X.fs:=λhb=>by
 have:=(ok.funs.mem hb).1
 rw[e]at this;cases this
theorem Inv.bs (I:Inv X pins σ H s):∀b o,X.base.get? b=some o->s.heap.get? b=some o/\H b=none:=λb o e=>
 ⟨I.base.keep b o (I.ok.bs b o e).1 (I.ok.bs b o e).2 (I.ok.nofr e) (I.ok.noex b o e),I.base.free b o (I.ok.bs b o e).1 (I.ok.bs b o e).2 (I.ok.noex b o e)⟩
theorem Inv.bk(I:Inv X pins σ H s):∀b o,X.base.get? b=some o->s.heap.get? b=some o:=λb o e=>(I.bs b o e).1
theorem Inv.mod(I:Inv X pins σ H s):Mod X.K X.mg X.base:=I.ok.mod
theorem Inv.kIn(I:Inv X pins σ H s):X.K.In s.heap:=I.ok.mod.kin.keeps I.bk
theorem Inv.lt(I:Inv X pins σ H s):X.env.locals<s.heap.objs.size:=let ⟨_,hn,_⟩:=I.loc;hn.lt
theorem Inv.sz(I:Inv X pins σ H s):X.s₀.heap.objs.size<=s.heap.objs.size:=yau I.ok.above (ycx I.lt)
theorem Inv.nofs (I:Inv X pins σ H s) {a:Addr} (h:s.heap.objs.size<=a):a ∉ X.fs:=λhb=>by
 obtain⟨_,o,ho,_⟩:=I.ok.funs.mem hb
 exact absurd (yaw (yam ho) (yau I.sz h)) (ybC _)
theorem Inv.cne (I:Inv X pins σ H s):∀x c,X.env.cells.lookup x=some c->c≠X.env.locals:=λx c e z=>by
 obtain⟨v,o,ho,hd⟩:=I.cell x c e
 obtain⟨m,⟨o',es,ep,ho',hd',_⟩,_⟩:=I.loc
 rw[z,ho']at ho;cases ho;rw[hd']at hd;cases hd
theorem Inv.funs (I:Inv X pins σ H s):s.heap.FunFrames X.base X.outer:=by
 have all:∀(l:List Env),(∀b∈frs l,b∈X.fs)->X.s₀.heap.FunFrames X.base l->s.heap.FunFrames X.base l:=by
  intro l
  induction l with
  |nil=>intro _ _;trivial
  |cons env r ih=>
   intro hs hl
   obtain⟨hk,⟨L,o,hf,hn,ho,hd⟩,hr⟩:=hl
   have hL:L∈X.fs:=hs L (by unfold frs;rw[ybe,hf];exact mS_)
   obtain⟨sl,e⟩:=I.base.slot L o ho (I.ok.frf L hL) hL λz=>I.ok.exfs L z hL
   exact⟨hk,⟨L,_,hf,hn,e,hd⟩,ih (λb hb=>hs b (by unfold frs;rw[ybe,hf];exact mM _ hb)) hr⟩
 exact all X.outer (λ_ hb=>hb) I.ok.funs
theorem Inv.stack (I:Inv X pins σ H s):s.heap.FunFrames X.base X.stack:=by
 rcases I.ok.stk with e|⟨e,hf⟩
 ·rw[e];exact I.funs
 ·rw[e]
  obtain⟨m,hn,_⟩:=I.loc
  refine .cons (by rw[I.ok.kind];decide) hf hn ?_ I.funs
  exact Heap.get?_none_of_le (yau I.ok.bsz I.ok.above)
theorem Inv.stkSub (I:Inv X pins σ H s):∀b∈frs X.stack,b∈X.env.locals::X.fs:=λb hb=>by
 rcases I.ok.stk with e|⟨e,hf⟩
 ·rw[e]at hb;exact mM _ hb
 ·rw[e]at hb
  unfold frs at hb
  rw[ybe,hf]at hb
  exact hb
theorem Inv.stkFree (I:Inv X pins σ H s):∀b∈frs X.stack,H b=none:=λb hb=>by
 rcases List.mem_cons.mp (I.stkSub b hb)with e|hb
 ·rw[e];exact I.free
 ·obtain⟨_,o,ho,_⟩:=I.ok.funs.mem hb
  exact I.base.free b o ho (I.ok.frf b hb) λz=>I.ok.exfs b z hb
theorem Inv.step {g':Array yfP} {t':Nat} {d':Drawn} {ch:List Addr} (I:Inv X pins σ H s)
  (hch:∀b∈ch,(b∈X.ex\/X.s₀.heap.objs.size<=b)/\b≠X.env.locals/\(∀x c,X.env.cells.lookup x=some c->c≠b)/\∀p∈X.pn++pins,p.1≠b)
  (keep:∀b o,b≠X.env.locals->b ∉ X.fs->b ∉ ch->s.heap.get? b=some o->H b=none->h'.get? b=some o)
  (slot:∀b o,b≠X.env.locals->b∈X.fs->b ∉ ch->s.heap.get? b=some o->H b=none->∃sl,h'.get? b=some {o with slots:=sl}) (free:∀b o,b ∉ ch->s.heap.get? b=some o->H b=none->H' b=none)
  (there:∀b o,b ∉ ch->s.heap.get? b=some o->∃o',h'.get? b=some o')
  (tups:∀b xs,H b=some (.tup xs)->H' b=some (.tup xs)) (frzs:∀b o u,H b=some (.frz o u)->H' b=some (.frz o u)) (tbls:∀b pos q,H b=some (.lam pos q)->H' b=some (.lam pos q))
  (ns:∀m,s.heap.Ns X.env.locals m->h'.Ns X.env.locals m) (hok:HOk X.prog X.w H' h') (hg:ycl g') :
  Inv X pins σ H' {s with heap:=h',gens:=g',drawn:=d',toks:=t' }:=by
 have neL:∀b o,X.s₀.heap.get? b=some o->b≠X.env.locals:=λb o e=>yax (yaw (yam e) I.ok.above)
 have neC:∀b o,X.s₀.heap.get? b=some o->b ∉ X.ex->b ∉ ch:=λb o e hx hb=>by
  rcases(hch b hb).1 with z|z
  ·exact hx z
  ·exact absurd (yaw (yam e) z) (ybC _)
 have cellK:∀x c,X.env.cells.lookup x=some c->∀v,s.heap.IsCell c v->h'.IsCell c v:=λx c e v ⟨o,ho,hd⟩=>by
  have nch:c ∉ ch:=λz=>(hch c z).2.2.1 x c e rfl
  by_cases hc:c∈X.fs
  ·obtain⟨sl,q⟩:=slot c o (I.cne x c e) hc nch ho (I.freeC x c e)
   exact⟨_,q,hd⟩
  ·exact⟨o,keep c o (I.cne x c e) hc nch ho (I.freeC x c e),hd⟩
 refine⟨I.ok,I.os,hg,⟨λb o e n hb hx=>?_,λb o e n hb hx=>?_,λb o e n hx=>?_,λb o e hx=>?_,λb xs e=>tups b xs (I.base.tups b xs e),λb o xs e=>frzs b o xs (I.base.frzs b o xs e),λb ps x e=>tbls b ps x (I.base.tbls b ps x e)⟩,?_,λx c e=>?_,?_,λx c e=>?_,λp hp=>?_,hok,I.len⟩
 ·exact keep b o (neL b o e) hb (neC b o e hx) (I.base.keep b o e n hb hx) (I.base.free b o e n hx)
 ·obtain⟨sl,e1⟩:=I.base.slot b o e n hb hx
  obtain⟨sl',e2⟩:=slot b _ (neL b o e) hb (neC b o e hx) e1 (I.base.free b o e n hx)
  exact⟨sl',e2⟩
 ·obtain⟨o',e1⟩:=I.base.there b o e hx
  exact free b o' (neC b o e hx) e1 (I.base.free b o e n hx)
 ·obtain⟨o',e1⟩:=I.base.there b o e hx
  exact there b o' (neC b o e hx) e1
 ·obtain⟨m,hn,hl⟩:=I.loc
  refine⟨m,ns m hn,λi x v e1 e2 e3=>?_⟩
  obtain⟨u,r,l⟩:=hl i x v e1 e2 e3
  refine⟨u,r,?_⟩
  rcases l with l|⟨k,c,e,z⟩
  ·exact .inl l
  ·exact .inr ⟨k,c,e,cellK x c e _ z⟩
 ·obtain⟨v,z⟩:=I.cell x c e
  exact⟨v,cellK x c e v z⟩
 ·obtain⟨m,⟨o,_,_,ho,_⟩,_⟩:=I.loc
  exact free _ o (λz=>(hch _ z).2.1 rfl) ho I.free
 ·obtain⟨v,o,ho,hd⟩:=I.cell x c e
  exact free c o (λz=>(hch c z).2.2.1 x c e rfl) ho (I.freeC x c e)
 ·obtain⟨e,n,ne,nf,d⟩:=I.pin p hp
  have nch:p.1 ∉ ch:=λz=>(hch p.1 z).2.2.2 p hp rfl
  exact⟨keep p.1 p.2 ne nf nch e n,free p.1 p.2 nch e n,ne,nf,d⟩
theorem Inv.un {t':Nat} (I:Inv X pins σ H s) (u:Un X.fs [] H H' s.heap h') (hok:HOk X.prog X.w H' h'):Inv X pins σ H' {s with heap:=h',toks:=t' }:=by
 obtain⟨m,⟨o,es,ep,ho,r⟩,_⟩:=id I.loc
 obtain⟨sl,hL⟩:=u.any ho I.free (by simp)
 exact I.step (g':=s.gens) (d':=s.drawn) (ch:=[]) (λ_ z=>nomatch z) (λb o _ hb _ e n=>u.keep b o e n hb (by simp)) (λb o _ hb _ e n=>u.slot b o e n hb (by simp)) (λb o _ e n=>u.free b o e n (by simp)) (λb o _ e=>u.there b o e (by simp)) u.tups u.frzs u.tbls (λm' hm=>by
  obtain⟨o',es',ep',ho',r'⟩:=hm
  rw[ho]at ho';cases ho'
  exact⟨_,es',ep',hL,r'⟩) hok I.bare
theorem Inv.call {g':Array yfP} {t':Nat} {d':Drawn} {ch:List Addr} (I:Inv X pins σ H s) (u:Un (frs X.stack) ch H H' s.heap h') (hok:HOk X.prog X.w H' h') (hg:ycl g')
  (hch:∀b∈ch,(b∈X.ex\/X.s₀.heap.objs.size<=b)/\b≠X.env.locals/\(∀x c,X.env.cells.lookup x=some c->c≠b)/\∀p∈X.pn++pins,p.1≠b) :
  Inv X pins σ H' {s with heap:=h',gens:=g',drawn:=d',toks:=t' }:=by
 obtain⟨m,⟨o,es,ep,ho,r⟩,_⟩:=id I.loc
 obtain⟨sl,hL⟩:=u.any ho I.free λz=>(hch _ z).2.1 rfl
 exact I.step (ch:=ch) hch (λb o hL hb hc e n=>u.keep b o e n (λz=>(List.mem_cons.mp (I.stkSub b z)).elim hL hb) hc) (λb o _ _ hc e n=>u.any e n hc) (λb o hc e n=>u.free b o e n hc) (λb o hc e=>u.there b o e hc) u.tups u.frzs u.tbls (λm' hm=>by
  obtain⟨o',es',ep',ho',r'⟩:=hm
  rw[ho]at ho';cases ho'
  exact⟨_,es',ep',hL,r'⟩) hok hg
theorem Inv.turned {t':Nat} {it:Addr} (I:Inv X pins σ H s) (k:∀b o,b≠it->s.heap.get? b=some o->h'.get? b=some o) (hn:H it=none) (hL:it≠X.env.locals)
  (h1:it∈X.ex\/X.s₀.heap.objs.size<=it) (h2:∀x c,X.env.cells.lookup x=some c->c≠it) (h3:∀p∈X.pn++pins,p.1≠it):Inv X pins σ H {s with heap:=h',toks:=t' }:=by
 have nit:∀b u,H b=some u->b≠it:=λb u e z=>by rw[z,hn]at e;cases e
 refine I.step (g':=s.gens) (d':=s.drawn) (ch:=[it]) (λb hb=>?_) (λb o _ _ hc e _=>k b o (λz=>hc (by simp[z])) e) (λb o _ _ hc e _=>⟨o.slots,k b o (λz=>hc (by simp[z])) e⟩) (λ_ _ _ _ n=>n)
  (λb o hc e=>⟨o,k b o (λz=>hc (by simp[z])) e⟩) (λ_ _ e=>e) (λ_ _ _ e=>e) (λ_ _ _ e=>e) (λm hm=>?_) (λb u e=>?_) I.bare
 ·have e:b=it:=by simpa using hb
  subst e
  exact⟨h1,hL,h2,h3⟩
 ·obtain⟨o,es,ep,ho,r⟩:=hm
  exact⟨o,es,ep,k _ o (ybk hL) ho,r⟩
 ·refine(I.hok b u e).stay (λc v hc q=>k c v ?_ q) (λ_ q=>q) λ_ _ q=>q
  rcases hc with z|z
  ·rw[z];exact nit b u e
  ·exact nit c _ z
theorem Inv.tok(I:Inv X pins σ H s)(t:Nat):Inv X pins σ H {s with toks:=t}:=I.un (h':=s.heap) (t':=t) Un.refl I.hok
theorem Inv.kept{t':Nat}(I:Inv X pins σ H s)(k:∀b u,s.heap.get? b=some u->h'.get? b=some u):Inv X pins σ H {s with heap:=h',toks:=t' }:=I.un (Un.kept k) (I.hok.kept k)
theorem Inv.laid {a:Addr} {o:HO} {t':Nat} (I:Inv X pins σ H s) (k:∀b u,s.heap.get? b=some u->h'.get? b=some u) (hp:s.heap.objs.size<=a) (new:uB X.prog X.w (upd H a o) h' a o) :
  Inv X pins σ (upd H a o) {s with heap:=h',toks:=t' }:=I.un (Un.laid k hp (I.hok.fresh hp)) (I.hok.laid k hp new)
theorem Inv.write {x e:Addr} {o:HO} {t':Nat} (I:Inv X pins σ H s) (mu:Mut (H x)) (he:e=x\/H e=some (.own x)) (k:∀b u,b≠e->s.heap.get? b=some u->h'.get? b=some u) (heo:∃u,h'.get? e=some u)
  (new:uB X.prog X.w (upd H x o) h' x o):Inv X pins σ (upd H x o) {s with heap:=h',toks:=t' }:=I.un (Un.write mu he k heo) (I.hok.write mu he k heo new)
theorem Inv.pins_of {pins':List (Addr×Obj)} (I:Inv X pins σ H s) (h:∀p∈pins',s.heap.get? p.1=some p.2/\H p.1=none/\p.1≠X.env.locals/\p.1 ∉ X.fs/\∀v,p.2.data ≠ .cell v):Inv X pins' σ H s :=
 ⟨I.ok,I.os,I.bare,I.base,I.loc,I.cell,I.free,I.freeC,λp hp=>(mA_.mp hp).elim (λz=>I.pin p (ycd _ z)) (h p),I.hok,I.len⟩
theorem qfH {N:List Str} (hN:N.Nodup) {i j:Nat} {x:Str} (a:N[i]? = some x) (b:N[j]? = some x):i=j:=by
 obtain⟨h1,e1⟩:=gI_.mp a
 obtain⟨h2,e2⟩:=gI_.mp b
 exact(List.getElem_inj hN).mp (e1.trans e2.symm)
theorem qdU {M:Model} {A:yas} {E:Value->yab->Prop} {i:Nat} {x:Str} {v:V} {u:Value} {Q:Unit->yab->Prop} (I:Inv X pins σ H s) (hN:X.N.Nodup) (hi:X.N[i]? = some x) (hx:Loc X.env.scope x) (r:yg v u)
  (h:∀s',Inv X pins (σ.set i (some v)) H s'->(∃a,ybX a s.heap s'.heap/\(a=X.env.locals\/X.env.cells.lookup x=some a))->Q () s') (hf:X.fn x=true\/X.env.scope.names.lookup x=some .local:=by first|exact .inl rfl|exact .inr rfl|assumption):wpAny M A (storeName X.env x u) Q E s:=by
 obtain⟨m,hn,hl⟩:=id I.loc
 have hcls:(X.env.scope.kind == .class||(X.env.scope.kind == .module&&X.env.locals != X.env.globals))=false:=by rw[I.ok.kind];rfl
 have hiσ:i<σ.length:=by rw[I.len];exact(gI_.mp hi).1
 have cne:=I.cne
 have tracked:∀{a:Addr}{h':Heap},(∃o,s.heap.get? a=some o/\H a=none)->ybX a s.heap h'->HOk X.prog X.w H h':=λ{a h'} ha hs b ob e=>by
  obtain⟨_,_,hfree⟩:=ha
  refine(I.hok b ob e).stay (λc w' hc q=>(hs.2 c ?_).trans q) (λ_ q=>q) λ_ _ q=>q
  rintro rfl
  rcases hc with rfl|hc
  ·rw[hfree]at e;cases e
  ·rw[hfree]at hc;cases hc
 rcases hx with hk|hk
 ·refine wpAny_storeName_local hk hn (λh' hn' hs=>?_) hcls
  obtain⟨oL,_,_,hoL,_⟩:=id hn
  refine h _ ⟨I.ok,I.os,I.bare,⟨λb o e n hb hx=>?_,λb o e n hb hx=>?_,I.base.free,λb o e hx=>?_,I.base.tups,I.base.frzs,I.base.tbls⟩,⟨_,hn',λj y v' e1 e2 e3=>?_⟩,λy c e=>?_,I.free,I.freeC,λp hp=>?_,tracked ⟨oL,hoL,I.free⟩ hs,by simpa using I.len⟩ ⟨_,hs,.inl rfl⟩
  ·exact(hs.2 b (yax (yaw (yam e) I.ok.above))).trans (I.base.keep b o e n hb hx)
  ·obtain⟨sl,e1⟩:=I.base.slot b o e n hb hx
   exact⟨sl,(hs.2 b (yax (yaw (yam e) I.ok.above))).trans e1⟩
  ·obtain⟨o',e1⟩:=I.base.there b o e hx
   exact⟨o',(hs.2 b (yax (yaw (yam e) I.ok.above))).trans e1⟩
  ·by_cases hj:j=i
   ·subst hj
    rw[hi]at e1;cases e1
    rw[List.getElem?_set_self hiσ]at e2
    cases e2
    exact⟨u,r,.inl ⟨hk,by simp⟩⟩
   ·rw [List.getElem?_set_ne (ybk hj)]at e2
    obtain⟨u',r',q⟩:=hl j y v' e1 e2 e3
    refine⟨u',r',?_⟩
    rcases q with⟨k,e⟩|⟨k,c,e,z⟩
    ·refine .inl ⟨k,?_⟩
     have:y≠x:=λe=>hj (qfH hN e1 (e▸hi))
     simp[this,e]
    ·exact .inr ⟨k,c,e,z.sameBut hs (cne y c e)⟩
  ·obtain⟨w',z⟩:=I.cell y c e
   exact⟨w',z.sameBut hs (cne y c e)⟩
  ·obtain⟨e,n,ne,nf,d⟩:=I.pin p hp
   exact⟨(hs.2 p.1 ne).trans e,n,ne,nf,d⟩
 ·have hfn:X.fn x=true:=by
   rcases hf with z|z
   ·exact z
   ·rw[z]at hk;cases hk
  obtain⟨c,hc⟩:=I.ok.has x (.inl hk)
  obtain⟨w',z⟩:=I.cell x c hc
  refine wpAny_storeName_cell I.ok.kind hk hc z (λh' hc' hs=>?_)
  obtain⟨oc,hoc,hocd⟩:=id z
  refine h {s with heap:=h' } ⟨I.ok,I.os,I.bare,⟨λb o e n hb hx=>?_,λb o e n hb hx=>?_,I.base.free,λb o e hx=>?_,I.base.tups,I.base.frzs,I.base.tbls⟩,⟨m,hn.sameBut hs (ybk (cne x c hc)),λj y v' e1 e2 e3=>?_⟩,λy c' e=>?_,I.free,I.freeC,λp hp=>?_,tracked ⟨oc,hoc,I.freeC x c hc⟩ hs,by simpa using I.len⟩ ⟨c,hs,.inr hc⟩
  ·exact(hs.2 b (yax (yaw (yam e) (I.ok.cab x c hfn hc)))).trans (I.base.keep b o e n hb hx)
  ·obtain⟨sl,e1⟩:=I.base.slot b o e n hb hx
   exact⟨sl,(hs.2 b (yax (yaw (yam e) (I.ok.cab x c hfn hc)))).trans e1⟩
  ·obtain⟨o',e1⟩:=I.base.there b o e hx
   exact⟨o',(hs.2 b (yax (yaw (yam e) (I.ok.cab x c hfn hc)))).trans e1⟩
  ·by_cases hj:j=i
   ·subst hj
    rw[hi]at e1;cases e1
    rw[List.getElem?_set_self hiσ]at e2
    cases e2
    exact⟨u,r,.inr ⟨.inl hk,c,hc,hc'⟩⟩
   ·rw [List.getElem?_set_ne (ybk hj)]at e2
    obtain⟨u',r',q⟩:=hl j y v' e1 e2 e3
    refine⟨u',r',?_⟩
    rcases q with q|⟨k,c',e,z'⟩
    ·exact .inl q
    ·refine .inr ⟨k,c',e,z'.sameBut hs ?_⟩
     rintro rfl
     exact hj (qfH hN e1 (I.ok.inj _ _ _ e hc▸hi))
  ·by_cases hcc:c'=c
   ·subst hcc;exact⟨_,hc'⟩
   ·obtain⟨w2,z2⟩:=I.cell y c' e
    exact⟨w2,z2.sameBut hs hcc⟩
  ·obtain⟨e,n,ne,nf,d⟩:=I.pin p hp
   refine⟨(hs.2 p.1 ?_).trans e,n,ne,nf,d⟩
   intro q
   rw[q,hoc]at e
   have q':oc=p.2:=yaM e
   exact d w' (by rw[<-q'];exact hocd)
theorem qaE {M:Model} {A:yas} {E:Value->yab->Prop} {i:Nat} {x:Str} {v:V} {u:Value} {Q:Unit->yab->Prop} (I:Inv X pins σ H s) (hN:X.N.Nodup) (hi:X.N[i]? = some x) (hx:Loc X.env.scope x) (r:yg v u)
  (h:∀s',Inv X pins (σ.set i (some v)) H s'->Q () s') (hf:X.fn x=true\/X.env.scope.names.lookup x=some .local:=by first|exact .inl rfl|exact .inr rfl|assumption):wpAny M A (storeName X.env x u) Q E s :=
 qdU I hN hi hx r (λs' I' _=>h s' I') hf
theorem Inv.call' {s':yab} {ch:List Addr} (I:Inv X pins σ H s) (ho:s'.os=s.os) (u:Un (frs X.stack) ch H H' s.heap s'.heap) (hok:HOk X.prog X.w H' s'.heap) (hg:ycl s'.gens)
  (hch:∀b∈ch,(b∈X.ex\/X.s₀.heap.objs.size<=b)/\b≠X.env.locals/\(∀x c,X.env.cells.lookup x=some c->c≠b)/\∀p∈X.pn++pins,p.1≠b):Inv X pins σ H' s':=by
 obtain⟨h',g',d',t',o'⟩:=s'
 have e:o'=s.os:=ho
 subst e
 exact I.call (g':=g') (t':=t') (d':=d') u hok hg hch
end
abbrev XK:=Value->Option Addr->Hp->Prop
abbrev St:=List (Option V)
abbrev VK:=V->Hp->Prop
abbrev TE:=St->Hp->VK->Prop
abbrev TT:=St->Hp->(Bool->Hp->Prop)->Prop
abbrev TA:=St->Hp->(List V->Hp->Prop)->Prop
structure qhb where
 nx:St->Hp->Prop
 rt:VK
 bk:St->Hp->Prop:=λ_ _=>False
 ct:St->Hp->Prop:=λ_ _=>False
abbrev TS:=qhb->St->Hp->Prop
def EP(X:Cx)(pins:List (Addr×Obj))(σ:St)(Q:VK)(u:Value)(s':yab):Prop:=∃v H',Inv X pins σ H' s'/\yg v u/\Q v H'
def TP(X:Cx)(pins:List (Addr×Obj))(σ:St)(Q:Bool->Hp->Prop)(b:Bool)(s':yab):Prop:=∃H',Inv X pins σ H' s'/\Q b H'
def AP(X:Cx)(pins:List (Addr×Obj))(σ:St)(Q:List V->Hp->Prop)(us:List Value)(s':yab):Prop:=∃vs H',Inv X pins σ H' s'/\zM vs us/\Q vs H'
def SP (X:Cx) (pins:List (Addr×Obj)) (D:qhb) (f:Flow) (s':yab):Prop :=
 match f with
 |.next=>∃σ' H',Inv X pins σ' H' s'/\D.nx σ' H'
 |.brk=>∃σ' H',Inv X pins σ' H' s'/\D.bk σ' H'
 |.cont=>∃σ' H',Inv X pins σ' H' s'/\D.ct σ' H'
 |.ret u=>∃v σ' H',Inv X pins σ' H' s'/\yg v u/\D.rt v H'
def PE (X:Cx) (e:Expr) (t:TE):Prop :=
 ∀(pins:List (Addr×Obj))(s:yab)(σ:St)(H:Hp)(Q:VK),Inv X pins σ H s->t σ H Q->wpAny (model X.prog X.w) X.A (eval e X.env) (EP X pins σ Q) X.xe s
def PT (X:Cx) (e:Expr) (t:TT):Prop :=
 ∀(pins:List (Addr×Obj))(s:yab)(σ:St)(H:Hp)(Q:Bool->Hp->Prop),Inv X pins σ H s->t σ H Q->wpAny (model X.prog X.w) X.A (isTrue e X.env (eval e X.env)) (TP X pins σ Q) X.xe s
def PW (X:Cx) (e:Expr) (t:TT):Prop :=
 ∀(whole:Sem Value)(pins:List (Addr×Obj))(s:yab)(σ:St)(H:Hp)(Q:Bool->Hp->Prop),Inv X pins σ H s->t σ H Q->wpAny (model X.prog X.w) X.A (isTrue e X.env whole) (TP X pins σ Q) X.xe s
theorem PW.pt{X:Cx}{e:Expr}{t:TT}(h:PW X e t):PT X e t:=h _
def PA (X:Cx) (es:List Expr) (t:TA):Prop :=
 ∀(pos:Pos)(pins:List (Addr×Obj))(s:yab)(σ:St)(H:Hp)(Q:List V->Hp->Prop),Inv X pins σ H s->t σ H Q->wpAny (model X.prog X.w) X.A (spliced (yaR pos (yah es X.env))) (AP X pins σ Q) X.xe s
def PS (X:Cx) (st:Stmt) (t:TS):Prop :=
 ∀(pins:List (Addr×Obj))(s:yab)(σ:St)(H:Hp)(D:qhb),Inv X pins σ H s->t D σ H->wpAny (model X.prog X.w) X.A (exec st X.env) (SP X pins D) X.xe s
def PSs (X:Cx) (st:List Stmt) (t:TS):Prop :=
 ∀(pins:List (Addr×Obj))(s:yab)(σ:St)(H:Hp)(D:qhb),Inv X pins σ H s->t D σ H->wpAny (model X.prog X.w) X.A (execs st X.env) (SP X pins D) X.xe s
theorem thn{α:Type}{t:Sem α}{Q Q':α->yab->Prop}{M:Model}{A:yas}{E:Value->yab->Prop}{s:yab}(h:wpAny M A t Q E s)(hQ:∀a s,Q a s->Q' a s):wpAny M A t Q' E s:=ybf h hQ λ_ _ x=>x
end L2
namespace L2
open PySem PySem.Spec PyProof.Rows
section
variable{X:Cx}
theorem bin {a b:Expr} {ta tb:TE} (ha:PE X a ta) (hb:PE X b tb) {pins:List (Addr×Obj)} {s:yab} {σ:St} {H:Hp} {R:V->V->Hp->Prop} (I:Inv X pins σ H s) (h:ta σ H λx H1=>tb σ H1 λy H2=>R x y H2)
  {α:Type} {Q:α->yab->Prop} {f:Value->Value->Sem α}
  (hf:∀v u s2 x y H2,Inv X pins σ H2 s2->yg x v->yg y u->R x y H2->wpAny (model X.prog X.w) X.A (f v u) Q X.xe s2) :
  wpAny (model X.prog X.w) X.A (eval a X.env) (λv sQ=>wpAny (model X.prog X.w) X.A (eval b X.env) (λu sK=>wpAny (model X.prog X.w) X.A (f v u) Q X.xe sK) X.xe sQ) X.xe s:=by
 refine thn (ha pins s σ H _ I h) λv s1 ⟨x,H1,I1,r1,q1⟩=>?_
 refine thn (hb pins s1 σ H1 _ I1 q1) λu s2 ⟨y,H2,I2,r2,q2⟩=>?_
 exact hf v u s2 x y H2 I2 r1 r2 q2
def qqy(i:Nat):TE:=λσ H Q=>∃v,σ[i]? = some (some v)/\Q v H
def tC(v:V):TE:=λ_ H Q=>Q v H
theorem qaF {i:Nat} {x:Str} {pos:Pos} (hN:X.N[i]? = some x) (hv:Vis X.env.scope x) (hd:(x==("__debug__":Str))=false:=by decide) (hcd:(x==("__classdict__":Str))=false:=by decide):PE X (.Name x pos) (qqy i):=by
 intro pins s σ H Q I h
 obtain⟨v,e,h⟩:=h
 obtain⟨m,hn,hl⟩:=I.loc
 obtain⟨u,r,l⟩:=hl i x v hN e hv
 have fin:EP X pins σ Q u s:=⟨v,H,I,r,h⟩
 rcases l with⟨hk,hm⟩|⟨hk,c,hc,hcell⟩
 ·exact yfT (wpAny_loadName_local I.ok.kind hk hn hm fin) hd
 ·rcases hk with hk|hk
  ·exact yfT (wpAny_loadName_cell I.ok.kind hk hc hcell fin) hd
  ·exact yfT (wpAny_loadName_free I.ok.kind hk hc hcell fin hcd) hd
theorem qmS{i j pos}:PE X (.Constant (.int i) j pos) (tC (.int i)):=λ_ _ _ H _ I h=>ydr ⟨.int i,H,I.tok _,⟨_,rfl⟩,h⟩
theorem qoQ{b j pos}:PE X (.Constant (.bool b) j pos) (tC (.bl b)):=λ_ _ _ H _ I h=>Constant_bool ⟨.bl b,H,I,rfl,h⟩
theorem qmT{j pos}:PE X (.Constant .none j pos) (tC .non):=λ_ _ _ H _ I h=>Constant_none ⟨.non,H,I,rfl,h⟩
theorem qmU{x j pos}:PE X (.Constant (.str x) j pos) (tC (.str x)):=λ_ _ _ H _ I h=>ye5 ⟨.str x,H,I.tok _,⟨_,rfl⟩,h⟩
def Gl(X:Cx)(x:Str):Prop:=X.env.kindOf x=some .globalImplicit
theorem qda {E:Value->yab->Prop} {pins:List (Addr×Obj)} {s:yab} {σ:St} {H:Hp} {x:Str} {u:Value} {pos:Pos} {Q:Value->yab->Prop} (I:Inv X pins σ H s) (hg:Gl X x) (hm:X.mg x=some u) (h:Q u s)
  (hd:(x==("__debug__":Str))=false:=by decide):wpAny (model X.prog X.w) X.A (eval (.Name x pos) X.env) Q E s :=
 ydB I.ok.kind hg (Calls.loadGlobal_global (by rw[I.ok.glob];exact I.mod.glob.keeps I.bk) hm h) hd
theorem qdV {E:Value->yab->Prop} {pins:List (Addr×Obj)} {s:yab} {σ:St} {H:Hp} {x:Str} {u:Value} {pos:Pos} {Q:Value->yab->Prop} (I:Inv X pins σ H s) (hg:Gl X x) (hm:X.mg x=none) (hv:yaz x=some u) (h:Q u s)
  (hn:x≠"__name__":=by decide) (hd:(x==("__debug__":Str))=false:=by decide):wpAny (model X.prog X.w) X.A (eval (.Name x pos) X.env) Q E s:=by
 obtain⟨mb,h1,h2⟩:=I.mod.blt
 exact ydB I.ok.kind hg (Calls.loadGlobal_builtin (by rw[I.ok.glob];exact I.mod.glob.keeps I.bk) hm (by rw[I.ok.blt];exact h1.keeps I.bk) ((h2 x hn).trans hv) h) hd
theorem qeP {x:Str} {v:V} {u:Value} {pos:Pos} (hg:Gl X x) (hm:X.mg x=some u) (r:yg v u) (hd:(x==("__debug__":Str))=false:=by decide):PE X (.Name x pos) (tC v) :=
 λ_ _ _ H _ I h=>qda I hg hm ⟨v,H,I,r,h⟩ hd
theorem qhc {x:Str} {v:V} {u:Value} {pos:Pos} (hg:Gl X x) (hm:X.mg x=none) (hv:yaz x=some u) (r:yg v u) (hn:x≠"__name__":=by decide) (hd:(x==("__debug__":Str))=false:=by decide):PE X (.Name x pos) (tC v) :=
 λ_ _ _ H _ I h=>qdV I hg hm hv ⟨v,H,I,r,h⟩ hn hd
variable{a b:Expr}{ta tb:TE}{pos:Pos}
def PC (X:Cx) (op:CmpOp) (a b:Expr) (t:TE):Prop :=
 ∀ (pins:List (Addr×Obj)) (s:yab) (σ:St) (H:Hp) (Q:VK),Inv X pins σ H s->t σ H Q ->
  wpAny (model X.prog X.w) X.A (eval a X.env) (λv sQ=>wpAny (model X.prog X.w) X.A (eval b X.env) (λu sK=>wpAny (model X.prog X.w) X.A (yaL op v u) (EP X pins σ Q) X.xe sK) X.xe sQ) X.xe s
theorem qi1 (b:Expr) {op:CmpOp} (h:op ≠ .In) (h2:op ≠ .NotIn):ybD op b=false:=by
 have e1:(op==CmpOp.In)=false:=by cases op<;>first|rfl|exact absurd rfl h
 have e2:(op==CmpOp.NotIn)=false:=by cases op<;>first|rfl|exact absurd rfl h2
 cases b<;>simp[ybD,e1,e2]
def tB(t:TE):TT:=λσ H Q=>t σ H λx H1=>∃c,x=.bl c/\Q c H1
theorem qpS {op:CmpOp} {t:TE} (h:PC X op a b t) (h1:ybD op b=false:=by first|exact qi1 _ (by decide) (by decide)|rfl):PT X (.Compare a [op] [b] pos) (tB t):=by
 intro pins s σ H Q I hw
 refine yep (thn (h pins s σ H _ I hw) λv s1 h1=>thn h1 λu s2 h2=>thn h2 λc s3 ⟨x,H1,I1,r1,q1⟩=>?_) h1
 obtain⟨d,rfl,q⟩:=q1
 cases r1
 exact ybc ⟨H1,I1,q⟩
theorem qmV {e:Expr} {t:TE} (h:PE X e t) (he:∀whole,isTrue e X.env whole=(do let v <-whole;standAt e.pos;ydj [v] (truthy v)):=by intro _;rfl):PT X e (tB t):=by
 intro pins s σ H Q I hw
 refine isTrue_plain (thn (h pins s σ H _ I hw) λv s1 ⟨x,H1,I1,r1,q1⟩=>?_) (he _)
 obtain⟨d,rfl,q⟩:=q1
 cases r1
 exact ybc ⟨H1,I1,q⟩
variable{tA tB':TT}{qbN:List Expr}
def qqz(t u:TT):TT:=λσ H Q=>t σ H λc H1=>if c=true then u σ H1 Q else Q false H1
def tOr(t u:TT):TT:=λσ H Q=>t σ H λc H1=>if c=true then Q true H1 else u σ H1 Q
def qqA(t:TT):TT:=λσ H Q=>t σ H λc H1=>Q (!c) H1
theorem qk7 (ha:PT X a tA):PW X (.BoolOp .And [a] pos) tA:=by
 intro wh pins s σ H Q I h
 refine isTrue_and (thn (ha pins s σ H Q I h) λc s1 e=>?_)
 cases c with
 |true=>exact isTrue_and_nil e
 |false=>exact e
theorem qmW (ha:PT X a tA):PW X (.BoolOp .Or [a] pos) tA:=by
 intro wh pins s σ H Q I h
 refine isTrue_or (thn (ha pins s σ H Q I h) λc s1 e=>?_)
 cases c with
 |false=>exact isTrue_or_nil e
 |true=>exact e
theorem qmX (ha:PT X a tA) (hb:PW X (.BoolOp .And (b::qbN) pos) tB'):PW X (.BoolOp .And (a::b::qbN) pos) (qqz tA tB'):=by
 intro wh pins s σ H Q I h
 refine isTrue_and (thn (ha pins s σ H _ I h) λc s1 ⟨H1,I1,q1⟩=>?_)
 cases c with
 |true=>exact hb wh pins s1 σ H1 Q I1 q1
 |false=>exact⟨H1,I1,q1⟩
theorem qoR (ha:PT X a tA) (hb:PW X (.BoolOp .Or (b::qbN) pos) tB'):PW X (.BoolOp .Or (a::b::qbN) pos) (tOr tA tB'):=by
 intro wh pins s σ H Q I h
 refine isTrue_or (thn (ha pins s σ H _ I h) λc s1 ⟨H1,I1,q1⟩=>?_)
 cases c with
 |true=>exact⟨H1,I1,q1⟩
 |false=>exact hb wh pins s1 σ H1 Q I1 q1
theorem qmY (ha:PT X a tA):PT X (.UnaryOp .Not a pos) (qqA tA):=by
 intro pins s σ H Q I h
 exact isTrue_not (ha pins s σ H (λc H1=>Q (!c) H1) I h)
def qoS(ta tb:TE):TE:=λσ H Q=>ta σ H λx H1=>∃c,x=.bl c/\if c=true then tb σ H1 Q else Q (.bl false) H1
def qqB(ta tb:TE):TE:=λσ H Q=>ta σ H λx H1=>∃c,x=.bl c/\if c=true then Q (.bl true) H1 else tb σ H1 Q
def qoT(ta:TE):TE:=λσ H Q=>ta σ H λx H1=>∃c,x=.bl c/\Q (.bl (!c)) H1
theorem qmZ{op}{t:TE}(h:PE X a t):PE X (.BoolOp op [a] pos) t:=λpins s σ H Q I hw=>BoolOp_one (h pins s σ H Q I hw)
theorem qm0 (ha:PE X a ta) (hb:PE X (.BoolOp .And (b::qbN) pos) tb):PE X (.BoolOp .And (a::b::qbN) pos) (qoS ta tb):=by
 intro pins s σ H Q I h
 refine BoolOp_and (thn (ha pins s σ H _ I h) λv s1 ⟨x,H1,I1,r1,q1⟩=>?_)
 obtain⟨c,rfl,q1⟩:=q1
 cases r1
 refine ybc ?_
 cases c with
 |true=>exact hb pins s1 σ H1 Q I1 q1
 |false=>exact⟨.bl false,H1,I1,rfl,q1⟩
theorem qoU (ha:PE X a ta) (hb:PE X (.BoolOp .Or (b::qbN) pos) tb):PE X (.BoolOp .Or (a::b::qbN) pos) (qqB ta tb):=by
 intro pins s σ H Q I h
 refine BoolOp_or (thn (ha pins s σ H _ I h) λv s1 ⟨x,H1,I1,r1,q1⟩=>?_)
 obtain⟨c,rfl,q1⟩:=q1
 cases r1
 refine ybc ?_
 cases c with
 |false=>exact hb pins s1 σ H1 Q I1 q1
 |true=>exact⟨.bl true,H1,I1,rfl,q1⟩
theorem qm1 (ha:PE X a ta):PE X (.UnaryOp .Not a pos) (qoT ta):=by
 intro pins s σ H Q I h
 refine UnaryOp_ (thn (ha pins s σ H _ I h) λv s1 ⟨x,H1,I1,r1,q1⟩=>?_)
 obtain⟨c,rfl,q1⟩:=q1
 cases r1
 exact not_of (ybc ⟨.bl (!c),H1,I1,rfl,q1⟩)
def tIf(t:TT)(ta tb:TE):TE:=λσ H Q=>t σ H λc H1=>if c=true then ta σ H1 Q else tb σ H1 Q
theorem qi2 {c:Expr} (hc:PT X c tA) (ha:PE X a ta) (hb:PE X b tb):PE X (.IfExp c a b pos) (tIf tA ta tb):=by
 intro pins s σ H Q I h
 refine wpAny_IfExp (thn (hc pins s σ H _ I h) λd s1 ⟨H1,I1,q1⟩=>?_)
 cases d with
 |true=>exact ha pins s1 σ H1 Q I1 q1
 |false=>exact hb pins s1 σ H1 Q I1 q1
end
end L2
namespace L2
open PySem PySem.Spec PyProof.Rows
def SqL (K:yan) (H:Hp) (a:Addr) (xs:List V):Prop :=
 Rd H a (.lst xs) \/
  ∃(o:Obj)(its:Array Value)(n:Nat),K.lookup a=some o/\o.cls=.type "list"/\o.dict=none/\o.data=.seq its n/\its.size<=yaq/\zM xs its.toList
def SqT (K:yan) (H:Hp) (a:Addr) (xs:List V):Prop :=
 Rd H a (.tup xs) \/
  ∃(o:Obj)(its:Array Value)(n:Nat),K.lookup a=some o/\o.cls=.type "tuple"/\o.data=.seq its n/\its.size<=yaq/\zM xs its.toList
def qqC:Value->Option V
 |.none=>some .non
 |.bool b=>some (.bl b)
 |.int i _=>some (.int i)
 |.str x _=>some (.str x)
 |.bytes b _=>some (.byt b)
 |.float b _=>some (.flt b)
 |.ref a=>some (.ref a)
 |.type n=>some (.ty n)
 |_=>none
theorem yg.abs {x:V} {u:Value} (r:yg x u):qqC u=some x:=by
 cases x with
 |non=>cases r;rfl
 |bl _=>cases r;rfl
 |int _=>obtain⟨t,rfl⟩:=r;rfl
 |str _=>obtain⟨t,rfl⟩:=r;rfl
 |byt _=>obtain⟨t,rfl⟩:=r;rfl
 |flt _=>obtain⟨t,rfl⟩:=r;rfl
 |ref _=>cases r;rfl
 |ty _=>cases r;rfl
theorem yg.inj{x y:V}{u:Value}(r:yg x u)(q:yg y u):x=y:=yaM (r.abs.symm.trans q.abs)
theorem zM.inj:∀{xs ys:List V}{us:List Value},zM xs us->zM ys us->xs=ys
 |_,_,_,.nil,.nil=>rfl
 |_,_,_,.cons r t,.cons r' t'=>by rw[r.inj r',zM.inj t t']
section
variable{X:Cx}{pins:List (Addr×Obj)}{σ:St}{H:Hp}{s:yab}{a:Addr}{xs ys:List V}
theorem SqL.of{K:yan}(h:H a=some (.lst xs)):SqL K H a xs:=.inl (.inl h)
theorem Inv.list (I:Inv X pins σ H s) (h:SqL X.K H a xs):∃its:List Value,zM xs its/\PlainL s.heap a its.toArray/\xs.length<=yaq:=by
 rcases h with h|⟨o,its,n,hk,hc,hd,hs,hz,r⟩
 ·obtain⟨z,its,n,r,e⟩:=h.ok I.hok
  exact⟨its,r,⟨_,n,e,rfl,rfl,rfl⟩,z⟩
 ·refine⟨its.toList,r,⟨o,n,I.kIn a o hk,hc,hd,by simpa using hs⟩,?_⟩
  have e:=r.length
  simp only[ycp]at e
  omega
theorem Inv.tuple (I:Inv X pins σ H s) (h:SqT X.K H a xs):∃its:List Value,zM xs its/\IsTup s.heap a its.toArray/\xs.length<=yaq:=by
 rcases h with h|⟨o,its,n,hk,hc,hs,hz,r⟩
 ·obtain⟨z,its,r,p⟩:=h.ok I.hok
  exact⟨its,r,p,z⟩
 ·refine⟨its.toList,r,⟨o,I.kIn a o hk,hc,n,by simpa using hs⟩,?_⟩
  have e:=r.length
  simp only[ycp]at e
  omega
theorem Inv.list_inj (I:Inv X pins σ H s) (h:SqL X.K H a xs) (h':SqL X.K H a ys):xs=ys:=by
 obtain⟨its,r,⟨o,n,e,_,_,d⟩,_⟩:=I.list h
 obtain⟨its',r',⟨o',n',e',_,_,d'⟩,_⟩:=I.list h'
 rw[e]at e';cases e'
 rw[d]at d'
 injection d' with d1 _
 have:its=its':=by simpa using congrArg Array.toList d1
 subst this
 exact r.inj r'
theorem Inv.tuple_inj (I:Inv X pins σ H s) (h:SqT X.K H a xs) (h':SqT X.K H a ys):xs=ys:=by
 obtain⟨its,r,⟨o,e,_,n,d⟩,_⟩:=I.tuple h
 obtain⟨its',r',⟨o',e',_,n',d'⟩,_⟩:=I.tuple h'
 rw[e]at e';cases e'
 rw[d]at d'
 injection d' with d1 _
 have:its=its':=by simpa using congrArg Array.toList d1
 subst this
 exact r.inj r'
end
abbrev Cx.wish(X:Cx)(E:Value->yab->Prop):Cx:={X with xe:=E}
abbrev Cx.nox(X:Cx):Cx:=X.wish λ_ _=>False
theorem Cx.Ok.wish {X:Cx} (ok:X.Ok) (E:Value->yab->Prop):(X.wish E).Ok :=
 ⟨ok.mod,ok.kind,ok.glob,ok.blt,ok.above,ok.inj,ok.has,ok.cab,ok.hd,ok.frames,ok.stk,ok.exf,ok.bs,ok.bsz,ok.noex,ok.exfs,ok.funs,ok.frf⟩
theorem Cx.Ok.unwish {X:Cx} {E:Value->yab->Prop} (ok:(X.wish E).Ok):X.Ok :=
 ⟨ok.mod,ok.kind,ok.glob,ok.blt,ok.above,ok.inj,ok.has,ok.cab,ok.hd,ok.frames,ok.stk,ok.exf,ok.bs,ok.bsz,ok.noex,ok.exfs,ok.funs,ok.frf⟩
section
variable{X:Cx}{pins:List (Addr×Obj)}{σ:St}{H:Hp}{s:yab}{E:Value->yab->Prop}
theorem Inv.wish(I:Inv X pins σ H s)(E:Value->yab->Prop):Inv (X.wish E) pins σ H s:=⟨I.ok.wish E,I.os,I.bare,I.base,I.loc,I.cell,I.free,I.freeC,I.pin,I.hok,I.len⟩
theorem Inv.unwish(I:Inv (X.wish E) pins σ H s):Inv X pins σ H s:=⟨I.ok.unwish,I.os,I.bare,I.base,I.loc,I.cell,I.free,I.freeC,I.pin,I.hok,I.len⟩
theorem SP.unwish {D:qhb} {f:Flow} {s':yab} (h:SP (X.wish E) pins D f s'):SP X pins D f s':=by
 cases f with
 |next=>obtain⟨σ',H',I,q⟩:=h;exact⟨σ',H',I.unwish,q⟩
 |brk=>obtain⟨σ',H',I,q⟩:=h;exact⟨σ',H',I.unwish,q⟩
 |cont=>obtain⟨σ',H',I,q⟩:=h;exact⟨σ',H',I.unwish,q⟩
 |ret u=>obtain⟨v,σ',H',I,r,q⟩:=h;exact⟨v,σ',H',I.unwish,r,q⟩
theorem PE.nox {e:Expr} {t:TE} (h:PE X.nox e t):PE X e t:=λpins s σ H Q I hw=>
 ybf (h pins s σ H Q (I.wish _) hw) (λ_ _ ⟨v,H',I',r,q⟩=>⟨v,H',I'.unwish,r,q⟩) λ_ _ z=>ya5 z
theorem PT.nox {e:Expr} {t:TT} (h:PT X.nox e t):PT X e t:=λpins s σ H Q I hw=>
 ybf (h pins s σ H Q (I.wish _) hw) (λ_ _ ⟨H',I',q⟩=>⟨H',I'.unwish,q⟩) λ_ _ z=>ya5 z
theorem PSs.nox {st:List Stmt} {t:TS} (h:PSs X.nox st t):PSs X st t:=λpins s σ H D I hw=>
 ybf (h pins s σ H D (I.wish _) hw) (λ_ _ q=>q.unwish) λ_ _ z=>ya5 z
end
section
variable{X:Cx}{st:Stmt}{qbN:List Stmt}{t u:TS}{e:Expr}{te:TE}{pos:Pos}
def qoV:TS:=λD σ H=>D.nx σ H
def qqD(t u:TS):TS:=λD σ H=>t {D with nx:=u D} σ H
theorem qk8:PSs X [] qoV:=λ_ _ σ H _ I h=>yct ⟨σ,H,I,h⟩
theorem qi3 (h1:PS X st t) (h2:PSs X qbN u):PSs X (st::qbN) (qqD t u):=by
 intro pins s σ H D I h
 refine wpAny_execs_cons (thn (h1 pins s σ H {D with nx:=u D} I h) λf s1 q=>?_)
 cases f with
 |next=>
  obtain⟨σ',H',I',q⟩:=q
  exact h2 pins s1 σ' H' D I' q
 |ret v=>exact q
 |brk=>exact q
 |cont=>exact q
theorem qhd (h1:PS X st t):PSs X [st] t:=by
 intro pins s σ H D I h
 refine wpAny_execs_cons (thn (h1 pins s σ H D I h) λf s1 q=>?_)
 cases f with
 |next=>exact yct q
 |ret v=>exact q
 |brk=>exact q
 |cont=>exact q
theorem Inv.quiet{pins:List (Addr×Obj)}{σ:St}{H:Hp}{s:yab}(I:Inv X pins σ H s):interactive X.env=false:=by simp[interactive,I.ok.kind]
def qoW(te:TE):TS:=λD σ H=>te σ H λ_ H1=>D.nx σ H1
theorem qk9 (he:PE X e te) (hs:yc0 e none pos.line X.env=pure false:=by rfl):PS X (.Expr e pos) (qoW te):=by
 intro pins s σ H D I h
 exact wpAny_Expr_any (thn (he pins s σ H _ I h) λv s1 ⟨x,H1,I1,r1,q1⟩=>⟨σ,H1,I1,q1⟩) I.quiet hs
def qqE(te:TE):TS:=λD σ H=>te σ H D.rt
theorem qkb (he:PE X e te):PS X (.Return (some e) pos) (qqE te):=by
 intro pins s σ H D I h
 exact wpAny_Return_some (thn (he pins s σ H _ I h) λv s1 ⟨x,H1,I1,r1,q1⟩=>⟨x,σ,H1,I1,r1,q1⟩)
def qqF(c:TT)(t u:TS):TS:=λD σ H=>c σ H λb H1=>if b=true then t D σ H1 else u D σ H1
theorem qoX {c:Expr} {a b:List Stmt} {tc:TT} (hc:PT X c tc) (ha:PSs X a t) (hb:PSs X b u):PS X (.If c a b pos) (qqF tc t u):=by
 intro pins s σ H D I h
 refine wpAny_If (thn (hc pins s σ H _ I h) λd s1 ⟨H1,I1,q1⟩=>?_)
 cases d with
 |true=>exact ha pins s1 σ H1 D I1 q1
 |false=>exact hb pins s1 σ H1 D I1 q1
end
abbrev TG:=V->St->Hp->(St->Hp->Prop)->Prop
abbrev TGs:=List V->St->Hp->(St->Hp->Prop)->Prop
def PG (X:Cx) (target:Expr) (t:TG):Prop :=
 ∀ (pins:List (Addr×Obj)) (s:yab) (σ:St) (H:Hp) (v:V) (u:Value) (Q:St->Hp->Prop),Inv X pins σ H s->yg v u->t v σ H Q ->
  wpAny (model X.prog X.w) X.A (ycg target X.env u) (λ_ s'=>∃σ' H',Inv X pins σ' H' s'/\Q σ' H') X.xe s
def PGs (X:Cx) (ts:List Expr) (t:TGs):Prop :=
 ∀ (pins:List (Addr×Obj)) (s:yab) (σ:St) (H:Hp) (vs:List V) (us:List Value) (Q:St->Hp->Prop),Inv X pins σ H s->zM vs us->t vs σ H Q ->
  wpAny (model X.prog X.w) X.A (yeR ((ybx ts X.env).map (·.2)) us) (λ_ s'=>∃σ' H',Inv X pins σ' H' s'/\Q σ' H') X.xe s
abbrev qoY:=V->V->V->Hp->(Hp->Prop)->Prop
def qpT (X:Cx) (t:qoY):Prop :=
 ∀ (pins:List (Addr×Obj)) (s:yab) (σ:St) (H:Hp) (o i v:V) (ov iv u:Value) (Q:Hp->Prop),Inv X pins σ H s->yg o ov->yg i iv->yg v u->t o i v H Q ->
  wpAny (model X.prog X.w) X.A (setItem ov iv u) (λ_ s'=>∃H',Inv X pins σ H' s'/\Q H') X.xe s
section
variable{X:Cx}{pos:Pos}
def qm2(i:Nat):TG:=λv σ H Q=>Q (σ.set i (some v)) H
theorem qla {i:Nat} {x:Str} (hN:X.N.Nodup) (hi:X.N[i]? = some x) (hx:Loc X.env.scope x) (hf:X.fn x=true\/X.env.scope.names.lookup x=some .local:=by first|exact .inl rfl|exact .inr rfl|assumption):PG X (.Name x pos) (qm2 i):=by
 intro pins s σ H v u Q I r h
 exact yfv (qaE I hN hi hx r (λs' I'=>⟨_,H,I',h⟩) hf)
def qqG:TGs:=λvs σ H Q=>vs=[]/\Q σ H
def qoZ(t:TG)(u:TGs):TGs:=λvs σ H Q=>∃v r,vs=v::r/\t v σ H λσ' H'=>u r σ' H' Q
theorem qlb:PGs X [] qqG:=by
 intro pins s σ H vs us Q I r h
 obtain⟨e,h⟩:=h
 subst e
 cases r
 exact yfw ⟨σ,H,I,h⟩
theorem qi4 {e:Expr} {es:List Expr} {t:TG} {u:TGs} (h1:PG X e t) (h2:PGs X es u)
  (hs:(ybx (e::es) X.env).map (·.2)=ycg e X.env::(ybx es X.env).map (·.2):=by rfl):PGs X (e::es) (qoZ t u):=by
 intro pins s σ H vs us Q I r h
 obtain⟨v,vr,e1,h⟩:=h
 subst e1
 cases r with
 |cons r rr=>
  rw[hs]
  refine yds (thn (h1 pins s σ H _ _ _ I r h) λ_ s1 ⟨σ1,H1,I1,q1⟩=>?_)
  exact h2 pins s1 σ1 H1 _ _ Q I1 rr q1
def qqH(K:yan)(n:Nat)(t:TGs):TG:=λv σ H Q=>∃a xs,v=.ref a/\SqT K H a xs/\xs.length=n/\t xs σ H Q
theorem qm3 {es:List Expr} {k:Nat} {t:TGs} {n:Nat} (hc:X.calm=true) (h:PGs X es t)
  (hn:(ybx es X.env).length=n:=by rfl) (hst:(ybx es X.env).findIdx? (·.1)=none:=by rfl):PG X (.Tuple es k pos) (qqH X.K n t):=by
 intro pins s σ H v u Q I r hw
 obtain⟨a,xs,e1,hq,hl,hw⟩:=hw
 subst e1
 cases r
 obtain⟨its,rv,ht,hz⟩:=I.tuple hq
 refine assign_Tuple_tuple (I.ok.hd hc) ht (by simp[hn,<-hl,rv.length]) hst λh' hx=>?_
 have I1:Inv X pins σ H {s with heap:=h' }:=I.kept (t':=s.toks) λb o e=>hx b o (yax (yam e)) e
 exact h pins _ σ H xs _ Q I1 (by simpa using rv) hw
def qqI(to ti:TE)(t:qoY):TG:=λv σ H Q=>to σ H λo H1=>ti σ H1 λi H2=>t o i v H2 λH3=>Q σ H3
theorem qm4 {o i:Expr} {to ti:TE} {t:qoY} (ho:PE X o to) (hi:PE X i ti) (hs:qpT X t)
  (ha:∀v,ycg (.Subscript o i pos) X.env v=(do
   let ov <-ydj [v] (eval o X.env)
   let iv <-ydj [v,ov] (eval i X.env)
   standAt pos
   ydj [v,ov,iv] (setItem ov iv v)
   release [v,ov,iv] []):=by intro _;rfl):PG X (.Subscript o i pos) (qqI to ti t):=by
 intro pins s σ H v u Q I r h
 rw[ha]
 refine yaa (yba (thn (ho pins s σ H _ I h) λov s1 ⟨x,H1,I1,r1,q1⟩=>?_))
 refine yaa (yba (thn (hi pins s1 σ H1 _ I1 q1) λiv s2 ⟨y,H2,I2,r2,q2⟩=>?_))
 refine yaa (ycP (yaa (yba (thn (hs pins s2 σ H2 x y v ov iv u _ I2 r1 r2 r q2) λ_ s3 ⟨H3,I3,q3⟩=>?_))))
 exact wpAny_release ⟨σ,H3,I3,q3⟩
def qpU(te:TE)(g:TG):TS:=λD σ H=>te σ H λx H1=>g x σ H1 D.nx
theorem qkc {tg e:Expr} {te:TE} {g:TG} (he:PE X e te) (hg:PG X tg g) (hs:ycQ [tg] e pos.line X.env=pure false:=by rfl) (hw:ycR [tg] e X.env=pure none:=by rfl)
  (h1:(ybx [tg] X.env).map (·.2)=[ycg tg X.env]:=by rfl):PS X (.Assign [tg] e pos) (qpU te g):=by
 intro pins s σ H D I h
 refine wpAny_Assign_stores (thn (he pins s σ H _ I h) λv s1 ⟨x,H1,I1,r1,q1⟩=>?_) hs hw
 rw[h1]
 exact thn (hg pins s1 σ H1 x v _ I1 r1 q1) λ_ s2 q=>q
theorem qkd {i:Nat} {x:Str} {e:Expr} {te:TE} {pos':Pos} (hN:X.N.Nodup) (hi:X.N[i]? = some x) (hx:Loc X.env.scope x) (he:PE X e te) (hs:yc0 e (some (.Name x pos')) pos.line X.env=pure false:=by rfl) (hf:X.fn x=true\/X.env.scope.names.lookup x=some .local:=by first|exact .inl rfl|exact .inr rfl|assumption) :
  PS X (.Assign [.Name x pos'] e pos) (qpU te (qm2 i)):=by
 intro pins s σ H D I h
 refine wpAny_Assign_Name (thn (he pins s σ H _ I h) λv s1 ⟨y,H1,I1,r1,q1⟩=>?_) hs
 exact qaE I1 hN hi hx r1 (λs2 I2=>⟨_,H1,I2,q1⟩) hf
def qqJ(i j:Nat)(ta:TA):TS:=λD σ H=>ta σ H λvs H1=>∃v w,vs=[v,w]/\D.nx ((σ.set i (some v)).set j (some w)) H1
theorem qm5 {i j:Nat} {x y:Str} {a b:Expr} {ta:TA} {px py pt:Pos} {kt k2 pt2} (hc:X.calm=true) (hN:X.N.Nodup) (hi:X.N[i]? = some x) (hj:X.N[j]? = some y) (hij:i≠j)
  (hx:X.env.scope.names.lookup x=some .local) (hy:X.env.scope.names.lookup y=some .local) (ha:PA X [a,b] ta)
  (hw:ycR [.Tuple [.Name x px,.Name y py] kt pt] (.Tuple [a,b] k2 pt2) X.env=pure (some [x,y]))
  (hs:ycQ [.Tuple [.Name x px,.Name y py] kt pt] (.Tuple [a,b] k2 pt2) pos.line X.env=pure false:=by rfl) :
  PS X (.Assign [.Tuple [.Name x px,.Name y py] kt pt] (.Tuple [a,b] k2 pt2) pos) (qqJ i j ta):=by
 intro pins s σ H D I h
 rw[exec_Assign_arm]
 refine yaa (ycP ?_)
 rw[hs]
 refine yaa (yag ?_)
 rw[if_neg (by decide)]
 refine yaa (Tuple_ (thn (ha _ pins s σ H _ I h) λus s1 ⟨vs,H1,I1,r1,q1⟩=>?_))
 obtain⟨v,w,e1,q1⟩:=q1
 subst e1
 obtain ⟨u1,u2,rfl,rv,rw'⟩:∃u1 u2,us=[u1,u2]/\yg v u1/\yg w u2:=by
  cases r1 with
  | cons p q=>
   cases q with
   |cons p' q'=>
    cases q'
    exact⟨_,_,rfl,p,p'⟩
 refine yaN ?_ (by show 2<=yaq;decide)
 have I2:Inv X pins σ H1 {s1 with heap:=s1.heap.push {cls:=.type "tuple",data:=.seq [u1,u2].toArray} }:=I1.kept (t':=s1.toks) λb o e=>Heap.get?_push_of_some _ e
 rw[hw]
 refine yaa (yag ?_)
 show wpAny (model X.prog X.w) X.A (do rule "assign.swapped-stores";let items <-unpackItems (.ref s1.heap.objs.size) 2 none;yeR [λv=>yfQ X.env y v,λv=>yfQ X.env x v] items.reverse;pure Flow.next) _ _ _
 refine yaa (yc5 (yaa (unpackItems_tuple (items := #[u1,u2]) (I.ok.hd hc) (ydt s1.heap _) λh' hx'=>?_)))
 have I3:=I2.kept (h':=h') (t':=s1.toks) λb o e=>hx' b o (yax (yam e)) e
 show wpAny _ _ (yeR [λv=>yfQ X.env y v,λv=>yfQ X.env x v] [u2,u1] >>= λ_=>pure Flow.next) _ _ _
 refine yaa (yds (wpAny_bindName (qaE I3 hN hj (.inl hy) rw' (λs2 I4=>?_) (.inr hy))))
 refine yds (wpAny_bindName (qaE I4 hN hi (.inl hx) rv (λs3 I5=>yfw (yag ?_)) (.inr hx)))
 rw[List.set_comm _ _ (ybk hij)]at I5
 exact⟨_,H1,I5,q1⟩
end
section
variable{X:Cx}{pos:Pos}
def qm6 (c:TT) (tb:TS):TS:=λD σ H=>∃W:Nat->St->Hp->Prop,(∃m,W m σ H)/\∀m σ H,W m σ H ->
 c σ H λb H1=>if b=true then ∃N:St->Hp->Prop,(∀σ' H',N σ' H'->∃m',m'<m/\W m' σ' H')/\tb {D with nx:=N,ct:=N,bk:=D.nx} σ H1 else D.nx σ H1
theorem qi5 {c:Expr} {body:List Stmt} {tc:TT} {tb:TS} (hp:ye6 (model X.prog X.w) X.A X.env X.xe) (hc:PT X c tc) (hb:PSs X body tb):PS X (.While c body [] pos) (qm6 tc tb):=by
 intro pins s σ H D I h
 obtain⟨W,⟨m0,w0⟩,turn⟩:=h
 refine wpAny_While (codeAny_whileLoop (λn s'=>∃σ' H',Inv X pins σ' H' s'/\W n σ' H') ?_ m0 ⟨σ,H,I,w0⟩)
 rintro n s1 ⟨σ1,H1,I1,w1⟩
 refine ybO hp (thn (hc pins s1 σ1 H1 _ I1 (turn n σ1 H1 w1)) λb s2 ⟨H2,I2,q2⟩=>?_)
 cases b with
 | true=>
  obtain⟨N,hN,q2⟩:=q2
  rw[if_pos rfl]
  refine ybO hp (thn (hb pins s2 σ1 H2 _ I2 q2) λf s3 q3=>?_)
  cases f with
  |next=>
   obtain⟨σ3,H3,I3,n3⟩:=q3
   obtain⟨m',hm,w3⟩:=hN σ3 H3 n3
   exact⟨m',hm,σ3,H3,I3,w3⟩
  |cont=>
   obtain⟨σ3,H3,I3,n3⟩:=q3
   obtain⟨m',hm,w3⟩:=hN σ3 H3 n3
   exact⟨m',hm,σ3,H3,I3,w3⟩
  |brk=>exact q3
  |ret v=>exact q3
 |false=>
  rw[if_neg yap]
  exact yct ⟨σ1,H2,I2,q2⟩
end
structure It where
 go:Nat->Hp->Prop
 yld:Nat->Hp->V->Hp->Prop
 stop:Nat->Hp->Prop
def qeN (X:Cx) (pins:List (Addr×Obj)) (H:Hp) (b:Addr):Prop :=
 H b=none/\b≠X.env.locals/\b ∉ X.fs/\(b∈X.ex\/X.s₀.heap.objs.size<=b)/\(∀x c,X.env.cells.lookup x=some c->c≠b)/\∀p∈X.pn++pins,p.1≠b
theorem Inv.fpOk {X:Cx} {pins:List (Addr×Obj)} {σ:St} {H H':Hp} {s:yab} {b:Addr} (I:Inv X pins σ H s) (hb:s.heap.objs.size<=b) (hn:H' b=none):qeN X pins H' b:=by
 refine⟨hn,ycy (yaw I.lt hb),I.nofs hb,.inr (yau I.sz hb),λx c e z=>?_,λp hp z=>?_⟩
 ·obtain⟨v,q⟩:=I.cell x c e
  exact absurd (yaw q.lt (by rw[z];exact hb)) (ybC _)
 ·exact absurd (yaw (yam (I.pin p hp).1) (by rw[z];exact hb)) (ybC _)
structure qm7 (P:yar) (w:World) (K:yan) (tg:Expr) (J:It) (fp:List Addr) (it:Addr) (tn:Nat->Heap->Prop):Prop where
 mem:it∈fp
 obj:∀i h,tn i h->∀b∈fp,∃o,h.get? b=some o/\∀v,o.data ≠ .cell v
 keep:∀i h h',tn i h->(∀b∈fp,∀o,h.get? b=some o->h'.get? b=some o)->tn i h'
 item:∀(X:Cx),X.prog=P->X.w=w->X.K=K->X.calm=true->∀(i:Nat)(pins:List (Addr×Obj))(s:yab)(σ:St)(H:Hp)(E:Value->yab->Prop),Inv X pins σ H s->(∀b∈fp,qeN X pins H b)->tn i s.heap->J.go i H ->
  wpAny (model P w) X.A (ycL (.ref it)) (λr s1=>∃u,r=some u /\
   wpAny (model P w) X.A (ycu tg (.ref it) u) (λ_ s2=>∃x H',Inv X pins σ H' s2/\yg x u/\J.yld i H x H'/\tn (i+1) s2.heap/\∀b∈fp,H' b=none) E s1) E s
 done:∀(X:Cx),X.prog=P->X.w=w->X.K=K->X.calm=true->∀(i:Nat)(pins:List (Addr×Obj))(s:yab)(σ:St)(H:Hp)(E:Value->yab->Prop),Inv X pins σ H s->(∀b∈fp,qeN X pins H b)->tn i s.heap->J.stop i H ->
  wpAny (model P w) X.A (ycL (.ref it)) (λr s1=>r=none/\Inv X pins σ H s1) E s
 self:∀(A:yas)(i:Nat)(s:yab)(Q:Value->yab->Prop)(E:Value->yab->Prop),tn i s.heap->Q (.ref it) s->wpAny (model P w) A (pyIter (.ref it)) Q E s
abbrev TI:=St->Hp->(It->Hp->Prop)->Prop
def PIE (X:Cx) (pins:List (Addr×Obj)) (σ:St) (tg:Expr) (R:It->Hp->Prop) (itv:Value) (s2:yab):Prop :=
 ∃(it:Addr)(fp:List Addr)(tn:Nat->Heap->Prop)(J:It)(H':Hp),itv=.ref it/\Inv X pins σ H' s2/\qm7 X.prog X.w X.K tg J fp it tn/\tn 0 s2.heap/\(∀b∈fp,qeN X pins H' b)/\R J H'
def PI (X:Cx) (tg iter:Expr) (wi:TI):Prop :=
 ∀ (pins:List (Addr×Obj)) (s:yab) (σ:St) (H:Hp) (R:It->Hp->Prop),Inv X pins σ H s->wi σ H R ->
  wpAny (model X.prog X.w) X.A (eval iter X.env) (λv s1=>wpAny (model X.prog X.w) X.A (pyIter v) (PIE X pins σ tg R) X.xe s1) X.xe s
theorem qlc {M:Model} {A:yas} {E:Value->yab->Prop} {s:yab} {tg:Expr} {it:Addr} {u:Value} {o:Obj} {n:String} {vs:Array Value} {Q:Unit->yab->Prop} (ho:s.heap.get? it=some o) (hc:o.cls=.type n) (hd:o.data=.fields vs)
  (hn:["enumerate","zip","dict_itemiterator","dict_reverseitemiterator","odict_iterator","itertools.zip_longest","itertools.pairwise"].contains n=false) (hQ:Q () s):wpAny M A (ycu tg (.ref it) u) Q E s:=by
 unfold ycu
 cases tg<;>first
  |exact yag hQ
  | (cases u<;>first
    |exact yag hQ
    | (refine yaa (wpAny_load ho ?_)
       rw[hc,hd]
       show wpAny M A (if(["enumerate","zip","dict_itemiterator","dict_reverseitemiterator","odict_iterator","itertools.zip_longest","itertools.pairwise"].contains n&&vs[0]? == some (ybI _))=true then _ else _) Q E s
       rw[if_neg (by intro h;rw[hn,ybV]at h;cases h)]
       exact yag hQ))
def Itl (K:yan) (a:Addr):It :=
 ⟨λi H=>∃xs x,SqL K H a xs/\xs[i]? = some x,λi H x H'=>H'=H/\∀xs,SqL K H a xs->xs[i]? = some x,λi H=>∃xs,SqL K H a xs/\xs.length<=i⟩
def Itt (K:yan) (a:Addr):It :=
 ⟨λi H=>∃xs x,SqT K H a xs/\xs[i]? = some x,λi H x H'=>H'=H/\∀xs,SqT K H a xs->xs[i]? = some x,λi H=>∃xs,SqT K H a xs/\xs.length<=i⟩
def Itr(lo:Int)(n:Nat):It:=⟨λi _=>i<n,λi H x H'=>H'=H/\x=.int (lo+i),λi _=>n<=i⟩
theorem qhe {P:yar} {w:World} {K:yan} {tg:Expr} (a it:Addr):qm7 P w K tg (Itl K a) [it] it (λi h=>h.IsListIter it a i) where
 mem:=by simp
 obj:=λi h st b hb=>by
  have e:b=it:=by simpa using hb
  subst e
  obtain⟨o,e,c,d⟩:=st
  exact⟨o,e,λv z=>by rw[d]at z;cases z⟩
 keep:=λi h h' st k=>st.at λo e=>k it (by simp) o e
 item:=by
  intro X hP hw hK hc i pins s σ H E I hf st hg
  subst hP hw hK
  obtain⟨xs,x,hq,hx⟩:=hg
  obtain⟨its,rv,p,hz⟩:=I.list hq
  obtain⟨u,hu,ru⟩:=rv.get hx
  obtain⟨f0,f1,f2,f3,f4,f5⟩:=hf it (by simp)
  refine wpAny_pyNext_list_item st p.isList (x:=u) (by simpa using hu) λh' st' sb=>?_
  have I1:Inv X pins σ H {s with heap:=h' }:=I.turned (t':=s.toks) (λb o hb e=>(sb.2 b hb).trans e) f0 f1 f3 f4 f5
  obtain⟨o,e,c,d⟩:=id st'
  exact⟨u,rfl,qlc (s:={s with heap:=h' }) e c d (by decide) ⟨x,H,I1,ru,⟨rfl,λys hy=>by rw[I.list_inj hy hq];exact hx⟩,st',λb hb=>(hf b hb).1⟩⟩
 done:=by
  intro X hP hw hK hc i pins s σ H E I hf st hg
  subst hP hw hK
  obtain⟨xs,hq,hx⟩:=hg
  obtain⟨its,rv,p,hz⟩:=I.list hq
  obtain⟨f0,f1,f2,f3,f4,f5⟩:=hf it (by simp)
  have hl:=rv.length
  exact wpAny_pyNext_list_end (I.ok.hd hc) st p.isList (by simp;omega) λh' eb=>⟨rfl,I.turned (t':=s.toks) (λb o hb e=>eb b o hb e) f0 f1 f3 f4 f5⟩
 self:=λ_ _ _ _ _ st h=>wpAny_pyIter_listiter st h
theorem qgq {P:yar} {w:World} {K:yan} {tg:Expr} (a it:Addr):qm7 P w K tg (Itt K a) [it] it (λi h=>h.IsTupleIter it a i) where
 mem:=by simp
 obj:=λi h st b hb=>by
  have e:b=it:=by simpa using hb
  subst e
  obtain⟨o,e,c,d⟩:=st
  exact⟨o,e,λv z=>by rw[d]at z;cases z⟩
 keep:=λi h h' st k=>st.at λo e=>k it (by simp) o e
 item:=by
  intro X hP hw hK hc i pins s σ H E I hf st hg
  subst hP hw hK
  obtain⟨xs,x,hq,hx⟩:=hg
  obtain⟨its,rv,p,hz⟩:=I.tuple hq
  obtain⟨u,hu,ru⟩:=rv.get hx
  obtain⟨f0,f1,f2,f3,f4,f5⟩:=hf it (by simp)
  refine wpAny_pyNext_tuple_item st (show s.heap.IsTuple a its.toArray from p) (x:=u) (by simpa using hu) λh' st' sb=>?_
  have I1:Inv X pins σ H {s with heap:=h' }:=I.turned (t':=s.toks) (λb o hb e=>(sb.2 b hb).trans e) f0 f1 f3 f4 f5
  obtain⟨o,e,c,d⟩:=id st'
  exact⟨u,rfl,qlc (s:={s with heap:=h' }) e c d (by decide) ⟨x,H,I1,ru,⟨rfl,λys hy=>by rw[I.tuple_inj hy hq];exact hx⟩,st',λb hb=>(hf b hb).1⟩⟩
 done:=by
  intro X hP hw hK hc i pins s σ H E I hf st hg
  subst hP hw hK
  obtain⟨xs,hq,hx⟩:=hg
  obtain⟨its,rv,p,hz⟩:=I.tuple hq
  obtain⟨f0,f1,f2,f3,f4,f5⟩:=hf it (by simp)
  have hl:=rv.length
  exact wpAny_pyNext_tuple_end (I.ok.hd hc) st (show s.heap.IsTuple a its.toArray from p) (by simp;omega) λh' eb=>⟨rfl,I.turned (t':=s.toks) (λb o hb e=>eb b o hb e) f0 f1 f3 f4 f5⟩
 self:=λ_ _ _ _ _ st h=>wpAny_pyIter_tupleiter st h
theorem qgr {P:yar} {w:World} {K:yan} {tg:Expr} (it:Addr) (lo:Int) (n:Nat):qm7 P w K tg (Itr lo n) [it] it (λi h=>IsRangeIter h it (lo+(i:Nat)*1) ((n:Int)-(i:Nat)) 1) where
 mem:=by simp
 obj:=λi h st b hb=>by
  have e:b=it:=by simpa using hb
  subst e
  exact ⟨_,st,λv z=>by
   have z':yfL _=Data.cell v:=z
   cases z'⟩
 keep:=λi h h' st k=>k it (by simp) _ st
 item:=by
  intro X hP hw hK hc i pins s σ H E I hf st hg
  subst hP hw hK
  obtain⟨f0,f1,f2,f3,f4,f5⟩:=hf it (by simp)
  have W:=Walks.range (prog:=X.prog) (w:=X.w) (I.ok.hd hc) it lo 1 n
  refine W.item i s _ _ hg st λv h' tk hv st' kk=>?_
  obtain⟨t,rfl⟩:=hv
  have I1:Inv X pins σ H {s with heap:=h',toks:=tk}:=I.turned (λb o hb e=>kk b o (by simpa using hb) e) f0 f1 f3 f4 f5
  refine⟨_,rfl,qlc (s:={s with heap:=h',toks:=tk}) (n:="range_iterator") st' rfl rfl (by decide) ⟨.int (lo+i),H,I1,⟨t,?_⟩,⟨rfl,rfl⟩,st',λb hb=>(hf b hb).1⟩⟩
  rw[Int.mul_one]
 done:=by
  intro X hP hw hK hc i pins s σ H E I hf st hg
  subst hP hw hK
  obtain⟨f0,f1,f2,f3,f4,f5⟩:=hf it (by simp)
  exact wpAny_pyNext_range_end (I.ok.hd hc) st (by have:n<=i:=hg;omega) λh' eb=>⟨rfl,I.turned (t':=s.toks) (λb o hb e=>eb b o hb e) f0 f1 f3 f4 f5⟩
 self:=λ_ _ _ _ _ st h=>wpAny_pyIter_rangeiter st h
end L2
namespace L2
open PySem PySem.Spec PyProof.Rows
section
variable{X:Cx}{tg:Expr}
theorem qi6 {pins:List (Addr×Obj)} {σ:St} {H:Hp} {s:yab} {R:It->Hp->Prop} {E:Value->yab->Prop} {lo hi:Int} {t u v:Tok} {tk:Nat} (I:Inv X pins σ H s) (h1 : -(2 ^ 62)<=lo) (h2:lo<2 ^ 62) (h3 : -(2 ^ 62)<=hi) (h4:hi<2 ^ 62)
  (q:R (Itr lo (hi-lo).toNat) H):wpAny (model X.prog X.w) X.A (pyIter (.ref s.heap.objs.size)) (PIE X pins σ tg R) E {s with heap:=s.heap.push {cls:=.type "range",data:=.fields #[.int lo t,.int hi u,.int 1 v]},toks:=tk}:=by
 refine wpAny_pyIter_range (IsRange.new ..) (small_one h1 h2 h3 h4) ?_
 have I1:Inv X pins σ H {s with heap:=s.heap.push {cls:=.type "range",data:=.fields #[.int lo t,.int hi u,.int 1 v]},toks:=tk}:=I.kept λb o e=>Heap.get?_push_of_some _ e
 refine ⟨(s.heap.push {cls:=.type "range",data:=.fields #[.int lo t,.int hi u,.int 1 v]}).objs.size,[(s.heap.push {cls:=.type "range",data:=.fields #[.int lo t,.int hi u,.int 1 v]}).objs.size],_,_,H,rfl,
  I1.kept (t':=tk) λb o e=>Heap.get?_push_of_some _ e,qgr _ lo (hi-lo).toNat,?_,λb hb=>?_,q⟩
 ·have e1:lo+((0:Nat):Int)*1=lo:=by simp
  have e2:(((hi-lo).toNat:Nat):Int)-((0:Nat):Int)=Builtin.Range.rangeSize lo hi 1:=by rw[rangeSize_one];split<;>omega
  show IsRangeIter _ _ (lo+((0:Nat):Int)*1) ((((hi-lo).toNat:Nat):Int)-((0:Nat):Int)) 1
  rw[e1,e2]
  exact Heap.get?_push_size _ rfl
 ·have e:b=(s.heap.push {cls:=.type "range",data:=.fields #[.int lo t,.int hi u,.int 1 v]}).objs.size:=by simpa using hb
  subst e
  exact I1.fpOk (yac _) (I1.hok.fresh (yac _))
def qo0(ta:TA):TI:=λσ H R=>ta σ H λvs H1=>∃j:Int,vs=[.int j] /\ -(2 ^ 62)<=j/\j<2 ^ 62/\R (Itr 0 j.toNat) H1
theorem qhf {a:Expr} {ta:TA} {p pos:Pos} (hg:Gl X "range") (hm:X.mg "range"=none) (ha:PA X [a] ta) (hs:yah [a] X.env=[(false,eval a X.env)]:=by rfl):PI X tg (.Call (.Name "range" p) [a] [] pos) (qo0 ta):=by
 intro pins s σ H R I h
 refine Call_ (qdV I hg hm boot_range (ycb (thn (ha pos pins s σ H _ I h) λus s1 ⟨vs,H1,I1,r1,q1⟩=>?_) hs rfl))
 obtain⟨j,e,q1,q2,q⟩:=q1
 subst e
 cases r1 with
 |cons r rr=>
  cases rr
  obtain⟨t,rfl⟩:=r
  exact call_range_1 (qi6 I1 (by omega) (by omega) q1 q2 (by simpa using q))
def qqK (wi:TI) (g:TG) (tb:TS):TS:=λD σ H=>wi σ H λJ H1=>∃W:Nat->Nat->St->Hp->Prop,(∃m,W 0 m σ H1)/\∀i m σ H,W i m σ H ->
 (J.stop i H/\D.nx σ H)\/(J.go i H/\∃N:St->Hp->Prop,(∀σ' H',N σ' H'->∃m',m'<m/\W (i+1) m' σ' H')/\∀x H',J.yld i H x H'->g x σ H' λσ2 H2=>tb {D with nx:=N,ct:=N,bk:=D.nx} σ2 H2)
def qcO(fp:List Addr)(h:Heap):List (Addr×Obj):=fp.filterMap λb=>(h.get? b).map λo=>(b,o)
theorem uH{fp:List Addr}{h:Heap}{b:Addr}{o:Obj}(hb:b∈fp)(e:h.get? b=some o):(b,o)∈qcO fp h:=List.mem_filterMap.mpr ⟨b,hb,by rw[e];rfl⟩
theorem qhg {fp:List Addr} {h:Heap} {p:Addr×Obj} (hp:p∈qcO fp h):p.1∈fp/\h.get? p.1=some p.2:=by
 obtain⟨b,hb,e⟩:=List.mem_filterMap.mp hp
 cases q:h.get? b with
 |none=>rw[q]at e;cases e
 |some o=>
  rw[q]at e
  have e':(b,o)=p:=yaM e
  subst e'
  exact⟨hb,q⟩
theorem Inv.pinned {pins:List (Addr×Obj)} {σ:St} {H:Hp} {s:yab} {fp:List Addr} (I:Inv X pins σ H s) (hf:∀b∈fp,qeN X pins H b) (ho:∀b∈fp,∃o,s.heap.get? b=some o/\∀v,o.data ≠ .cell v):Inv X (pins++qcO fp s.heap) σ H s :=
 I.pins_of λp hp=>(mA_.mp hp).elim (λz=>I.pin p (mr_ _ z)) λz=>by
  obtain⟨hb,e⟩:=qhg z
  obtain⟨f0,f1,f2,_⟩:=hf p.1 hb
  obtain⟨o,e',d⟩:=ho p.1 hb
  rw[e]at e';cases e'
  exact⟨e,f0,f1,f2,d⟩
theorem Inv.unpinned{pins pl:List (Addr×Obj)}{σ:St}{H:Hp}{s:yab}(I:Inv X (pins++pl) σ H s):Inv X pins σ H s:=I.pins_of λp hp=>I.pin p (mr_ _ (ycd _ hp))
theorem qm8 {iter:Expr} {body:List Stmt} {wi:TI} {g:TG} {tb:TS} {pos:Pos} (hp:ye6 (model X.prog X.w) X.A X.env X.xe) (hc:X.calm=true) (hi:PI X tg iter wi) (hg:PG X tg g) (hb:PSs X body tb)
  (hs:∀x,ybS iter X.env x=pure x:=by intro _;rfl):PS X (.For tg iter body [] pos) (qqK wi g tb):=by
 intro pins s σ H D I h
 refine wpAny_For (thn (hi pins s σ H _ I h) λv s1 h1=>thn h1 λitv s2 h2=>?_) hs
 obtain⟨it,fp,tn,J,H2,e,I2,T,st2,f2,W,⟨m0,w0⟩,turn⟩:=h2
 subst e
 have stat:∀{H':Hp},(∀b∈fp,H' b=none)->∀b∈fp,qeN X pins H' b:=λhn b hb=>⟨hn b hb,(f2 b hb).2⟩
 refine codeAny_forLoop_any (λn s'=>∃i σ' H',Inv X pins σ' H' s'/\tn i s'.heap/\(∀b∈fp,H' b=none)/\W i n σ' H') ?_ m0 ⟨0,σ,H2,I2,st2,λb hb=>(f2 b hb).1,w0⟩
 rintro n s3 ⟨i,σ3,H3,I3,st3,fr3,w3⟩
 rcases turn i n σ3 H3 w3 with⟨stop,qn⟩|⟨go,N,hN,step⟩
 ·refine ybO hp (thn (T.done X rfl rfl rfl hc i pins s3 σ3 H3 X.xe I3 (stat fr3) st3 stop) λr s4 ⟨hr,I4⟩=>?_)
  subst hr
  exact yct ⟨σ3,H3,I4,qn⟩
 ·refine ybO hp (thn (T.item X rfl rfl rfl hc i pins s3 σ3 H3 X.xe I3 (stat fr3) st3 go) λr s4 ⟨u,hr,h4⟩=>?_)
  subst hr
  refine ybO hp (thn h4 λ_ s5 ⟨x,H5,I5,r5,y5,st5,fr5⟩=>?_)
  have I5':=I5.pinned (stat fr5) (T.obj _ _ st5)
  refine ybO hp (thn (hg _ s5 σ3 H5 x u _ I5' r5 (step x H5 y5)) λ_ s6 ⟨σ6,H6,I6,q6⟩=>?_)
  refine ybO hp (thn (hb _ s6 σ6 H6 _ I6 q6) λf s7 q7=>?_)
  have again:∀{σ7:St}{H7:Hp},Inv X (pins++qcO fp s5.heap) σ7 H7 s7->N σ7 H7->∃m,m<n/\∃i σ' H',Inv X pins σ' H' s7/\tn i s7.heap/\(∀b∈fp,H' b=none)/\W i m σ' H':=λ{σ7 H7} I7 n7=>by
   obtain⟨m',hm,w7⟩:=hN σ7 H7 n7
   refine⟨m',hm,i+1,σ7,H7,I7.unpinned,T.keep _ _ _ st5 λb hb o e=>(I7.pin (b,o) (mr_ _ (mr_ _ (uH hb e)))).1,λb hb=>?_,w7⟩
   obtain⟨o,e,d⟩:=T.obj _ _ st5 b hb
   exact(I7.pin (b,o) (mr_ _ (mr_ _ (uH hb e)))).2.1
  cases f with
  |next=>obtain⟨σ7,H7,I7,n7⟩:=q7;exact again I7 n7
  |cont=>obtain⟨σ7,H7,I7,n7⟩:=q7;exact again I7 n7
  |brk=>obtain⟨σ7,H7,I7,q7⟩:=q7;exact⟨σ7,H7,I7.unpinned,q7⟩
  |ret v=>obtain⟨x7,σ7,H7,I7,r7,q7⟩:=q7;exact⟨x7,σ7,H7,I7.unpinned,r7,q7⟩
end
end L2
namespace L2
open PySem PySem.Spec PyProof.Rows
abbrev R2:=V->V->Hp->VK->Prop
def OpR (X:Cx) (f:Value->Value->Sem Value) (r:R2):Prop :=
 ∀ (pins:List (Addr×Obj)) (s:yab) (σ:St) (H:Hp) (x y:V) (v u:Value) (Q:VK),Inv X pins σ H s->yg x v->yg y u->r x y H Q ->
  wpAny (model X.prog X.w) X.A (f v u) (EP X pins σ Q) X.xe s
def UnR (X:Cx) (f:Value->Sem Value) (r:V->Hp->VK->Prop):Prop :=
 ∀ (pins:List (Addr×Obj)) (s:yab) (σ:St) (H:Hp) (x:V) (v:Value) (Q:VK),Inv X pins σ H s->yg x v->r x H Q ->
  wpAny (model X.prog X.w) X.A (f v) (EP X pins σ Q) X.xe s
def uC (X:Cx) (f:Value) (r:List V->Hp->VK->Prop):Prop :=
 ∀ (pins:List (Addr×Obj)) (s:yab) (σ:St) (H:Hp) (xs:List V) (us:List Value) (Q:VK),Inv X pins σ H s->zM xs us->r xs H Q ->
  wpAny (model X.prog X.w) X.A (call f us) (EP X pins σ Q) X.xe s
def tOp(r:R2)(ta tb:TE):TE:=λσ H Q=>ta σ H λx H1=>tb σ H1 λy H2=>r x y H2 Q
def tUn(r:V->Hp->VK->Prop)(ta:TE):TE:=λσ H Q=>ta σ H λx H1=>r x H1 Q
def rI(C:Int->Int->Prop)(g:Int->Int->V):R2:=λx y H Q=>∃i j,x=.int i/\y=.int j/\C i j/\Q (g i j) H
def rI0(g:Int->Int->V):R2:=λx y H Q=>∃i j,x=.int i/\y=.int j/\Q (g i j) H
def rU(g:Int->V):V->Hp->VK->Prop:=λx H Q=>∃i,x=.int i/\Q (g i) H
section
variable{X:Cx}{a b c:Expr}{ta tb tc:TE}{pos:Pos}
theorem qo1 (ha:PE X a ta) (hb:PE X b tb) {pins:List (Addr×Obj)} {s:yab} {σ:St} {H:Hp} {R:V->V->Hp->Prop} (I:Inv X pins σ H s)
  (h:ta σ H λx H1=>tb σ H1 λy H2=>R x y H2) {Q:Value->yab->Prop} {f:Value->Value->Sem Value}
  (hf:∀v u s2 x y H2,Inv X pins σ H2 s2->yg x v->yg y u->R x y H2->wpAny (model X.prog X.w) X.A (f v u) Q X.xe s2) :
  wpAny (model X.prog X.w) X.A (eval a X.env) (λv sQ=>wpAny (model X.prog X.w) X.A (eval b X.env) (λu sK=>wpAny (model X.prog X.w) X.A (f v u) Q X.xe sK) X.xe sQ) X.xe s:=by
 refine thn (ha pins s σ H _ I h) λv s1 ⟨x,H1,I1,r1,q1⟩=>?_
 refine thn (hb pins s1 σ H1 _ I1 q1) λu s2 ⟨y,H2,I2,r2,q2⟩=>?_
 exact hf v u s2 x y H2 I2 r1 r2 q2
theorem qo2 {op:Operator} {r:R2} (ho:OpR X (ybp op) r) (ha:PE X a ta) (hb:PE X b tb):PE X (.BinOp a op b pos) (tOp r ta tb):=by
 intro pins s σ H Q I h
 exact wpAny_BinOp (qo1 ha hb I h λv u s2 x y H2 I2 rx ry q=>ho pins s2 σ H2 x y v u Q I2 rx ry q)
theorem qo3 {op:UnaryOp} {r:V->Hp->VK->Prop} (ho:UnR X (unaryOp op) r) (ha:PE X a ta):PE X (.UnaryOp op a pos) (tUn r ta):=by
 intro pins s σ H Q I h
 exact UnaryOp_ (thn (ha pins s σ H _ I h) λv s1 ⟨x,H1,I1,r1,q1⟩=>ho pins s1 σ H1 x v Q I1 r1 q1)
theorem opI {f:Value->Value->Sem Value} {C:Int->Int->Prop} {g:Int->Int->Int}
  (rule:∀(i j:Int)(t u:Tok)(s:yab)(Q:Value->yab->Prop)(E:Value->yab->Prop),C i j->Q (.int (g i j) s.toks) {s with toks:=s.toks+1}->wpAny (model X.prog X.w) X.A (f (.int i t) (.int j u)) Q E s) :
  OpR X f (rI C λi j => .int (g i j)):=by
 intro pins s σ H x y v u Q I rx ry h
 obtain⟨i,j,rfl,rfl,hc,q⟩:=h
 obtain⟨t,rfl⟩:=rx
 obtain⟨t',rfl⟩:=ry
 exact rule i j t t' s _ _ hc ⟨.int (g i j),H,I.tok _,⟨_,rfl⟩,q⟩
theorem qpV {f:Value->Value->Sem Value} {g:Int->Int->Int}
  (rule:∀(i j:Int)(t u:Tok)(s:yab)(Q:Value->yab->Prop)(E:Value->yab->Prop),Q (.int (g i j) s.toks) {s with toks:=s.toks+1}->wpAny (model X.prog X.w) X.A (f (.int i t) (.int j u)) Q E s) :
  OpR X f (rI0 λi j => .int (g i j)):=by
 intro pins s σ H x y v u Q I rx ry h
 obtain⟨i,j,rfl,rfl,q⟩:=h
 obtain⟨t,rfl⟩:=rx
 obtain⟨t',rfl⟩:=ry
 exact rule i j t t' s _ _ ⟨.int (g i j),H,I.tok _,⟨_,rfl⟩,q⟩
theorem qoE {f:Value->Value->Sem Value} {g:Int->Int->Bool}
  (rule:∀(i j:Int)(t u:Tok)(s:yab)(Q:Value->yab->Prop)(E:Value->yab->Prop),Q (.bool (g i j)) s->wpAny (model X.prog X.w) X.A (f (.int i t) (.int j u)) Q E s) :
  OpR X f (rI0 λi j => .bl (g i j)):=by
 intro pins s σ H x y v u Q I rx ry h
 obtain⟨i,j,rfl,rfl,q⟩:=h
 obtain⟨t,rfl⟩:=rx
 obtain⟨t',rfl⟩:=ry
 exact rule i j t t' s _ _ ⟨.bl (g i j),H,I,rfl,q⟩
def qm9(i j:Int):Prop:=0<j/\j<1606938044258990275541962092341162602522202993782792835301376
theorem qpW {i j:Int} (h1:0<j) (h2:j<1606938044258990275541962092341162602522202993782792835301376):Builtin.divisionGoesByPylong i j=false:=by
 refine PyProof.noPylong_of_log2 ?_
 have h0:j.natAbs≠0:=by omega
 have h3:j.natAbs<2 ^ 200:=by
   have:(2:Nat) ^ 200=1606938044258990275541962092341162602522202993782792835301376:=by decide +kernel
   omega
 have:=(yfM h0).mpr h3
 omega
def qpX(i j:Int):Prop:=0<=j/\j<=1000000/\i.natAbs<2 ^ 64
def qna(i j:Int):Prop:=(-(2 ^ 64)<i/\i<2 ^ 64)\/(-(2 ^ 64)<j/\j<2 ^ 64)
theorem qna.ok {i j:Int} (h:qna i j):IntMulOk i j:=by
 rcases h with⟨h1,h2⟩|⟨h1,h2⟩
 ·exact .of_left (intBits_le_64 h1 h2)
 ·exact .of_right (intBits_le_64 h1 h2)
theorem qnb:OpR X (ybp .Add) (rI0 λi j => .int (i+j)):=qpV λ_ _ _ _ _ _ _ q=>add_int q
theorem qai:OpR X (ybp .Sub) (rI0 λi j => .int (i-j)):=qpV λ_ _ _ _ _ _ _ q=>sub_int q
theorem qnc:OpR X (ybp .Mult) (rI qna λi j => .int (i*j)):=opI λ_ _ _ _ _ _ _ hc q=>mul_int q hc.ok
theorem vj:OpR X (ybp .FloorDiv) (rI qm9 λi j => .int (i/j)):=opI λi j _ _ _ _ _ hc q=>by
 have h1:(0:Int)<j:=hc.1
 have h2:j<1606938044258990275541962092341162602522202993782792835301376:=hc.2
 exact floordiv_int (by omega) (by rw[ydC i (by omega)];exact q) (.inl (qpW h1 h2))
theorem qbX:OpR X (ybp .Mod) (rI (λ_ j=>0<j) λi j => .int (i%j)):=opI λi j _ _ _ _ _ hc q=>by
 have h1:(0:Int)<j:=hc
 exact mod_int' (by omega) (by rw[ydD i (by omega)];exact q)
theorem qnd:OpR X (ybp .Pow) (rI qpX λi j => .int (i ^ j.toNat)):=opI λ_ _ _ _ _ _ _ hc q=>pow_int_small hc.1 hc.2.1 hc.2.2 q
theorem unI {f:Value->Sem Value} {g:Int->Int}
  (rule:∀(i:Int)(t:Tok)(s:yab)(Q:Value->yab->Prop)(E:Value->yab->Prop),Q (.int (g i) s.toks) {s with toks:=s.toks+1}->wpAny (model X.prog X.w) X.A (f (.int i t)) Q E s) :
  UnR X f (rU λi => .int (g i)):=by
 intro pins s σ H x v Q I rx h
 obtain⟨i,rfl,q⟩:=h
 obtain⟨t,rfl⟩:=rx
 exact rule i t s _ _ ⟨.int (g i),H,I.tok _,⟨_,rfl⟩,q⟩
theorem qne:UnR X (unaryOp .USub) (rU λi => .int (-i)):=unI λ_ _ _ _ _ q=>neg_int q
end
def scal:V->V->Bool
 |.non,.non=>true|.non,.int _=>true|.int _,.non=>true|.non,.bl _=>true|.bl _,.non=>true|.non,.str _=>true|.str _,.non=>true
 |.int _,.int _=>true|.bl _,.bl _=>true|.str _,.str _=>true|.byt _,.byt _=>true
 |.int _,.str _=>true|.str _,.int _=>true|.bl _,.str _=>true|.str _,.bl _=>true
 |_,_=>false
def rEq:R2:=λx y H Q=>scal x y=true/\Q (.bl (decide (x=y))) H
def rNe:R2:=λx y H Q=>scal x y=true/\Q (.bl (!decide (x=y))) H
theorem qhh {i j:Int}:decide (V.int i=V.int j)=(i==j):=by
 rw[ybg]
 simp
theorem qke {i j:Bool}:decide (V.bl i=V.bl j)=(i==j):=by
 rw[ybg]
 simp
theorem qhi {i j:Str}:decide (V.str i=V.str j)=(i==j):=by
 rw[ybg]
 simp
theorem qhj {i j:Array UInt8}:decide (V.byt i=V.byt j)=(i.toList==j.toList):=by
 rw[ybg]
 cases i
 cases j
 simp
section
variable{X:Cx}{a b c:Expr}{ta tb tc:TE}{pos:Pos}
theorem zR {pins:List (Addr×Obj)} {σ:St} {H:Hp} {s:yab} {Q:VK} {k k':Bool} (I:Inv X pins σ H s) (q:Q (.bl k) H) (e:k=k'):EP X pins σ Q (.bool k') s:=by
 subst e
 exact⟨.bl k,H,I,rfl,q⟩
theorem qo4:OpR X (yaL .Eq) rEq:=by
 intro pins s σ H x y v u Q I rx ry h
 obtain⟨hs,q⟩:=h
 cases x with
 |non=>
  cases rx
  cases y with
  |non=>cases ry;exact PySem.EqNone.eq_none_none (zR I q (by simp))
  |bl j=>cases ry;exact PySem.EqNone.eq_none_bool (zR I q (by simp))
  |int j=>obtain⟨t',rfl⟩:=ry;exact PySem.EqNone.eq_none_int (zR I q (by simp))
  |str j=>obtain⟨t',rfl⟩:=ry;exact PySem.EqNone.eq_none_str (zR I q (by simp))
  |_=>exact absurd (show false=true from hs) yap
 |bl i=>
  cases rx
  cases y with
  |non=>cases ry;exact PySem.EqNone.eq_bool_none (zR I q (by simp))
  |bl j=>cases ry;exact eq_bool (zR I q qke)
  |str j=>obtain⟨t',rfl⟩:=ry;exact PySem.EqMixed.eq_bool_str (zR I q (by simp))
  |_=>exact absurd (show false=true from hs) yap
 |int i=>
  obtain⟨t,rfl⟩:=rx
  cases y with
  |non=>cases ry;exact PySem.EqNone.eq_int_none (zR I q (by simp))
  |int j=>obtain⟨t',rfl⟩:=ry;exact eq_int (zR I q qhh)
  |str j=>obtain⟨t',rfl⟩:=ry;exact PySem.EqMixed.eq_int_str (zR I q (by simp))
  |_=>exact absurd (show false=true from hs) yap
 |str i=>
  obtain⟨t,rfl⟩:=rx
  cases y with
  |non=>cases ry;exact PySem.EqNone.eq_str_none (zR I q (by simp))
  |bl j=>cases ry;exact PySem.EqMixed.eq_str_bool (zR I q (by simp))
  |int j=>obtain⟨t',rfl⟩:=ry;exact PySem.EqMixed.eq_str_int (zR I q (by simp))
  |str j=>obtain⟨t',rfl⟩:=ry;exact eq_str (zR I q qhi)
  |_=>exact absurd (show false=true from hs) yap
 |byt i=>
  obtain⟨t,rfl⟩:=rx
  cases y with
  |byt j=>obtain⟨t',rfl⟩:=ry;exact PySem.W.eq_bytes (zR I q qhj)
  |_=>exact absurd (show false=true from hs) yap
 |_=>cases y<;>exact absurd (show false=true from hs) yap
theorem qnf:OpR X (yaL .NotEq) rNe:=by
 intro pins s σ H x y v u Q I rx ry h
 obtain⟨hs,q⟩:=h
 cases x with
 |non=>
  cases rx
  cases y with
  |non=>cases ry;exact PySem.EqNone.ne_none_none (zR I q (by simp))
  |bl j=>cases ry;exact PySem.EqNone.ne_none_bool (zR I q (by simp))
  |int j=>obtain⟨t',rfl⟩:=ry;exact PySem.EqNone.ne_none_int (zR I q (by simp))
  |str j=>obtain⟨t',rfl⟩:=ry;exact PySem.EqNone.ne_none_str (zR I q (by simp))
  |_=>exact absurd (show false=true from hs) yap
 |bl i=>
  cases rx
  cases y with
  |non=>cases ry;exact PySem.EqNone.ne_bool_none (zR I q (by simp))
  |bl j=>cases ry;exact ne_bool (zR I q (congrArg not qke))
  |str j=>obtain⟨t',rfl⟩:=ry;exact PySem.EqMixed.ne_bool_str (zR I q (by simp))
  |_=>exact absurd (show false=true from hs) yap
 |int i=>
  obtain⟨t,rfl⟩:=rx
  cases y with
  |non=>cases ry;exact PySem.EqNone.ne_int_none (zR I q (by simp))
  |int j=>obtain⟨t',rfl⟩:=ry;exact ne_int (zR I q (congrArg not qhh))
  |str j=>obtain⟨t',rfl⟩:=ry;exact PySem.EqMixed.ne_int_str (zR I q (by simp))
  |_=>exact absurd (show false=true from hs) yap
 |str i=>
  obtain⟨t,rfl⟩:=rx
  cases y with
  |non=>cases ry;exact PySem.EqNone.ne_str_none (zR I q (by simp))
  |bl j=>cases ry;exact PySem.EqMixed.ne_str_bool (zR I q (by simp))
  |int j=>obtain⟨t',rfl⟩:=ry;exact PySem.EqMixed.ne_str_int (zR I q (by simp))
  |str j=>obtain⟨t',rfl⟩:=ry;exact ne_str (zR I q (congrArg not qhi))
  |_=>exact absurd (show false=true from hs) yap
 |byt i=>
  obtain⟨t,rfl⟩:=rx
  cases y with
  |byt j=>obtain⟨t',rfl⟩:=ry;exact PySem.W.ne_bytes (zR I q (congrArg not qhj))
  |_=>exact absurd (show false=true from hs) yap
 |_=>cases y<;>exact absurd (show false=true from hs) yap
theorem qhk:OpR X (yaL .Lt) (rI0 λi j => .bl (decide (i<j))):=qoE λ_ _ _ _ _ _ _ q=>lt_int q
theorem qo5:OpR X (yaL .LtE) (rI0 λi j => .bl (decide (i<=j))):=qoE λ_ _ _ _ _ _ _ q=>le_int q
theorem qeQ:OpR X (yaL .Gt) (rI0 λi j => .bl (decide (j<i))):=qoE λ_ _ _ _ _ _ _ q=>gt_int q
theorem qld:OpR X (yaL .GtE) (rI0 λi j => .bl (decide (j<=i))):=qoE λ_ _ _ _ _ _ _ q=>ge_int q
theorem qcP:OpR X (yaL .Is) (λx y H Q=>y=.non/\Q (.bl (decide (x=.non))) H):=by
 intro pins s σ H x y v u Q I rx ry h
 obtain⟨rfl,q⟩:=h
 cases ry
 refine is_none_gen (zR I q ?_)
 cases x<;>first
  |(cases rx;rfl)
  |(obtain⟨t,rfl⟩:=rx;rfl)
theorem qeR:OpR X (yaL .IsNot) (λx y H Q=>y=.non/\Q (.bl (!decide (x=.non))) H):=by
 intro pins s σ H x y v u Q I rx ry h
 obtain⟨rfl,q⟩:=h
 cases ry
 refine isnot_none_gen (zR I q ?_)
 cases x<;>first
  |(cases rx;rfl)
  |(obtain⟨t,rfl⟩:=rx;rfl)
theorem OpR.or {f:Value->Value->Sem Value} {r r':R2} (h:OpR X f r) (h':OpR X f r'):OpR X f (λx y H Q=>r x y H Q\/r' x y H Q):=by
 intro pins s σ H x y v u Q I rx ry q
 rcases q with q|q
 ·exact h pins s σ H x y v u Q I rx ry q
 ·exact h' pins s σ H x y v u Q I rx ry q
theorem qI (b:Expr) {op:CmpOp} (h:op ≠ .In:=by decide) (h2:op ≠ .NotIn:=by decide):ybD op b=false:=by
 have e1:(op==CmpOp.In)=false:=by cases op<;>first|rfl|exact absurd rfl h
 have e2:(op==CmpOp.NotIn)=false:=by cases op<;>first|rfl|exact absurd rfl h2
 cases b<;>simp[ybD,e1,e2]
theorem qle {op:CmpOp} {r:R2} (ho:OpR X (yaL op) r) (ha:PE X a ta) (hb:PE X b tb) (hm:ybD op b=false):PE X (.Compare a [op] [b] pos) (tOp r ta tb):=by
 intro pins s σ H Q I h
 exact wpAny_Compare1 (qo1 ha hb I h λv u s2 x y H2 I2 rx ry q=>ho pins s2 σ H2 x y v u Q I2 rx ry q) hm
def qng(t:TE):TT:=λσ H Q=>t σ H λx H'=>∃k,x=.bl k/\Q k H'
theorem qhl {op:CmpOp} {r:R2} (ho:OpR X (yaL op) r) (ha:PE X a ta) (hb:PE X b tb) (hm:ybD op b=false):PT X (.Compare a [op] [b] pos) (qng (tOp r ta tb)):=by
 intro pins s σ H Q I h
 refine yep (thn (ha pins s σ H _ I h) λv s1 ⟨x,H1,I1,r1,q1⟩=>thn (hb pins s1 σ H1 _ I1 q1) λu s2 ⟨y,H2,I2,r2,q2⟩=>
  thn (ho pins s2 σ H2 x y v u _ I2 r1 r2 q2) λc s3 ⟨z,H3,I3,r3,k,e,q3⟩=>?_) hm
 subst e
 cases r3
 exact ybc ⟨H3,I3,q3⟩
def qkf (r r':R2) (ta tb tc:TE):TE:=λσ H Q=>ta σ H λx H1=>tb σ H1 λy H2=>r x y H2 λz H3=>∃k,z=.bl k /\
 (if k=true then tc σ H3 λw' H4=>r' y w' H4 Q else Q (.bl false) H3)
theorem qi7 {op op':CmpOp} {r r':R2} (ho:OpR X (yaL op) r) (ho':OpR X (yaL op') r') (ha:PE X a ta) (hb:PE X b tb) (hc:PE X c tc)
  (hm:lastMarks [op,op'] [b,c]=false:=by with_unfolding_all rfl):PT X (.Compare a [op,op'] [b,c] pos) (qng (qkf r r' ta tb tc)):=by
 intro pins s σ H Q I h
 refine isTrue_chain (thn (ha pins s σ H _ I h) λv s1 ⟨x,H1,I1,r1,q1⟩=>test_link (thn (hb pins s1 σ H1 _ I1 q1) λu s2 ⟨y,H2,I2,r2,q2⟩=>
  thn (ho pins s2 σ H2 x y v u _ I2 r1 r2 q2) λd s3 ⟨z,H3,I3,r3,k,e,q3⟩=>?_)) hm
 subst e
 cases r3
 refine ybc ?_
 cases k with
 |false=>
  obtain⟨k',e',q'⟩:=q3
  cases e'
  exact ite_ff ⟨H3,I3,q'⟩
 |true=>
  refine ite_tt (test_last (thn (hc pins s3 σ H3 _ I3 q3) λw' s4 ⟨z',H4,I4,r4,q4⟩=>thn (ho' pins s4 σ H4 y z' u w' _ I4 r2 r4 q4) λd' s5 ⟨z2,H5,I5,r5,k2,e2,q5⟩=>?_))
  subst e2
  cases r5
  exact ybc ⟨H5,I5,q5⟩
theorem qdW:(yaq:Nat)<2 ^ 63:=by rw[ybH];decide
theorem qgs:OpR X (ybp .Add) (λx y H Q=>∃i j,x=.str i/\y=.str j/\i.length+j.length<=yaq/\Q (.str (i++j)) H):=by
 intro pins s σ H x y v u Q I rx ry h
 obtain⟨i,j,rfl,rfl,hz,q⟩:=h
 obtain⟨t,rfl⟩:=rx
 obtain⟨t',rfl⟩:=ry
 exact add_str (λt' tk=>⟨.str (i++j),H,I.tok _,⟨_,rfl⟩,q⟩) hz
theorem qhm {x:V} {us:List Value} (r:zM [x] us):∃u,us=[u]/\yg x u:=by
 cases r with
 |cons r1 r2=>cases r2;exact⟨_,rfl,r1⟩
theorem qlf {x y:V} {us:List Value} (r:zM [x,y] us):∃u w',us=[u,w']/\yg x u/\yg y w':=by
 cases r with
 |cons r1 r2=>
  cases r2 with
  |cons r3 r4=>cases r4;exact⟨_,_,rfl,r1,r3⟩
theorem qi8:uC X (.builtin "abs") (λxs H Q=>∃i,xs=[.int i]/\Q (.int (if i<0 then -i else i)) H):=by
 intro pins s σ H xs us Q I r h
 obtain⟨i,rfl,q⟩:=h
 obtain⟨u,rfl,t,rfl⟩:=qhm r
 exact call_abs_int λu tk=>⟨.int (if i<0 then -i else i),H,I.tok _,⟨_,rfl⟩,q⟩
theorem qhn (hc:X.calm=true):uC X (.builtin "max") (λxs H Q=>∃i j,xs=[.int i,.int j]/\Q (.int (if j>i then j else i)) H):=by
 intro pins s σ H xs us Q I r h
 obtain⟨i,j,rfl,q⟩:=h
 obtain⟨u,w',rfl,⟨t,rfl⟩,⟨t',rfl⟩⟩:=qlf r
 refine max_two_ints (I.ok.hd hc) λh' tk k=>⟨_,H,I.kept k,?_,q⟩
 by_cases hj:j>i
 ·rw[if_pos hj,if_pos hj];exact⟨_,rfl⟩
 ·rw[if_neg hj,if_neg hj];exact⟨_,rfl⟩
theorem qaG (hc:X.calm=true):uC X (.builtin "min") (λxs H Q=>∃i j,xs=[.int i,.int j]/\Q (.int (if j<i then j else i)) H):=by
 intro pins s σ H xs us Q I r h
 obtain⟨i,j,rfl,q⟩:=h
 obtain⟨u,w',rfl,⟨t,rfl⟩,⟨t',rfl⟩⟩:=qlf r
 refine min_two_ints (I.ok.hd hc) λh' tk k=>⟨_,H,I.kept k,?_,q⟩
 by_cases hj:j<i
 ·rw[if_pos hj,if_pos hj];exact⟨_,rfl⟩
 ·rw[if_neg hj,if_neg hj];exact⟨_,rfl⟩
theorem qeS:uC X (.builtin "divmod") (λxs H Q=>∃i j,xs=[.int i,.int j]/\qm9 i j/\∀p,H p=none->Q (.ref p) (upd H p (.tup [.int (i/j),.int (i%j)]))):=by
 intro pins s σ H xs us Q I r h
 obtain⟨i,j,rfl,⟨h1,h2⟩,q⟩:=h
 obtain⟨u,w',rfl,⟨t,rfl⟩,⟨t',rfl⟩⟩:=qlf r
 refine divmod_int (by omega) ?_ (.inl (qpW h1 h2))
 rw[ydC i (by omega),ydD i (by omega)]
 have hn:H s.heap.objs.size=none:=I.hok.fresh (yac _)
 refine⟨.ref s.heap.objs.size,_,?_,rfl,q _ hn⟩
 refine I.laid (λb o e=>Heap.get?_push_of_some _ e) (yac _) ⟨by simp only[lC_,lN_];rw[ybH];decide,[.int (i/j) s.toks,.int (i%j) (s.toks+1)],.cons ⟨_,rfl⟩ (.cons ⟨_,rfl⟩ .nil),?_⟩
 exact⟨_,Heap.get?_push_size s.heap rfl,rfl,0,rfl⟩
end
end L2
namespace L2
open PySem PySem.Spec PyProof.Rows
structure qo6 (h:Heap) (x dx C:Addr) (mA:Str->Option Value):Prop where
 obj:h.get? x=some (yeb C dx)
 ns:h.Ns1 dx mA
 ne:dx≠x
theorem qho {h:Heap} {dx:Addr} {mA:Str->Option Value} (n:h.Ns1 dx mA):∃od,h.get? dx=some od/\∀name,yeq name od=some (mA name):=by
 obtain⟨o,es,ep,ho,hd,hk,_,hm⟩:=n
 refine⟨o,ho,λname=>?_⟩
 have e:=hm name
 unfold nsFind findBy at e
 rw[<-Array.find?_toList]at e
 unfold yeq
 rw[hd]
 dsimp only
 split
 ·rename_i y q
  rw[q]at e
  exact congrArg some e
 ·rename_i q
  rw[q]at e
  have a:es.toList.any (·.refKey)=false:=by
   rw[List.any_eq_false]
   intro y hy
   obtain⟨z,t,hkey⟩:=hk y (Array.mem_toList_iff.mp hy)
   simp[DictEntry.refKey,hkey]
  have a':¬es.toList.any (·.refKey)=true:=by rw[a];exact yap
  rw[if_neg a']
  exact congrArg some e
theorem qo6.look {h:Heap} {x dx C:Addr} {mA:Str->Option Value} (I:qo6 h x dx C mA):∃od,PySem.W.InstAt h x (yeb C dx) C (some od)/\∀name,yeq name od=some (mA name) :=
 let ⟨od,ho,hl⟩:=qho I.ns
 ⟨od,⟨I.obj,rfl,rfl,ho⟩,hl⟩
def qqL (f:Str) (v:V):List (Str×V)->List (Str×V)
 | []=>[(f,v)]
 |(g,x)::r=>if g=f then(g,v)::r else(g,x)::qqL f v r
section
variable{P:yar}{w:World}{H H':Hp}{h h':Heap}{a C dx:Addr}{fs fs':List (Str×V)}
theorem qlg (hok:HOk P w H h) (e:H a=some (.ins C dx fs)):∃mA,qo6 h a dx C mA/\(∀f,qmR (fs.lookup f) (mA f))/\PySem.Within mA (fs.map (·.1))/\fs.length<=1000/\H dx=some (.own a):=by
 obtain⟨d,z,ne,ob,mA,n,r,q⟩:=(show uB P w H h a (.ins C dx fs)from hok a _ e)
 exact⟨mA,⟨ob,n,ne⟩,r,q,z,d⟩
end
structure Cls (K:yan) (C:Addr):Prop where
 pg:PySem.W.plainGet K C Str.empty=true
 hd:PySem.W.hasDictIn K C=true
 po:PySem.W.plainOver K C=true
 sa:ybE K (.ref C) "__setattr__"=some (some (.builtin "object.__setattr__"))
theorem Cls.get{K:yan}{C:Addr}(c:Cls K C)(f:Str):PySem.W.plainGet K C f=true:=c.pg
structure Con (K:yan) (C:Addr) (f:Str) (v:V) (u:Value):Prop where
 at_:ybE K (.ref C) f=some (some u)
 rel:yg v u
 get:yfx K u "__get__"=some none
 cp:PySem.W.copiedNames.contains f=false
structure qrk (K:yan) (C:Addr) (m:Str) (f:Addr):Prop where
 at_:ybE K (.ref C) m=some (some (.ref f))
 fn:PySem.W.isFn K (.ref f)=true
 kp:yae K (.ref f)=true
section
variable{X:Cx}{pins:List (Addr×Obj)}{σ:St}{H:Hp}{s:yab}{A:yas}{E:Value->yab->Prop}{Q:Value->yab->Prop}{c:Value}{b:Bool}
inductive qg5 (K:yan) (H:Hp):V->Value->Prop where
 |non:qg5 K H .non (.type "NoneType")
 |bl (x:Bool):qg5 K H (.bl x) (.type "bool")
 |int (i:Int):qg5 K H (.int i) (.type "int")
 |str (x:Str):qg5 K H (.str x) (.type "str")
 |flt (x:UInt64):qg5 K H (.flt x) (.type "float")
 |lst {a:Addr} {xs:List V} (e:H a=some (.lst xs)):qg5 K H (.ref a) (.type "list")
 |frz {a:Addr} {o:Obj} {xs:List V} (e:H a=some (.frz o (.lst xs))):qg5 K H (.ref a) (.type "list")
 |tup {a:Addr} {xs:List V} (e:H a=some (.tup xs)):qg5 K H (.ref a) (.type "tuple")
 |dK {a:Addr} {kvs:List (Key×V)} (e:H a=some (.dK kvs)):qg5 K H (.ref a) (.type "dict")
 |dT {a:Addr} {kvs:List (List Key×V)} (e:H a=some (.dT kvs)):qg5 K H (.ref a) (.type "dict")
 | ins {a C dx:Addr} {fs:List (Str×V)} (e:H a=some (.ins C dx fs)) (cl:Cls K C) (ha:ybE K (.ref C) "__class__"=some (some (.builtin "object.__class__")))
   (hn:yfx K (.builtin "object.__class__") "__get__"=some (some (.builtin "getset_descriptor.__get__"))) (htk:PySem.W.takesIn K (.builtin "object.__class__")=some true)
   (hm:PySem.W.mroIn K C (.type "object")=some true):qg5 K H (.ref a) (.ref C)
theorem vz {x:V} {u t:Value} (I:Inv X pins σ H s) (rx:yg x u) (ty:qg5 X.K H x t) (e:yer X.K t c=some b) (h:∀tk,Q (.bool b) {s with toks:=tk}) :
  wpAny (model X.prog X.w) A (call (.builtin "isinstance") [u,c]) Q E s:=by
 cases ty with
 |non=>cases (show u=yaA from rx);exact yaY PySem.W.kitx_none I.kIn yb4 e (λz=>nomatch z) h
 |bl y=>cases (show u=yaQ y from rx);exact yaY PySem.W.kitx_bool I.kIn yb4 e (λz=>nomatch z) h
 |int i=>obtain⟨t,q⟩:=(show ∃t,u=ybB i t from rx);cases q;exact yaY PySem.W.kitx_int I.kIn yb4 e (λz=>nomatch z) h
 |str y=>obtain⟨t,q⟩:=(show ∃t,u=Value.str y t from rx);cases q;exact yaY PySem.W.kitx_str I.kIn yb4 e (λz=>nomatch z) h
 |flt y=>obtain⟨t,q⟩:=(show ∃t,u=Value.float y t from rx);cases q;exact yaY PySem.W.kitx_float I.kIn yb4 e (λz=>nomatch z) h
 | @lst a xs ea=>
  cases (show u=yaj a from rx)
  obtain⟨_,_,n,_,h1⟩:=(show uB X.prog X.w H s.heap a (.lst xs)from I.hok a _ ea)
  exact yaY ydI I.kIn ⟨_,h1,rfl⟩ e (λz=>nomatch z) h
 | @frz a ob xs ea=>
  cases (show u=yaj a from rx)
  obtain⟨_,_,_,n,_,h1⟩:=(show uB X.prog X.w H s.heap a (.frz ob (.lst xs))from I.hok a _ ea)
  exact yaY ydI I.kIn ⟨_,h1,rfl⟩ e (λz=>nomatch z) h
 | @tup a xs ea=>
  cases (show u=yaj a from rx)
  obtain⟨_,_,_,p⟩:=(show uB X.prog X.w H s.heap a (.tup xs)from I.hok a _ ea)
  obtain⟨o,h1,h2,_⟩:=p
  exact yaY ye7 I.kIn ⟨o,h1,h2⟩ e (λz=>nomatch z) h
 | @dK a kvs ea=>
  cases (show u=yaj a from rx)
  obtain⟨_,_,vs,_,p⟩:=(show uB X.prog X.w H s.heap a (.dK kvs)from I.hok a _ ea)
  obtain⟨o,es,ep,h1,h2,_⟩:=p
  exact yaY yfy I.kIn ⟨o,h1,h2.1⟩ e (λz=>nomatch z) h
 | @dT a kvs ea=>
  cases (show u=yaj a from rx)
  obtain⟨_,_,xs,_,o,es,ep,h1,h2,_⟩:=(show uB X.prog X.w H s.heap a (.dT kvs)from I.hok a _ ea)
  exact yaY yfy I.kIn ⟨o,h1,h2.1⟩ e (λz=>nomatch z) h
 | @ins a C dx fs ea cl ha hn htk hm=>
  cases (show u=yaj a from rx)
  obtain⟨mA,O,_⟩:=qlg I.hok ea
  obtain⟨od,J,_⟩:=O.look
  exact yaY (PySem.W.kitx_own (cl.get _) cl.hd ha hn htk hm) I.kIn J e (λz=>nomatch z) h
end
end L2
namespace L2
open PySem PySem.Spec PyProof.Rows
structure vy (k:Nat) (A:yas):Prop where
 hd:A.handled=none
 dp:A.depth+3*k+5<ydk
 un:A.units+16*k+200<cLine
 gd:A.guards=some []
theorem vy.mono{j k:Nat}{A:yas}(r:vy k A)(h:j<=k):vy j A:=⟨r.hd,by have:=r.dp;omega,by have:=r.un;omega,r.gd⟩
theorem vy.deeper {k:Nat} {A:yas} (r:vy (k+1) A) (env:Env):vy k (A.deeper env) :=
 ⟨r.hd,by have:=r.dp;show A.depth+1+3*k+5<_;omega,by have:=r.un;show A.units+3+16*k+200<_;omega,r.gd⟩
theorem vy.depth{k:Nat}{A:yas}(r:vy k A):A.depth<ydk:=by have:=r.dp;omega
theorem vy.units{k:Nat}{A:yas}(r:vy k A):A.units+64<cLine:=by have:=r.un;omega
def qpY:TA:=λ_ H Q=>Q [] H
def qlh(ta:TE)(tr:TA):TA:=λσ H Q=>ta σ H λx H1=>tr σ H1 λxs H2=>Q (x::xs) H2
section
variable{X:Cx}{e:Expr}{es:List Expr}{te:TE}{t:TA}{pos:Pos}
theorem qby:PA X [] qpY:=λ_ _ _ _ H Q I h=>Calls.spliced_nil ⟨[],H,I,.nil,h⟩
theorem uu (ha:PE X e te) (hr:PA X es t) (hs:yah (e::es) X.env=(false,eval e X.env)::yah es X.env:=by rfl):PA X (e::es) (qlh te t):=by
 intro pos pins s σ H Q I h
 rw[hs]
 show wpAny _ _ (spliced ((false,eval e X.env)::yaR pos (yah es X.env))) _ _ s
 refine Calls.spliced_cons (thn (ha pins s σ H _ I h) λu s1 ⟨x,H1,I1,r1,q1⟩=>?_)
 exact thn (hr pos pins s1 σ H1 _ I1 q1) λus s2 ⟨xs,H2,I2,r2,q2⟩=>⟨x::xs,H2,I2,.cons r1 r2,q2⟩
def qqM(t:TA):TE:=λσ H Q=>t σ H λxs H1=>xs.length<=yaq/\∀p,H1 p=none->Q (.ref p) (upd H1 p (.tup xs))
def qqN(t:TA):TE:=λσ H Q=>t σ H λxs H1=>xs.length<=yaq/\∀p,H1 p=none->Q (.ref p) (upd H1 p (.lst xs))
theorem qnh {x1} (h:PA X es t):PE X (.Tuple es x1 pos) (qqM t):=by
 intro pins s σ H Q I hq
 refine wpAny_Tuple_spliced (thn (h pos pins s σ H _ I hq) λus s1 ⟨xs,H1,I1,r,z,q⟩=>⟨by rw[<-r.length];exact z,?_⟩)
 have hf:H1 s1.heap.objs.size=none:=I1.hok.fresh (yac _)
 refine⟨.ref s1.heap.objs.size,upd H1 s1.heap.objs.size (.tup xs),I1.laid (t':=s1.toks) (λb u e=>Heap.get?_push_of_some _ e) (yac _) ?_,rfl,q _ hf⟩
 exact⟨z,us,r,⟨_,Heap.get?_push_size _ rfl,rfl,_,rfl⟩⟩
theorem qkg (h:PA X es t):PE X (.List es pos) (qqN t):=by
 intro pins s σ H Q I hq
 refine wpAny_List_spliced (thn (h pos pins s σ H _ I hq) λus s1 ⟨xs,H1,I1,r,z,q⟩=>⟨by rw[<-r.length];exact z,?_⟩)
 have hf:H1 s1.heap.objs.size=none:=I1.hok.fresh (yac _)
 refine⟨.ref s1.heap.objs.size,upd H1 s1.heap.objs.size (.lst xs),I1.laid (t':=s1.toks) (λb u e=>Heap.get?_push_of_some _ e) (yac _) ?_,rfl,q _ hf⟩
 exact⟨z,us,0,r,Heap.get?_push_size _ rfl⟩
end
abbrev Sp:=List V->Hp->VK->XK->Prop
abbrev CXT:=List Env->Hp->yab->XK->Value->yab->Prop
structure qmH (P:yar) (w:World) (K:yan) (mg:Str->Option Value) (base:Heap) (A:yas) (outer:List Env) (s:yab) (H:Hp):Prop where
 frames:A.frames=some outer
 mod:Mod K mg base
 bs:∀b o,base.get? b=some o->s.heap.get? b=some o/\H b=none
 bsz:base.objs.size<=s.heap.objs.size
 funs:s.heap.FunFrames base outer
 frf:∀b∈frs outer,H b=none
 hok:HOk P w H s.heap
 bare:ycl s.gens
def CE (outer:List Env) (P:yar) (w:World) (H:Hp) (s:yab) (Q:VK) (u:Value) (s':yab):Prop :=
 ∃v H',s'.os=s.os/\ycl s'.gens/\Un (frs outer) [] H H' s.heap s'.heap/\HOk P w H' s'.heap/\yg v u/\Q v H'
def CR (CX:CXT) (outer:List Env) (P:yar) (w:World) (H:Hp) (s:yab) (Q:VK) (E:XK) (r:ydT) (s':yab):Prop :=
 match r with
 |.ok (.ret u)=>CE outer P w H s Q u s'
 |.ok _=>False
 |.error e=>CX outer H s E e s'
structure vV (P:yar) (w:World) (K:yan) (mg:Str->Option Value) (base:Heap) (CX:CXT) (k:Nat) (f:Addr) (fd:yaP) (ps:List Str) (sp:Sp):Prop where
 len:∀vs H Q E,sp vs H Q E->vs.length=ps.length
 run:∀(A:yas)(outer:List Env)(s:yab)(H:Hp)(args:Args)(us:List Value)(vs:List V)(Q:VK)(E:XK),vy k A->qmH P w K mg base A outer s H->ydQ s fd args (ps.zip us)->zM vs us->sp vs H Q E ->
  ybW (model P w) A (.call (.ref f) args) (CR CX outer P w H s Q E) s
theorem vV.mono {P:yar} {w:World} {K:yan} {mg:Str->Option Value} {base:Heap} {CX:CXT} {j k:Nat} {f:Addr} {fd:yaP} {ps:List Str} {sp:Sp} (F:vV P w K mg base CX j f fd ps sp) (h:j<=k) :
  vV P w K mg base CX k f fd ps sp:=⟨F.len,λA outer s H args us vs Q E hr=>F.run A outer s H args us vs Q E (hr.mono h)⟩
section
variable{X:Cx}{pins:List (Addr×Obj)}{σ:St}{H:Hp}{s s':yab}
theorem Inv.env0 (I:Inv X pins σ H s):qmH X.prog X.w X.K X.mg X.base X.A X.stack s H :=
 ⟨I.ok.frames,I.ok.mod,I.bs,yau I.ok.bsz I.sz,I.stack,I.stkFree,I.hok,I.bare⟩
theorem Inv.after {Q:VK} {u:Value} (I:Inv X pins σ H s) (h:CE X.stack X.prog X.w H s Q u s'):EP X pins σ Q u s':=by
 obtain⟨v,H',os,bare,un,hok,r,q⟩:=h
 obtain⟨hh,g,d,t,os'⟩:=s'
 obtain rfl:os'=s.os:=os
 exact⟨v,H',I.call (h':=hh) (g':=g) (d':=d) (t':=t) (ch:=[]) un hok bare (λb z=>absurd z (by simp)),r,q⟩
end
def qo7(sp:Sp)(dvs:List V)(E:XK)(t:TA):TE:=λσ H Q=>t σ H λvs H1=>sp (vs++dvs) H1 Q E
def wE (K:yan) (fd:yaP) (ps:List Str) (ds:List Value):Prop :=
 ∀(s:yab)(us:List Value),K.In s.heap->(us++ds).length=ps.length->ydQ s fd ⟨us,[]⟩ (ps.zip (us++ds))
theorem wE.all {K:yan} {fd:yaP} {ps:List Str} (h:∀us:List Value,us.length=ps.length->bindArgs fd ⟨us,[]⟩=pure (ps.zip us)):wE K fd ps []:=λs us _ hl=>by
 rw[ybh]at hl |-
 exact .of_eq (h us hl)
def qbY(CX:CXT)(X:Cx)(E:XK):Prop:=∀(pins:List (Addr×Obj))(σ:St)(H:Hp)(s:yab)(e:Value)(s':yab),Inv X pins σ H s->CX X.stack H s E e s'->X.xe e s'
section
variable{X:Cx}{CX:CXT}{k:Nat}{f C:Addr}{fd:yaP}{ps:List Str}{sp:Sp}{dvs:List V}{ds:List Value}{E:XK}{x m:Str}{p pos apos:Pos}{e o:Expr}{es:List Expr}{ta:TE}{t:TA}
theorem qni {pins:List (Addr×Obj)} {σ:St} {H:Hp} {s:yab} {Q:VK} {us:List Value} {vs:List V} (F:vV X.prog X.w X.K X.mg X.base CX k f fd ps sp) (hr:vy k X.A) (hb:wE X.K fd ps ds) (hd:zM dvs ds) (hx:qbY CX X E)
  (I:Inv X pins σ H s) (r:zM vs us) (h:sp (vs++dvs) H Q E):wpAny (model X.prog X.w) X.A (call (.ref f) us) (EP X pins σ Q) X.xe s:=by
 have r2:zM (vs++dvs) (us++ds):=r.append hd
 have hl:(us++ds).length=ps.length:=by rw[<-r2.length];exact F.len _ _ _ _ h
 refine wpAny_call (ydU (F.run X.A X.stack s H ⟨us,[]⟩ (us++ds) (vs++dvs) Q E hr I.env0 (hb s us I.kIn hl) r2 h) λr s' hq=>?_)
 cases r with
 |error e=>exact hx pins σ H s e s' I hq
 |ok fl=>
  cases fl with
  |ret u=>exact I.after hq
  |next=>exact ya5 hq
  |brk=>exact ya5 hq
  |cont=>exact ya5 hq
theorem qbZ (F:vV X.prog X.w X.K X.mg X.base CX k f fd ps sp) (hr:vy k X.A) (hg:Gl X x) (hm:X.mg x=some (.ref f)) (hk:yae X.K (.ref f)=true) (hb:wE X.K fd ps ds) (hd:zM dvs ds) (hx:qbY CX X E)
  (ha:PA X (e::es) t) (hdb:(x==("__debug__":Str))=false:=by decide) (he:yah (e::es) X.env=(false,eval e X.env)::yah es X.env:=by rfl) (hpl:(yaR pos (yah es X.env)).any (·.1)=false:=by rfl) :
  PE X (.Call (.Name x p) (e::es) [] pos) (qo7 sp dvs E t):=by
 intro pins s σ H Q I h
 refine ycz (qda I hg hm ?_ hdb)
 refine ye8 (h₀:=X.base) I.ok.mod.kin hk (thn (ha pos pins s σ H _ I h) λus s1 ⟨vs,H1,I1,r,q⟩=>⟨I1.kIn,?_⟩) he hpl
 exact qni F hr hb hd hx I1 r q
structure Mk (K:yan) (C f:Addr):Prop where
 makes:PySem.W.makesIn K C=true
 init:ybE K (.ref C) "__init__"=some (some (.ref f))
 fn:PySem.W.isFn K (.ref f)=true
 kp:yae K (.ref C)=true
end
structure qv (N P:List Str) (sc:Scope):Prop where
 kind:sc.kind=.function
 co:sc.isCoroutine=false
 gen:sc.isGenerator=false
 nd:N.Nodup
 pre:N.take P.length=P
 par:∀x∈P,sc.names.lookup x=some .local\/sc.names.lookup x=some .cell
 nofree:∀y∈sc.names,y.2 ≠ .free
theorem qdX {yb9:Str->Option ycW} {x:Str}:∀{binds:List (Str×Value)}{m:Str->Option Value},(∀v,(x,v) ∉ binds)->bindL yb9 binds m x=m x
 | [],_,_=>rfl
 | (n,v)::r,m,h=>by
  unfold bindL
  rw[qdX λw hw=>h w (mM _ hw)]
  split
  ·have:x≠n:=by rintro rfl;exact h v mS_
   simp[this]
  ·rfl
theorem qdY {yb9:Str->Option ycW} {x:Str}:∀{binds:List (Str×Value)}{m:Str->Option Value},(∀v,(x,v) ∉ binds)->bindC yb9 binds m x=m x
 | [],_,_=>rfl
 | (n,v)::r,m,h=>by
  unfold bindC
  rw[qdY λw hw=>h w (mM _ hw)]
  split
  ·rfl
  ·have:x≠n:=by rintro rfl;exact h v mS_
   simp[this]
theorem qb0 {yb9:Str->Option ycW} {x:Str} {v:Value}:∀{P:List Str}{vs:List Value}{i:Nat}{m:Str->Option Value},P.Nodup->P[i]? = some x->vs[i]? = some v->yb9 x=some .local ->
  bindL yb9 (P.zip vs) m x=some v
 | [],_,_,_,_,h,_,_=>by simp at h
 |_::_,[],_,_,_,_,h,_=>by simp at h
 |p::P,w::vs,0,m,nd,h1,h2,hk=>by
  simp at h1 h2;subst h1;subst h2
  show bindL yb9 ((p,w)::P.zip vs) m p=_
  unfold bindL
  rw[qdX λv hv=>(List.nodup_cons.mp nd).1 (yc6 hv).1,if_pos hk]
  simp
 |p::P,w::vs,i+1,m,nd,h1,h2,hk=>by
  show bindL yb9 ((p,w)::P.zip vs) m x=_
  unfold bindL
  exact qb0 (i:=i) (List.nodup_cons.mp nd).2 (by simpa using h1) (by simpa using h2) hk
theorem qb1 {yb9:Str->Option ycW} {x:Str} {v:Value}:∀{P:List Str}{vs:List Value}{i:Nat}{m:Str->Option Value},P.Nodup->P[i]? = some x->vs[i]? = some v->yb9 x≠some .local ->
  bindC yb9 (P.zip vs) m x=some v
 | [],_,_,_,_,h,_,_=>by simp at h
 |_::_,[],_,_,_,_,h,_=>by simp at h
 |p::P,w::vs,0,m,nd,h1,h2,hk=>by
  simp at h1 h2;subst h1;subst h2
  show bindC yb9 ((p,w)::P.zip vs) m p=_
  unfold bindC
  rw[qdY λv hv=>(List.nodup_cons.mp nd).1 (yc6 hv).1,if_neg hk]
  simp
 |p::P,w::vs,i+1,m,nd,h1,h2,hk=>by
  show bindC yb9 ((p,w)::P.zip vs) m x=_
  unfold bindC
  exact qb1 (i:=i) (List.nodup_cons.mp nd).2 (by simpa using h1) (by simpa using h2) hk
def jM(N:List Str)(vs:List V):St:=vs.map some++yat (N.length-vs.length) none
def qiT (CX:CXT) (P:yar) (w:World) (K:yan) (mg:Str->Option Value) (base:Heap) (N:List Str) (qual:Str) (scope:Scope) (f:Addr) (cd:Value) (A:yas) (outer:List Env) (s:yab) (H:Hp) (E:XK):Cx where
 prog:=P
 w:=w
 K:=K
 mg:=mg
 base:=base
 A:=A.deeper (ybi qual scope s.heap.objs.size f cd)
 N:=N
 s₀:=s
 H₀:=H
 env:=ybi qual scope s.heap.objs.size f cd
 outer:=outer
 stack:=ybi qual scope s.heap.objs.size f cd::outer
 ex:=[]
 calm:=true
 fn:=λ_=>true
 pn:=[]
 xe:=λe s'=>wpAny (model P w) (A.deeper (ybi qual scope s.heap.objs.size f cd)) (ydl (ybi qual scope s.heap.objs.size f cd) e) (λ_ s''=>CX outer H s E e s'') (λe' s''=>CX outer H s E e' s'') s'
theorem qbO {sc:Scope} {n:Nat} {x:Str} (h:sc.names.lookup x=some .cell):∃c,(ydu n sc.names []).lookup x=some c:=by
 have q:=ycM sc.names n [] (.inl h)
 exact Option.isSome_iff_exists.mp q
theorem qhp {CX:CXT} {P:yar} {w:World} {K:yan} {mg:Str->Option Value} {base:Heap} {N ps:List Str} {qual:Str} {scope:Scope} {f:Addr} {cd:Value} {A:yas} {outer:List Env} {s s1:yab} {H:Hp} {E:XK} {us:List Value} {vs:List V}
  (S:qv N ps scope) (hd:A.handled=none) (e0:qmH P w K mg base A outer s H) (hl:vs.length=ps.length) (r:zM vs us)
  (x:InCallC s s.heap.objs.size (bindL (ybi qual scope s.heap.objs.size f cd).kindOf (ps.zip us) λ_=>none) (ydu (s.heap.objs.size+1) scope.names []) (bindC (ybi qual scope s.heap.objs.size f cd).kindOf (ps.zip us) λ_=>none) s1) :
  Inv (qiT CX P w K mg base N qual scope f cd A outer s H E) [] (jM N vs) H s1:=by
 have hpl:ps.length<=N.length:=by have:=congrArg List.length S.pre;rw[yaT]at this;omega
 obtain⟨h1,tk,rfl,hk⟩:=x.done
 have noA:∀b:Addr,b ∉ (qiT CX P w K mg base N qual scope f cd A outer s H E).ex:=λb z=>absurd (show b∈([]:List Addr)from z) (by simp)
 refine ⟨⟨e0.mod,S.kind,rfl,rfl,yac _,λy z c h1 h2=>?_,λy hy=>?_,λy c _ h=>?_,λ_=>hd,yeF e0.frames,.inr ⟨rfl,rfl⟩,λb z=>absurd z (noA b),e0.bs,e0.bsz,λb _ _=>noA b,λb z=>absurd z (noA b),e0.funs,e0.frf⟩,
  rfl,e0.bare,Un.kept hk,⟨_,x.toInCall.ns,λi y v h1 h2 h3=>?_⟩,λy c h=>⟨_,x.cell y c h⟩,e0.hok.fresh (yac _),λy c h=>?_,λp hp=>absurd (show p∈([]:List (Addr×Obj))from hp) (by simp),e0.hok.kept hk,?_⟩
 ·exact name_of_addr x.apart (yaW h1) (yaW h2)
 ·have hy:scope.names.lookup y=some .cell\/scope.names.lookup y=some .free:=hy
  rcases hy with hy|hy
  ·exact qbO hy
  ·exact absurd rfl (S.nofree _ (yaW hy))
 ·exact ycx (x.above y c (yaW h))
 ·have hi:i<vs.length:=by
   unfold jM at h2
   by_cases hi:i<vs.length
   ·exact hi
   ·rw[List.getElem?_append_right (by simpa using hi)]at h2
    rw[List.getElem?_replicate]at h2
    split at h2<;>cases h2
  have ha:vs[i]? = some v:=by
   unfold jM at h2
   rw[List.getElem?_append_left (by simpa using hi),gM_]at h2
   cases e:vs[i]? with
   |none=>rw[e]at h2;cases h2
   |some a=>rw[e]at h2;cases h2;rfl
  obtain⟨u,hu,rv⟩:=r.get ha
  have hp:ps[i]? = some y:=by
   rw[<-S.pre,List.getElem?_take_of_lt (by omega)];exact h1
  have ndP:ps.Nodup:=by rw[<-S.pre];exact S.nd.sublist (yfz _ _)
  refine⟨u,rv,?_⟩
  rcases S.par y (yby hp)with k|k
  ·exact .inl ⟨k,qb0 ndP hp hu k⟩
  ·obtain⟨c,e⟩:=qbO (n:=s.heap.objs.size+1) k
   refine .inr ⟨.inl k,c,e,?_⟩
   have q:=x.cell y c e
   rw[qb1 ndP hp hu (by show scope.names.lookup y≠_;rw[k];decide)]at q
   exact q
 ·exact e0.hok.fresh (ycx (x.above y c (yaW h)))
 ·unfold jM
  show _=N.length
  rw[lA_,lM_,ybl]
  omega
theorem qnj {CX:CXT} {P:yar} {w:World} {K:yan} {mg:Str->Option Value} {base:Heap} {k:Nat} {f:Addr} {name qual:Str} {params:yec} {body:List Stmt} {scope:Scope} {dV kV doc pm cdv ct oc:Value} {an od:Option Addr}
  {osl:Array (Option Value)} {N ps:List Str} {sp:Sp} (lk:K.lookup f=some ⟨oc,od,.func (yao name qual params body scope dV kV doc pm an cdv ct),osl⟩) (hcd:yak K cdv qual=true) (S:qv N ps scope)
  (len:∀vs H Q E,sp vs H Q E->vs.length=ps.length)
  (hbody:∀(A:yas)(outer:List Env)(s:yab)(H:Hp)(vs:List V)(Q:VK)(E:XK),vy k (A.deeper (ybi qual scope s.heap.objs.size f cdv))->sp vs H Q E ->
   ∃t,PSs (qiT CX P w K mg base N qual scope f cdv A outer s H E) body t/\t {nx:=λ_ H'=>Q .non H',rt:=Q} (jM N vs) H) :
  vV P w K mg base CX (k+1) f (yao name qual params body scope dV kV doc pm an cdv ct) ps sp:=by
 refine⟨len,λA outer s H args us vs Q E hr e0 hb r hsp=>?_⟩
 have hl:=len _ _ _ _ hsp
 have KX:K.In s.heap:=e0.mod.kin.keeps λb o e=>(e0.bs b o e).1
 have lim:s.heap.NoLimit:=e0.mod.nolimit.keeps λb o e=>(e0.bs b o e).1
 have hkind:∀y∈ps.zip us,scope.names.lookup y.1=some .local\/(scope.names.lookup y.1=some .cell/\((ydu (s.heap.objs.size+1) scope.names []).lookup y.1).isSome=true):=λ⟨n,v⟩ hy=>by
  rcases S.par n (yc6 hy).1 with q|q
  ·exact .inl q
  ·exact .inr ⟨q,ycM _ _ _ (.inl q)⟩
 refine yes hr.depth (KX _ _ lk) rfl S.co S.gen rfl (ye9 KX hcd) (hb _ _ _ _ ?_)
 refine ydE S.kind hkind λenv he s1 x=>?_
 subst he
 refine⟨lim.keeps x.toInCall.keep,codeAny_func ?_⟩
 obtain⟨t,ht,hq⟩:=hbody A outer s H vs Q E (hr.deeper _) hsp
 have I:Inv (qiT CX P w K mg base N qual scope f cdv A outer s H E) [] (jM N vs) H s1:=qhp S hr.hd e0 hl r x
 refine ybf (ht [] s1 (jM N vs) H _ I hq) (λfl s' hs=>?_) λe s' hs=>hs
 have fin:∀{σ':St}{H':Hp}{v:V}{u:Value},Inv (qiT CX P w K mg base N qual scope f cdv A outer s H E) [] σ' H' s'->yg v u->Q v H'->CE outer P w H s Q u s' :=
  λ{σ' H' v u} J rv q=>⟨v,H',J.os,J.bare,J.base,J.hok,rv,q⟩
 cases fl with
 |ret u=>
  obtain⟨v,σ',H',J,rv,q⟩:=hs
  exact fin J rv q
 |next=>
  obtain⟨σ',H',J,q⟩:=hs
  exact fin (v:=V.non) (u:=yaA) J rfl q
 |brk=>
  obtain⟨_,_,_,q⟩:=hs
  exact ya5 q
 |cont=>
  obtain⟨_,_,_,q⟩:=hs
  exact ya5 q
end L2
namespace L2
open PySem PySem.Spec PyProof.Rows
section
variable{X:Cx}{x:Str}{p pos:Pos}{e:Expr}{es:List Expr}{t:TA}{id T:String}{r:List V->Hp->VK->Prop}
def tCB(r:List V->Hp->VK->Prop)(t:TA):TE:=λσ H Q=>t σ H λvs H1=>r vs H1 Q
theorem qaH (hc:uC X (.builtin id) r) (hg:Gl X x) (hm:X.mg x=none) (hv:yaz x=some (.builtin id)) (ha:PA X (e::es) t) (hn:x≠"__name__":=by decide) (hdb:(x==("__debug__":Str))=false:=by decide)
  (he:yah (e::es) X.env=(false,eval e X.env)::yah es X.env:=by rfl) (hpl:(yaR pos (yah es X.env)).any (·.1)=false:=by rfl):PE X (.Call (.Name x p) (e::es) [] pos) (tCB r t):=by
 intro pins s σ H Q I h
 refine ycz (qdV I hg hm hv ?_ hn hdb)
 exact PyProof.Rows.callWith_builtin1 (thn (ha pos pins s σ H _ I h) λus s1 ⟨vs,H1,I1,r1,q1⟩=>hc pins s1 σ H1 vs us Q I1 r1 q1) he hpl
theorem qdZ (hc:uC X (.type T) r) (hg:Gl X x) (hm:X.mg x=none) (hv:yaz x=some (.type T)) (ha:PA X (e::es) t) (hn:x≠"__name__":=by decide) (hdb:(x==("__debug__":Str))=false:=by decide)
  (he:yah (e::es) X.env=(false,eval e X.env)::yah es X.env:=by rfl) (hpl:(yaR pos (yah es X.env)).any (·.1)=false:=by rfl):PE X (.Call (.Name x p) (e::es) [] pos) (tCB r t):=by
 intro pins s σ H Q I h
 refine ycz (qdV I hg hm hv ?_ hn hdb)
 exact ycb (thn (ha pos pins s σ H _ I h) λus s1 ⟨vs,H1,I1,r1,q1⟩=>hc pins s1 σ H1 vs us Q I1 r1 q1) he hpl
end
end L2
namespace HT
open PySem PyProof.Rows
def lexLt:List Int->List Int->Bool
 | [],[]=>false
 | [],_::_=>true
 |_::_,[]=>false
 |x::xs,y::ys=>if x=y then lexLt xs ys else decide (x<y)
theorem lexLt_cons(x y:Int)(xs ys:List Int):lexLt (x::xs) (y::ys)=if x=y then lexLt xs ys else decide (x<y):=rfl
theorem qdb:lexLt [] []=false:=rfl
theorem qcF(y:Int)(ys:List Int):lexLt [] (y::ys)=true:=rfl
theorem qcG(x:Int)(xs:List Int):lexLt (x::xs) []=false:=rfl
theorem qi9 (A:yas) (s:yab) (a:Int) (t:Tok) (c:Int) (u:Tok):∃e,yeG A s (.int a t) (.int c u) e/\(e=true ↔ a=c) :=
 ⟨(a==c),ydv a t c u,by simp⟩
theorem qja (A:yas) (s:yab) (a:Int) (t:Tok) (c:Int) (u:Tok) (prog:yar) (w:World) (E:Value->yab->Prop) (Q:Value->yab->Prop) (h:Q (.bool (decide (a<c))) s) :
  wpAny (model prog w) A (richCompare .Lt (.int a t) (.int c u)) Q E s :=
 (PyProof.Rows.lt_int h:wpAny (model prog w) A (yaL .Lt (.int a t) (.int c u)) Q E s)
section
open PySem.SeqAt
open PySem.AutoSeq1 (wpAny_loadPart')
open PySem.MeetsSeq PySem.MeetsSeq2 PySem.MeetsSeq3
theorem qdc (l b:Addr) (items items2:Array Value) (n n2:Nat) (dd dd2:Option Addr) (sl sl2:Array (Option Value)) (ns ms:List Int) (hi:ybP items.toList ns) (hj:ybP items2.toList ms) :
  Meets (ycn.«tuple.__lt__» ⟨[.ref l,.ref b],[]⟩)
   (λ_ R s=>s.heap.get? l=some {cls:=.type "tuple",dict:=dd,data:=.seq items n,slots:=sl}/\s.heap.get? b=some {cls:=.type "tuple",dict:=dd2,data:=.seq items2 n2,slots:=sl2} /\
    R (.ok (.ret (.bool (lexLt ns ms)))) s) :=
 .of_wp λprog w A R s h=>by
  obtain⟨hp,g,d,tk,os⟩:=s;obtain⟨hl,hb,h⟩:=h
  have f2:=ydV
  have z1:items.size=ns.length:=by rw[<-hi.length];simp
  have z2:items2.size=ms.length:=by rw[<-hj.length];simp
  wp_walk using yb5 hl,yb5 hb,wpAny_forIn_list _ (λqbN b s'=>b.1=none/\s'=⟨hp,g,d,tk,os⟩/\∃(vs ws:List Value)(ns' ms':List Int),qbN=vs.zip ws /\
   ybP vs ns'/\ybP ws ms'/\ns'.length+items2.size=ms'.length+items.size/\R (.ok (.ret (.bool (lexLt ns' ms')))) ⟨hp,g,d,tk,os⟩) _
  case turn=>
   rintro⟨y,x⟩ qbN b s' ⟨hb',rfl,vs,ws,ns',ms',hz,hvi,hwi,hlen,hR⟩
   cases hvi with
   |nil=>rw[List.zip_nil_left]at hz;cases hz
   | cons a t hvi'=>
    cases hwi with
    |nil=>rw[List.zip_nil_right]at hz;cases hz
    | cons c u hwi'=>
     rw[yfa]at hz
     injection hz with hyx hrest
     injection hyx with hy hx
     subst hy hx
     rw[lexLt_cons]at hR
     simp only[lC_]at hlen
     obtain⟨e,he,hiff⟩:=qi9 A.in1 ⟨hp,g,d,tk,os⟩ a t c u
     refine yaa (he prog w _ _ ?_)
     cases e with
     |true=>
      rw[if_pos (hiff.mp rfl)]at hR
      wp_walk
      exact⟨rfl,rfl,_,_,_,_,hrest,hvi',hwi',by omega,hR⟩
     |false=>
      rw[if_neg (λq=>absurd (hiff.mpr q) yap)]at hR
      have hri:=qja A.in1 ⟨hp,g,d,tk,os⟩ a t c u prog w
      wp_walk using hri
      exact⟨_,rfl,by simpa using hR⟩
  case fin=>
   rintro⟨b1,b2⟩ s' ⟨hb',rfl,vs,ws,ns',ms',hz,hvi,hwi,hlen,hR⟩
   simp only at hb'
   subst hb'
   have hv:lexLt ns' ms'=decide (items.size<items2.size):=by
    cases hvi with
    | nil=>
     cases hwi with
     |nil=>
      simp only[lN_]at hlen
      rw[qdb]
      exact(decide_eq_false (by omega)).symm
     |cons c u hw=>
      simp only[lN_,lC_]at hlen
      rw[qcF]
      exact(decide_eq_true (by omega)).symm
    | cons a t hv=>
     cases hwi with
     |nil=>
      simp only[lN_,lC_]at hlen
      rw[qcG]
      exact(decide_eq_false (by omega)).symm
     |cons c u hw=>
      rw[yfa]at hz
      cases hz
   rw[hv]at hR
   wp_walk
   exact⟨_,rfl,by simpa [Builtin.Tuple.tupleCompareSizes] using hR⟩
  case h=>
   exact⟨rfl,rfl,items.toList,items2.toList,ns,ms,rfl,hi,hj,by omega,h⟩
end
section
variable{prog:yar}{w:World}{A:yas}{E:Value->yab->Prop}{s:yab}
theorem lt_tupInts {l b:Addr} {items items2:Array Value} {ns ms:List Int} {Q:Value->yab->Prop} (hl:IsTup s.heap l items) (hb:IsTup s.heap b items2) (hi:ybP items.toList ns) (hj:ybP items2.toList ms)
  (hu:A.units<cLine) (h:Q (.bool (lexLt ns ms)) s):wpAny (model prog w) A (yaL .Lt (.ref l) (.ref b)) Q E s:=by
 obtain⟨⟨cls,dd,data,sl⟩,ho,hc,n,hd⟩:=id hl
 obtain⟨⟨cls2,dd2,data2,sl2⟩,ho2,hc2,n2,hd2⟩:=id hb
 simp only at hc hd hc2 hd2
 subst hc hd hc2 hd2
 exact richCompare_meets_room (op := .Lt) ⟨_,ho,rfl⟩ ⟨_,ho2,rfl⟩ PySem.F.slot_tuple_lt PySem.F.entry_tuple_lt (PySem.F.args_tuple_lt_2 _ _) (qdc l b items items2 n n2 dd dd2 sl sl2 ns ms hi hj)
  ⟨ho,ho2,show yaQ (lexLt ns ms)≠Value.notImplemented/\Q (.bool (lexLt ns ms)) s from⟨(λx=>nomatch x),h⟩⟩ hu
theorem cat_tup {t b:Addr} {vs ws:List Value} {Q:Value->yab->Prop} (ht:IsTup s.heap t vs.toArray) (hb:IsTup s.heap b ws.toArray) (hv:vs≠[])
  (h1:ws=[]->Q (.ref t) s) (h2:ws≠[]->Q (.ref s.heap.objs.size) {s with heap:=s.heap.push {cls:=.type "tuple",data:=.seq (vs++ws).toArray} })
  (hsz:vs.length+ws.length<=yaq):wpAny (model prog w) A (ybp .Add (.ref t) (.ref b)) Q E s:=by
 obtain⟨⟨cls,dd,data,sl⟩,ho,hc,n,hd⟩:=id ht
 obtain⟨⟨cls2,dd2,data2,sl2⟩,ho2,hc2,n2,hd2⟩:=id hb
 simp only at hc hd hc2 hd2
 subst hc hd hc2 hd2
 have e:vs.toArray++ws.toArray=(vs++ws).toArray:=by simp
 by_cases hw:ws=[]
 ·exact yfb ⟨_,ho,rfl⟩ ⟨_,ho2,rfl⟩ ydW yeS ycN ycH (ycA _ _)
   (tuple_addW1 t b vs.toArray ws.toArray n n2 dd dd2 sl sl2 (by simpa using hv) (by simp[hw])) ⟨ho,ho2,h1 hw⟩
 ·refine yfb ⟨_,ho,rfl⟩ ⟨_,ho2,rfl⟩ ydW yeS ycN ycH (ycA _ _)
   (tuple_addW2 t b vs.toArray ws.toArray n n2 dd dd2 sl sl2 (by simpa using hv) (by simpa using hw) (by rw[sT_,sT_];exact hsz)) ⟨ho,ho2,?_⟩
  rw[e]
  exact h2 hw
def sIx (n d:Nat):Option Int->Nat
 |none=>d
 |some v=>if v<0 then(v+(n:Int)).toNat else min v.toNat n
theorem sIx_none(n d:Nat):sIx n d none=d:=rfl
theorem sIx_nat (n d k:Nat):sIx n d (some (k:Int))=min k n:=by
 show(if(k:Int)<0 then((k:Int)+(n:Int)).toNat else min (k:Int).toNat n)=min k n
 rw[if_neg (by omega),yaO]
theorem qnk (n d:Nat) (hd:d<=n) (o:Option Int):sIx n d o<=n:=by
 cases o with
 |none=>exact hd
 |some v=>
  show(if v<0 then(v+(n:Int)).toNat else min v.toNat n)<=n
  by_cases hv:v<0
  ·rw[if_pos hv];omega
  ·rw[if_neg hv];exact Nat.min_le_right _ _
theorem qhq (v:Int) (n d:Nat):(if v<0 then max (v+(n:Int)) 0 else min v (n:Int))=((sIx n d (some v):Nat):Int):=by
 show(if v<0 then max (v+(n:Int)) 0 else min v (n:Int))=(((if v<0 then(v+(n:Int)).toNat else min v.toNat n):Nat):Int)
 by_cases hv:v<0
 ·simp only[if_pos hv];omega
 ·simp only[if_neg hv];omega
theorem qgt (lo hi:Option Int) (n:Nat):ycv lo hi 1 (n:Int)=(((sIx n 0 lo:Nat):Int),((sIx n n hi:Nat):Int)):=by
 have h1:¬((1:Int)<0):=by omega
 unfold ycv
 simp only[h1,if_false]
 refine Prod.ext ?_ ?_
 ·cases lo with
  |none=>rfl
  |some v=>exact qhq v n 0
 ·cases hi with
  |none=>rfl
  |some v=>exact qhq v n n
theorem qgu (i j:Nat):ya8 (i:Int) (j:Int) 1=j-i:=by
 unfold ya8
 have h1:(1:Int)>0:=by omega
 simp only[h1,if_true,yfc]
 split<;>omega
theorem qa4 {v:Value} {o:Option Int} {Q:Option Int->yab->Prop} (p:ycB v o) (h:Q o s):wpAny (model prog w) A (Builtin.Slice.slicePartIndex v) Q E s:=by
 cases p with
 |none=>exact ydm h
 |int i t=>exact slicePart_int h
theorem sliceApplied_gen {sl:Addr} {vl vu:Value} {lo hi:Option Int} {n:Nat} {Q:Int×Int×Nat->yab->Prop} (hs:s.heap.IsSliceOf sl vl vu .none) (pl:ycB vl lo) (pu:ycB vu hi)
  (h:Q (((sIx n 0 lo:Nat):Int),1,sIx n n hi-sIx n 0 lo) s):wpAny (model prog w) A (ybQ (.ref sl) (pure (n:Int))) Q E s:=by
 obtain⟨os,hos,hcs,hds⟩:=id hs
 unfold ybQ ydL
 refine yaa (yaa (yaC hos hds (x:=vl) rfl (yaa (yaC hos hds (x:=vu) rfl (yaa (yaC hos hds (x:=.none) rfl (yag ?_)))))))
 refine yaa (ydm ?_)
 show wpAny _ _ (if((1:Int)==0)=true then _ else _) _ _ s
 rw[if_neg (by decide)]
 refine yaa (qa4 pl (yaa (qa4 pu (yaa (yag ?_)))))
 show wpAny _ _ (match ycv lo hi 1 (n:Int) with|(lo,hi)=>pure (lo,(1:Int),ya8 lo hi 1)) _ _ s
 rw[qgt lo hi n]
 show wpAny _ _ (pure (((sIx n 0 lo:Nat):Int),(1:Int),ya8 ((sIx n 0 lo:Nat):Int) ((sIx n n hi:Nat):Int) 1)) _ _ s
 rw[qgu]
 exact yag h
theorem qjb (xs:Array Value) (i k:Nat):((yay k).filterMap λ(m:Nat)=>xs[((i:Int)+(m:Int)*1).toNat]?).toArray=((xs.toList.drop i).take k).toArray:=by
 have e:(λ(m:Nat)=>xs[((i:Int)+(m:Int)*1).toNat]?)=λm=>xs[i+m]? := by
  funext m
  have:((i:Int)+(m:Int)*1).toNat=i+m:=by omega
  rw[this]
 rw[e]
 have:=pick_run xs i k
 rw[ycC]at this
 have e2:((λx=>xs[x]?)∘λx=>i+x)=λm=>xs[i+m]? := rfl
 rw[e2]at this
 rw[this]
theorem getItem_tuple_cut {t sl:Addr} {items:Array Value} {vl vu:Value} {lo hi:Option Int} {Q:Value->yab->Prop} (ht:IsTup s.heap t items) (hs:s.heap.IsSliceOf sl vl vu .none) (pl:ycB vl lo) (pu:ycB vu hi)
  (hw:¬(sIx items.size 0 lo=0/\sIx items.size items.size hi=items.size))
  (h:Q (.ref s.heap.objs.size) {s with heap:=s.heap.push {cls:=.type "tuple",data:=.seq ((items.toList.drop (sIx items.size 0 lo)).take (sIx items.size items.size hi-sIx items.size 0 lo)).toArray} })
  (hsz:items.size<=yaq):wpAny (model prog w) A (yco (.ref t) (.ref sl)) Q E s:=by
 have htake:sizeOk (.seq ((items.toList.drop (sIx items.size 0 lo)).take (sIx items.size items.size hi-sIx items.size 0 lo)).toArray):=by
  show((items.toList.drop (sIx items.size 0 lo)).take (sIx items.size items.size hi-sIx items.size 0 lo)).toArray.size<=yaq
  rw[sT_,yaT,ybF,ycp]
  omega
 have hj:sIx items.size items.size hi<=items.size:=qnk _ _ (yac _) hi
 obtain⟨os,hos,hcs,hds⟩:=id hs
 have hTs:s.TypeIs (.ref sl) "slice":=⟨os,hos,hcs⟩
 unfold yco
 try with_reducible refine yba ?_
 first|refine yaa (yag ?_)|skip
 refine yaa (ydJ ht.typeIs (by decide) ?_)
 refine yaa (wpAny_callSpecial?_slot (name:=ybJ "__getitem__") ht.typeIs ya2
  (ybG ya2 ht.typeIs ydh ?_ (ydw _ _)))
 show wpAny _ _ (ych (.ref t) >>= _) _ _ s
 refine yaa (yeT ht ?_)
 refine yaa (yc7 hTs ?_)
 rw[if_pos (by decide)]
 refine yaa (sliceApplied_gen hs pl pu ?_)
 have hno:¬((((sIx items.size 0 lo:Nat):Int)==0&&(1:Int)==1&&(sIx items.size items.size hi-sIx items.size 0 lo)==items.size)=true):=by
  intro q
  rw[yal,yal]at q
  have q1:((sIx items.size 0 lo:Nat):Int)=0:=yc1 q.1.1
  have q2:sIx items.size items.size hi-sIx items.size 0 lo=items.size:=yc1 q.2
  exact hw ⟨by omega,by omega⟩
 show wpAny _ _ (if(((sIx items.size 0 lo:Nat):Int)==0&&(1:Int)==1&&(sIx items.size items.size hi-sIx items.size 0 lo)==items.size)=true then _ else _) _ _ s
 rw[if_neg hno,qjb]
 first
  |exact yaa (m:=yaZ _) (yaN (yag ⟨_,rfl,yag h⟩) htake)
  |exact yaa (m:=yaZ _) (yaN (yaa (yag (yag ⟨_,rfl,yag h⟩))) htake)
  |exact yaa (yaa (m:=yaZ _) (yaN (yag (yag ⟨_,rfl,yag h⟩)) htake))
  |exact yaa (yaa (m:=yaZ _) (yaN (yag ⟨_,rfl,yag h⟩) htake))
end
end HT
namespace L2
open PySem PySem.Spec PyProof.Rows
abbrev TO:=St->Hp->(Option Int->Hp->Prop)->Prop
def PO (X:Cx) (e:Option Expr) (t:TO):Prop :=
 ∀ (pins:List (Addr×Obj)) (s:yab) (σ:St) (H:Hp) (Q:Option Int->Hp->Prop),Inv X pins σ H s->t σ H Q ->
  wpAny (model X.prog X.w) X.A (evalPart e X.env) (λu s'=>∃o H',Inv X pins σ H' s'/\ycB u o/\Q o H') X.xe s
def qli:TO:=λ_ H Q=>Q none H
def qo8(t:TE):TO:=λσ H Q=>t σ H λx H1=>∃i,x=.int i/\Q (some i) H1
theorem qgv {ns:List Int}:∀{us:List Value},zM (ns.map V.int) us->ybP us ns:=by
 induction ns with
 |nil=>intro us r;rw[yca]at r;cases r;exact .nil
 | cons n ns ih=>
  intro us r
  rw[mC_]at r
  cases r with
  |cons r1 r2=>
   obtain⟨t,e⟩:=r1
   subst e
   exact .cons n t (ih r2)
section
variable{X:Cx}{e:Expr}{te:TE}{lo hi:Option Expr}{tl th:TO}{pos p2:Pos}
theorem qlj:PO X none qli:=by
 intro pins s σ H Q I h
 rw[yeU]
 exact yag ⟨none,H,I,.none,h⟩
theorem qhr (h:PE X e te):PO X (some e) (qo8 te):=by
 intro pins s σ H Q I hw
 rw[evalPart_some]
 refine thn (h pins s σ H _ I hw) λu s1 ⟨x,H1,I1,r1,q1⟩=>?_
 obtain⟨i,rfl,q⟩:=q1
 obtain⟨t,rfl⟩:=r1
 exact⟨some i,H1,I1,.int i t,q⟩
def SlR (X:Cx) (r:V->Option Int->Option Int->Hp->VK->Prop):Prop :=
 ∀ (pins:List (Addr×Obj)) (s:yab) (σ:St) (H:Hp) (x:V) (v vl vu:Value) (lo hi:Option Int) (sl:Addr) (Q:VK),Inv X pins σ H s->yg x v->s.heap.IsSliceOf sl vl vu .none->ycB vl lo->ycB vu hi->r x lo hi H Q ->
  ∃T id,yfU (.type T) "__getitem__"=pure (some (.builtin id))/\s.TypeIs v T/\wpAny (model X.prog X.w) X.A (yco v (.ref sl)) (EP X pins σ Q) X.xe s
theorem SlR.or {r r':V->Option Int->Option Int->Hp->VK->Prop} (h:SlR X r) (h':SlR X r'):SlR X (λx lo hi H Q=>r x lo hi H Q\/r' x lo hi H Q):=by
 intro pins s σ H x v vl vu lo hi sl Q I rx hs pl pu q
 rcases q with q|q
 ·exact h pins s σ H x v vl vu lo hi sl Q I rx hs pl pu q
 ·exact h' pins s σ H x v vl vu lo hi sl Q I rx hs pl pu q
def tSl(r:V->Option Int->Option Int->Hp->VK->Prop)(te:TE)(tl th:TO):TE:=λσ H Q=>te σ H λx H1=>tl σ H1 λl H2=>th σ H2 λu H3=>r x l u H3 Q
theorem qjc {r:V->Option Int->Option Int->Hp->VK->Prop} (hr:SlR X r) (he:PE X e te) (hl:PO X lo tl) (hu:PO X hi th):PE X (.Subscript e (.Slice lo hi none p2) pos) (tSl r te tl th):=by
 intro pins s σ H Q I h
 refine yfV (thn (he pins s σ H _ I h) λv s1 ⟨x,H1,I1,r1,q1⟩=>?_)
 refine wpAny_Slice (thn (hl pins s1 σ H1 _ I1 q1) λvl s2 ⟨l,H2,I2,pl,q2⟩=>thn (hu pins s2 σ H2 _ I2 q2) λvu s3 ⟨u,H3,I3,pu,q3⟩=>?_)
 rw[yeU]
 refine yag ?_
 have I4:Inv X pins σ H3 {s3 with heap:=s3.heap.push {cls:=.type "slice",data:=.fields #[vl,vu,.none]} }:=I3.kept (t':=s3.toks) λb ob q=>Heap.get?_push_of_some _ q
 obtain⟨T,id,hT,ht,hg⟩:=hr pins {s3 with heap:=s3.heap.push {cls:=.type "slice",data:=.fields #[vl,vu,.none]} } σ H3 x v vl vu l u s3.heap.objs.size Q I4 r1 (yfd ..) pl pu q3
 show wpAny (model X.prog X.w) X.A (subscriptTail e (.Slice lo hi none p2) v (.ref s3.heap.objs.size)) (EP X pins σ Q) X.xe {s3 with heap:=s3.heap.push {cls:=.type "slice",data:=.fields #[vl,vu,.none]} }
 exact tail_any (ops:=[.ref s3.heap.objs.size,v]) ht hT hg (by with_unfolding_all rfl)
def qiU(xs:List V)(lo hi:Option Int):List V:=(xs.drop (HT.sIx xs.length 0 lo)).take (HT.sIx xs.length xs.length hi-HT.sIx xs.length 0 lo)
theorem qb2 (xs:List V) (lo hi:Option Int):(qiU xs lo hi).length<=xs.length:=by
 unfold qiU
 rw[yaT,ybF]
 omega
def qpZ (K:yan):V->Option Int->Option Int->Hp->VK->Prop:=λx lo hi H Q=>∃a xs,x=.ref a/\SqT K H a xs /\
 ¬(HT.sIx xs.length 0 lo=0/\HT.sIx xs.length xs.length hi=xs.length)/\∀p,H p=none->Q (.ref p) (upd H p (.tup (qiU xs lo hi)))
theorem sl_tup:SlR X (qpZ X.K):=by
 intro pins s σ H x v vl vu lo hi sl Q I rx hs pl pu h
 obtain⟨a,xs,rfl,hx,hw,q⟩:=h
 cases rx
 obtain⟨its,r,ht,hz⟩:=I.tuple hx
 have hlen:its.toArray.size=xs.length:=by rw[sT_];exact r.length.symm
 refine⟨"tuple",_,PyProof.Rows.slot_tuple_getitem.lookup,ht.typeIs,?_⟩
 refine HT.getItem_tuple_cut ht hs pl pu (by rw[hlen];exact hw) ?_ (by rw[hlen];exact hz)
 rw[hlen]
 refine⟨.ref s.heap.objs.size,_,I.laid (t':=s.toks) (o:=.tup (qiU xs lo hi)) (λb ob q=>Heap.get?_push_of_some _ q) (yac _) ?_,rfl,q _ (I.hok.fresh (yac _))⟩
 exact⟨yau (qb2 xs lo hi) hz,_,(r.drop (HT.sIx xs.length 0 lo)).take (HT.sIx xs.length xs.length hi-HT.sIx xs.length 0 lo),ydt _ _⟩
def qnl (K:yan):R2:=λx y H Q=>∃a b xs ys,x=.ref a/\y=.ref b/\SqT K H a xs/\SqT K H b ys/\xs≠[]/\xs.length+ys.length<=yaq /\
 (ys=[]->Q (.ref a) H)/\(ys≠[]->∀p,H p=none->Q (.ref p) (upd H p (.tup (xs++ys))))
theorem zM.nil_iff {xs:List V} {us:List Value} (r:zM xs us):us=[] ↔ xs=[]:=by
 cases r with
 |nil=>simp
 |cons _ _=>simp
theorem qlk:OpR X (ybp .Add) (qnl X.K):=by
 intro pins s σ H x y v u Q I rx ry h
 obtain⟨a,b,xs,ys,rfl,rfl,ha,hb,hx,hz,q1,q2⟩:=h
 cases rx
 cases ry
 obtain⟨its,r1,p1,_⟩:=I.tuple ha
 obtain⟨its2,r2,p2,_⟩:=I.tuple hb
 refine HT.cat_tup p1 p2 (λz=>hx (r1.nil_iff.mp z)) (λz=>⟨.ref a,H,I,rfl,q1 (r2.nil_iff.mp z)⟩) (λz=>?_) (by rw[<-r1.length,<-r2.length];exact hz)
 refine⟨.ref s.heap.objs.size,_,I.laid (t':=s.toks) (o:=.tup (xs++ys)) (λb ob q=>Heap.get?_push_of_some _ q) (yac _) ?_,rfl,q2 (λw=>z (r2.nil_iff.mpr w)) _ (I.hok.fresh (yac _))⟩
 exact⟨by rw[lA_];exact hz,_,r1.append r2,ydt _ _⟩
end
end L2
namespace L2
open PySem PySem.Spec PyProof.Rows
def ixN(n:Nat)(i:Int):Option Nat:=if 0<=i then(if i<n then some i.toNat else none)else if -(n:Int)<=i then some (i+n).toNat else none
def atI{α:Type}(xs:List α)(i:Int):Option α:=(ixN xs.length i).bind λj=>xs[j]?
theorem qhs {n:Nat} {i:Int} {j:Nat} (h:ixN n i=some j):seqIndex? i n=some j/\j<n /\ -(n:Int)<=i/\i<n:=by
 unfold ixN at h
 by_cases h0:0<=i
 ·rw [if_pos h0]at h
  by_cases h1:i<n
  ·rw[if_pos h1]at h
   have e:i.toNat=j:=yaM h
   exact⟨by rw[yfN h0 h1,e],by omega,by omega,h1⟩
  ·rw[if_neg h1]at h;cases h
 ·rw [if_neg h0]at h
  by_cases h1 : -(n:Int)<=i
  ·rw[if_pos h1]at h
   have e:(i+n).toNat=j:=yaM h
   exact⟨by rw[yfe (by omega) h1,e],by omega,h1,by omega⟩
  ·rw[if_neg h1]at h;cases h
theorem qht {α:Type} {xs:List α} {i:Int} {v:α} (h:atI xs i=some v):∃j,seqIndex? i xs.length=some j/\xs[j]? = some v/\j<xs.length /\ -(xs.length:Int)<=i/\i<xs.length:=by
 unfold atI at h
 cases e:ixN xs.length i with
 |none=>rw[e]at h;cases h
 |some j=>
  rw[e]at h
  obtain⟨h1,h2,h3,h4⟩:=qhs e
  exact⟨j,h1,h,h2,h3,h4⟩
def qeT(b:Expr):Prop:=∀o i,subscripted b false o i=operate [o,i] (yco o i)
def IxR (X:Cx) (r:R2):Prop :=
 ∀ (value slice:Expr) (pins:List (Addr×Obj)) (s:yab) (σ:St) (H:Hp) (x y:V) (v u:Value) (Q:VK),Inv X pins σ H s->yg x v->yg y u->r x y H Q ->
  subscripted slice false v u=operate [v,u] (yco v u)->wpAny (model X.prog X.w) X.A (subscriptTail value slice v u) (EP X pins σ Q) X.xe s
def MtR (X:Cx) (id:String) (r:V->List V->Hp->VK->Prop):Prop :=
 ∀ (pins:List (Addr×Obj)) (s:yab) (σ:St) (H:Hp) (x:V) (xs:List V) (v:Value) (us:List Value) (Q:VK),Inv X pins σ H s->yg x v->zM xs us->r x xs H Q ->
  wpAny (model X.prog X.w) X.A (call (.builtin id) (v::us)) (EP X pins σ Q) X.xe s
section
variable{X:Cx}{a b:Expr}{ta tb:TE}{pos:Pos}
theorem IxR.or {r r':R2} (h:IxR X r) (h':IxR X r'):IxR X (λx y H Q=>r x y H Q\/r' x y H Q):=by
 intro value slice pins s σ H x y v u Q I rx ry q hs
 rcases q with q|q
 ·exact h value slice pins s σ H x y v u Q I rx ry q hs
 ·exact h' value slice pins s σ H x y v u Q I rx ry q hs
theorem MtR.or {id:String} {r r':V->List V->Hp->VK->Prop} (h:MtR X id r) (h':MtR X id r'):MtR X id (λx xs H Q=>r x xs H Q\/r' x xs H Q):=by
 intro pins s σ H x xs v us Q I rx rs q
 rcases q with q|q
 ·exact h pins s σ H x xs v us Q I rx rs q
 ·exact h' pins s σ H x xs v us Q I rx rs q
theorem qnm {r:R2} (hr:IxR X r) (ha:PE X a ta) (hb:PE X b tb) (hs:qeT b):PE X (.Subscript a b pos) (tOp r ta tb):=by
 intro pins s σ H Q I h
 exact yfV (qo1 ha hb I h λv u s2 x y H2 I2 rx ry q=>hr a b pins s2 σ H2 x y v u Q I2 rx ry q (hs _ _))
def qo9(K:yan):R2:=λx y H Q=>∃p xs i v,x=.ref p/\y=.int i/\SqL K H p xs/\atI xs i=some v/\Q v H
def qpa(K:yan):R2:=λx y H Q=>∃p xs i v,x=.ref p/\y=.int i/\SqT K H p xs/\atI xs i=some v/\Q v H
theorem qhu:IxR X (qo9 X.K):=by
 intro value slice pins s σ H x y v u Q I rx ry h hs
 obtain⟨p,xs,i,z,rfl,rfl,hq,he,q⟩:=h
 cases rx
 obtain⟨t,rfl⟩:=ry
 obtain⟨its,r,pl,hz⟩:=I.list hq
 obtain⟨j,h1,h2,h3,h4,h5⟩:=qht he
 obtain⟨w,ew,rw'⟩:=r.get h2
 have hl:=r.length
 have hn:=qdW
 have fin:EP X pins σ Q w s:=⟨z,H,I,rw',q⟩
 by_cases h0:0<=i
 ·have hj:i.toNat=j:=by
   rw[yfN h0 h5]at h1
   exact yaM h1
  exact item_listR pl.isList h0 (by omega) (by rw[hj];simpa using ew) fin hs
 ·have hj:(i+(its.toArray.size:Int)).toNat=j:=by
   rw[yfe (by omega) h4]at h1
   rw[sT_,<-hl]
   exact yaM h1
  exact yel (x:=w) pl.isList.typeIs slot_list_getitem.lookup
   (wpAny_getItem_list_neg (Q:=λr s'=>r=w/\EP X pins σ Q r s') pl.isList (by omega) (by rw[sT_]<;>omega) (by omega) (by rw[hj];simpa using ew) ⟨rfl,fin⟩) hs
theorem qnn:IxR X (qpa X.K):=by
 intro value slice pins s σ H x y v u Q I rx ry h hs
 obtain⟨p,xs,i,z,rfl,rfl,hq,he,q⟩:=h
 cases rx
 obtain⟨t,rfl⟩:=ry
 obtain⟨its,r,pl,hz⟩:=I.tuple hq
 obtain⟨j,h1,h2,h3,h4,h5⟩:=qht he
 obtain⟨w,ew,rw'⟩:=r.get h2
 have hl:=r.length
 have hn:=qdW
 have fin:EP X pins σ Q w s:=⟨z,H,I,rw',q⟩
 exact yel (x:=w) pl.typeIs slot_tuple_getitem.lookup
  (getItem_tuple (j:=j) (Q:=λr s'=>r=w/\EP X pins σ Q r s') pl (by omega) (by omega) (by rw[sT_,<-hl];exact h1) (by simpa using ew) ⟨rfl,fin⟩) hs
theorem qgw (its:List Value) (n j:Nat) (u:Value):yaK (·.setIfInBounds j u) {cls:=.type "list",data:=.seq its.toArray n}={cls:=.type "list",data:=.seq (its.set j u).toArray n}:=by
 simp[yaK]
theorem Inv.lst {pins:List (Addr×Obj)} {σ:St} {H:Hp} {s:yab} {p:Addr} {xs:List V} (I:Inv X pins σ H s) (h:H p=some (.lst xs)) :
  ∃(its:List Value)(n:Nat),zM xs its/\s.heap.get? p=some {cls:=.type "list",data:=.seq its.toArray n}/\xs.length<=yaq:=by
 obtain⟨z,its,n,r,e⟩:=I.hok p _ h
 exact⟨its,n,r,e,z⟩
theorem Inv.lstUpd {pins:List (Addr×Obj)} {σ:St} {H:Hp} {s:yab} {p:Addr} {xs ys:List V} {its its':List Value} {n n':Nat} {f:Obj->Obj} (I:Inv X pins σ H s) (h:H p=some (.lst xs))
  (ho:s.heap.get? p=some {cls:=.type "list",data:=.seq its.toArray n}) (hf:f {cls:=.type "list",data:=.seq its.toArray n}={cls:=.type "list",data:=.seq its'.toArray n' }) (r:zM ys its') (hz:ys.length<=yaq) (t:Nat) :
  Inv X pins σ (upd H p (.lst ys)) {s with heap:=s.heap.update p f,toks:=t}:=by
 have e:(s.heap.update p f).get? p=some {cls:=.type "list",data:=.seq its'.toArray n' }:=by
  rw[Heap.get?_update_self f ho (by rw[hf]<;>rfl),hf]
 refine I.write (x:=p) (e:=p) (by rw[h];trivial) (.inl rfl) (λb u hb q=>(Heap.get?_update_other _ _ (ybk hb)).trans q) ⟨_,e⟩ ?_
 exact⟨hz,its',n',r,e⟩
def qpb:V->V->V->Hp->(Hp->Prop)->Prop:=λo i v H Q=>∃p xs k j,o=.ref p/\i=.int k/\H p=some (.lst xs)/\ixN xs.length k=some j/\Q (upd H p (.lst (xs.set j v)))
theorem qjd:qpT X qpb:=by
 intro pins s σ H o i v ov iv u Q I ro ri rv h
 obtain⟨p,xs,k,j,rfl,rfl,hp,hj,q⟩:=h
 cases ro
 obtain⟨t,rfl⟩:=ri
 obtain⟨its,n,r,ho,hz⟩:=I.lst hp
 obtain⟨h1,h2,h3,h4⟩:=qhs hj
 have hl:=r.length
 have hn:=qdW
 have I':Inv X pins σ (upd H p (.lst (xs.set j v))) {s with heap:=s.heap.update p (yaK (·.setIfInBounds j u))} :=
  I.lstUpd hp ho (qgw its n j u) (r.set rv j) (by rw[lS_];exact hz) s.toks
 by_cases h0:0<=k
 ·have hk:k.toNat=j:=by
   rw[yfN h0 h4]at h1
   exact yaM h1
  exact PySem.W.ki_setAt ho h0 (by omega) (by rw[sT_,<-hl];exact h4) (by rw[hk];exact⟨_,I',q⟩)
 ·have hk:(k+(its.toArray.size:Int)).toNat=j:=by
   rw[yfe (by omega) h3]at h1
   rw[sT_,<-hl]
   exact yaM h1
  exact PySem.W.ki_setBack ho (by omega) (by rw[sT_,<-hl];exact h3) (by omega) (by rw[hk];exact⟨_,I',q⟩)
theorem qd0 (lo hi:Option Int) (n:Nat):(yb7 lo hi none n).1=((HT.sIx n 0 lo:Nat):Int)/\(yb7 lo hi none n).2.1=((HT.sIx n n hi:Nat):Int)/\(yb7 lo hi none n).2.2=1:=by
 refine⟨?_,?_,rfl⟩
 ·cases lo with
  |none=>simp[yb7,HT.sIx]
  |some i=>
   simp only[yb7,HT.sIx,Option.getD_none,show(1:Int)>0 by decide,if_true]
   by_cases h:i<0
   ·simp only[h,if_true]<;>omega
   ·simp only[h,if_false]<;>omega
 ·cases hi with
  |none=>simp[yb7,HT.sIx]
  |some i=>
   simp only[yb7,HT.sIx,Option.getD_none,show(1:Int)>0 by decide,if_true]
   by_cases h:i<0
   ·simp only[h,if_true]<;>omega
   ·simp only[h,if_false]<;>omega
theorem qdd (its:List Value) (lo hi:Option Int):yff its.toArray lo hi none=((its.drop (HT.sIx its.length 0 lo)).take (HT.sIx its.length its.length hi-HT.sIx its.length 0 lo)).toArray:=by
 obtain⟨h1,h2,h3⟩:=qd0 lo hi its.toArray.size
 unfold yff
 rw[h1,h2,h3]
 simp only[sliceRange_one,pick_run,sT_]<;>rfl
def qqO(K:yan):V->Option Int->Option Int->Hp->VK->Prop:=λx lo hi H Q=>∃a xs,x=.ref a/\SqL K H a xs/\∀p,H p=none->Q (.ref p) (upd H p (.lst (qiU xs lo hi)))
theorem qll:SlR X (qqO X.K):=by
 intro pins s σ H x v vl vu lo hi sl Q I rx hs pl pu h
 obtain⟨a,xs,rfl,hx,q⟩:=h
 cases rx
 obtain⟨its,r,ht,hz⟩:=I.list hx
 have hlen:=r.length
 refine⟨"list",_,slot_list_getitem.lookup,ht.isList.typeIs,?_⟩
 refine ydX ht.isList hs pl pu .none (by simp) ?_ (by rw[sT_]<;>omega)
 rw[qdd,<-hlen]
 refine⟨.ref s.heap.objs.size,_,I.laid (t':=s.toks) (o:=.lst (qiU xs lo hi)) (λb ob q=>Heap.get?_push_of_some _ q) (yac _) ?_,rfl,q _ (I.hok.fresh (yac _))⟩
 exact⟨yau (qb2 xs lo hi) hz,_,0,(r.drop (HT.sIx xs.length 0 lo)).take (HT.sIx xs.length xs.length hi-HT.sIx xs.length 0 lo),Heap.get?_push_size _ rfl⟩
def qbH:V->Bool
 |.non=>true
 |.bl _=>true
 |.int _=>true
 |.str _=>true
 |_=>false
def eqV:V->V->Bool
 |.non,.non=>true
 |.bl a,.bl b=>a==b
 |.bl a,.int b=>(if a then 1 else 0)==b
 |.int a,.bl b=>a==(if b then 1 else 0)
 |.int a,.int b=>a==b
 |.str a,.str b=>a==b
 |_,_=>false
theorem qno {A:yas} {s:yab} {y x:V} {u v:Value} (ry:yg y u) (rx:yg x v) (fy:qbH y=true) (fx:qbH x=true):yeG A s u v (eqV y x):=by
 cases y with
 |non=>
  cases ry
  cases x with
  |non=>cases rx;exact SeqAt.EqAt.same _
  |bl b=>cases rx;exact SeqAt.EqAt.none_bool b
  |int b=>obtain⟨t,rfl⟩:=rx;exact SeqAt.EqAt.none_int b t
  |str b=>obtain⟨t,rfl⟩:=rx;exact SeqAt.EqAt.none_str b t
  |_=>exact absurd (show false=true from fx) yap
 |bl a=>
  cases ry
  cases x with
  |non=>cases rx;exact SeqAt.EqAt.bool_none a
  |bl b=>cases rx;exact yc8 a b
  |int b=>obtain⟨t,rfl⟩:=rx;exact SeqAt.EqAt.bool_int a b t
  |str b=>obtain⟨t,rfl⟩:=rx;exact SeqAt.EqAt.bool_str a b t
  |_=>exact absurd (show false=true from fx) yap
 |int a=>
  obtain⟨t',rfl⟩:=ry
  cases x with
  |non=>cases rx;exact SeqAt.EqAt.int_none a t'
  |bl b=>cases rx;exact SeqAt.EqAt.int_bool a t' b
  |int b=>obtain⟨t,rfl⟩:=rx;exact ydv a t' b t
  |str b=>obtain⟨t,rfl⟩:=rx;exact ye3 a t' b t
  |_=>exact absurd (show false=true from fx) yap
 |str a=>
  obtain⟨t',rfl⟩:=ry
  cases x with
  |non=>cases rx;exact SeqAt.EqAt.str_none a t'
  |bl b=>cases rx;exact SeqAt.EqAt.str_bool a t' b
  |int b=>obtain⟨t,rfl⟩:=rx;exact ye4 a t' b t
  |str b=>obtain⟨t,rfl⟩:=rx;exact SeqAt.EqAt.str_str a t' b t
  |_=>exact absurd (show false=true from fx) yap
 |_=>exact absurd (show false=true from fy) yap
def eqU (x:V) (u:Value):Bool:=match u with
 |.none=>eqV .non x
 |.bool b=>eqV (.bl b) x
 |.int i _=>eqV (.int i) x
 |.str z _=>eqV (.str z) x
 |_=>false
theorem qkh {x y:V} {u:Value} (r:yg y u) (f:qbH y=true):eqU x u=eqV y x:=by
 cases y with
 |non=>cases r;rfl
 |bl b=>cases r;rfl
 |int i=>obtain⟨t,rfl⟩:=r;rfl
 |str z=>obtain⟨t,rfl⟩:=r;rfl
 |_=>exact absurd (show false=true from f) yap
theorem qeU {x:V}:∀{xs:List V}{us:List Value},zM xs us->xs.all qbH=true->us.any (eqU x)=xs.any λy=>eqV y x
 |_,_,.nil,_=>rfl
 |y::xs,u::us,.cons r t,f=>by
  rw[yci,yal]at f
  rw[ycS,ycS,qkh r f.1,qeU t f.2]
theorem qde {A:yas} {s:yab} {x:V} {v:Value} (rx:yg x v) (fx:qbH x=true):∀{xs:List V}{us:List Value},zM xs us->xs.all qbH=true->∀u∈us,yeG A s u v (eqU x u)
 |_,_,.nil,_=>λu hu=>by cases hu
 |y::xs,u::us,.cons r t,f=>λu' hu=>by
  rw[yci,yal]at f
  rcases List.mem_cons.mp hu with rfl|hu
  ·rw[qkh r f.1];exact qno r rx f.1 fx
  ·exact qde rx fx t f.2 u' hu
def inV(x:V)(xs:List V):Bool:=xs.any λy=>eqV y x
def rIn(K:yan)(neg:Bool):R2:=λx y H Q=>∃p xs,y=.ref p/\(SqL K H p xs\/SqT K H p xs)/\qbH x=true/\xs.all qbH=true/\Q (.bl (if neg then !inV x xs else inV x xs)) H
theorem qd1:OpR X (yaL .NotIn) (rIn X.K true):=by
 intro pins s σ H x y v u Q I rx ry h
 obtain⟨p,xs,rfl,hq,fx,fs,q⟩:=h
 cases ry
 rcases hq with hq|hq
 ·obtain⟨its,r,pl,hz⟩:=I.list hq
  refine SeqAt.notIn_listAt (eqU x) pl.isList (λw hw=>qde rx fx r fs w (by simpa using hw)) ⟨.bl _,H,I,rfl,?_⟩
  rw[show its.toArray.any (eqU x)=its.any (eqU x) by simp,qeU r fs]
  exact q
 ·obtain⟨its,r,pl,hz⟩:=I.tuple hq
  refine SeqAt.notIn_tupleAt (eqU x) pl (λw hw=>qde rx fx r fs w (by simpa using hw)) ⟨.bl _,H,I,rfl,?_⟩
  rw[show its.toArray.any (eqU x)=its.any (eqU x) by simp,qeU r fs]
  exact q
theorem qd2:uC X (.builtin "len") (λxs H Q=>∃p ys,xs=[.ref p]/\(SqL X.K H p ys\/SqT X.K H p ys)/\Q (.int ys.length) H):=by
 intro pins s σ H xs us Q I r h
 obtain⟨p,ys,rfl,hq,q⟩:=h
 obtain⟨u,rfl,rx⟩:=qhm r
 cases rx
 have hn:=qdW
 rcases hq with hq|hq
 ·obtain⟨its,r',pl,hz⟩:=I.list hq
  have hlen:=r'.length
  exact Calls.call_len_list pl.isList (by simp only[sT_]<;>omega) ⟨.int ys.length,H,I.tok _,⟨s.toks+1,by rw[sT_,hlen]⟩,q⟩
 ·obtain⟨its,r',pl,hz⟩:=I.tuple hq
  have hlen:=r'.length
  exact len_tuple pl (by simp only[sT_]<;>omega) ⟨.int ys.length,H,I.tok _,⟨s.toks+1,by rw[sT_,hlen]⟩,q⟩
theorem qd3:uC X (.builtin "len") (λxs H Q=>∃z,xs=[.str z]/\z.length<=yaq/\Q (.int z.length) H):=by
 intro pins s σ H xs us Q I r h
 obtain⟨z,rfl,hz,q⟩:=h
 obtain⟨u,rfl,t,rfl⟩:=qhm r
 have hn:=qdW
 exact len_str (by omega) ⟨.int z.length,H,I.tok _,⟨_,rfl⟩,q⟩
theorem uC.or {f:Value} {r r':List V->Hp->VK->Prop} (h:uC X f r) (h':uC X f r'):uC X f (λxs H Q=>r xs H Q\/r' xs H Q):=by
 intro pins s σ H xs us Q I rs q
 rcases q with q|q
 ·exact h pins s σ H xs us Q I rs q
 ·exact h' pins s σ H xs us Q I rs q
theorem qbz:uC X (.type "list") (λxs H Q=>∃p ys,xs=[.ref p]/\(SqL X.K H p ys\/SqT X.K H p ys)/\∀l,H l=none->Q (.ref l) (upd H l (.lst ys))):=by
 intro pins s σ H xs us Q I r h
 obtain⟨p,ys,rfl,hq,q⟩:=h
 obtain⟨u,rfl,rx⟩:=qhm r
 cases rx
 have fin:∀(its:List Value),zM ys its->ys.length<=yaq->∀(h':Heap)(c':Nat),(∀b o',s.heap.get? b=some o'->h'.get? b=some o') ->
   h'.get? s.heap.objs.size=some {cls:=.type "list",dict:=none,data:=.seq its.toArray c',slots := #[]}->EP X pins σ Q (.ref s.heap.objs.size) {s with heap:=h' }:=λits r' hz h' c' kp e=>
  ⟨.ref s.heap.objs.size,_,I.laid (t':=s.toks) kp (yac _) (show uB X.prog X.w _ h' _ (.lst ys) from⟨hz,its,c',r',e⟩),rfl,q _ (I.hok.fresh (yac _))⟩
 rcases hq with hq|hq
 ·obtain⟨its,r',pl,hz⟩:=I.list hq
  have hlen:=r'.length
  obtain⟨o,ho,hc,n,hd⟩:=pl.isList
  exact call_list_seq p (.inl rfl) ho hc hd (λh' c' kp e=>fin its r' hz h' c' kp e) (by simp only[sT_]<;>omega)
 ·obtain⟨its,r',pl,hz⟩:=I.tuple hq
  have hlen:=r'.length
  obtain⟨o,ho,hc,n,hd⟩:=pl
  exact call_list_seq p (.inr rfl) ho hc hd (λh' c' kp e=>fin its r' hz h' c' kp e) (by simp only[sT_]<;>omega)
theorem qdf:uC X (.type "tuple") (λxs H Q=>∃p ys,xs=[.ref p]/\((SqL X.K H p ys/\∀l,H l=none->Q (.ref l) (upd H l (.tup ys)))\/(SqT X.K H p ys/\Q (.ref p) H))):=by
 intro pins s σ H xs us Q I r h
 obtain⟨p,ys,rfl,h⟩:=h
 obtain⟨u,rfl,rx⟩:=qhm r
 cases rx
 rcases h with⟨hq,q⟩|⟨hq,q⟩
 ·obtain ⟨its,r',pl,hz⟩:=I.list hq
  have hlen:=r'.length
  refine call_tuple_list pl.isList (λh' kp=>?_) (by simp only[sT_]<;>omega)
  have I1:Inv X pins σ H {s with heap:=h' }:=I.kept (t':=s.toks) kp
  have I2:Inv X pins σ (upd H h'.objs.size (.tup ys)) {s with heap:=h'.push {cls:=.type "tuple",data:=.seq its.toArray} } :=
   I1.laid (t':=s.toks) (λb o e=>Heap.get?_push_of_some _ e) (yac _) (show uB X.prog X.w _ _ _ (.tup ys) from⟨hz,its,r',ydt _ _⟩)
  exact⟨.ref h'.objs.size,_,I2,rfl,q _ (I1.hok.fresh (yac _))⟩
 ·obtain⟨its,r',pl,hz⟩:=I.tuple hq
  exact call_tuple_same pl ⟨.ref p,H,I,rfl,q⟩
def tyV (K:yan) (T:String) (x:V) (H:Hp):Prop:=match x with
 |.str _=>T="str"
 |.int _=>T="int"
 | .ref p=>(T="list"/\∃xs,SqL K H p xs)\/(T="tuple"/\∃o,K.lookup p=some o/\o.cls=.type "tuple"/\o.dict=none) \/
   (T="dict"/\((∃kvs,H p=some (.dK kvs))\/∃kvs,H p=some (.dT kvs)))\/(T="set"/\∃S n,H p=some (.set S n))
 |_=>False
theorem qnp {pins:List (Addr×Obj)} {σ:St} {H:Hp} {s:yab} {T:String} {x:V} {v:Value} (I:Inv X pins σ H s) (r:yg x v) (ty:tyV X.K T x H) :
  s.TypeIs v T/\∀a,v=.ref a->∃ob,s.heap.get? a=some ob/\ob.dict=none:=by
 cases x with
 |str z=>
  obtain⟨t,rfl⟩:=r
  cases (show T="str" from ty)
  exact⟨typeIs_str s z t,λ_ e=>nomatch e⟩
 |int i=>
  obtain⟨t,rfl⟩:=r
  cases (show T="int" from ty)
  exact⟨ydM s i t,λ_ e=>nomatch e⟩
 | ref p=>
  cases r
  rcases ty with⟨rfl,xs,hq⟩|⟨rfl,o,hk,hc,hd⟩|⟨rfl,hk⟩|⟨rfl,S,n,hk⟩
  ·obtain⟨its,_,pl,_⟩:=I.list hq
   refine⟨pl.isList.typeIs,λa e=>?_⟩
   cases e
   obtain⟨o,n,e,c,hd,_⟩:=pl
   exact⟨o,e,hd⟩
  ·refine⟨⟨o,I.kIn p o hk,hc⟩,λa e=>?_⟩
   cases e
   exact⟨o,I.kIn _ o hk,hd⟩
  ·have z:∃o,s.heap.get? p=some o/\o.ExactDict:=by
    rcases hk with⟨kvs,hk⟩|⟨kvs,hk⟩
    ·obtain⟨_,_,_,_,o,_,_,e,ex,_⟩:=I.hok p _ hk
     exact⟨o,e,ex⟩
    ·obtain⟨_,_,_,_,o,_,_,e,ex,_⟩:=I.hok p _ hk
     exact⟨o,e,ex⟩
   obtain⟨o,e,ex⟩:=z
   refine⟨⟨o,e,ex.1⟩,λa e2=>?_⟩
   cases e2
   exact⟨o,e,ex.2.1⟩
  ·obtain⟨o,_,_,_,e,ex,_⟩:=I.hok p _ hk
   refine⟨⟨o,e,ex.1⟩,λa e2=>?_⟩
   cases e2
   exact⟨o,e,ex.2.1⟩
 |_=>exact ya5 ty
def tBM(K:yan)(T:String)(r:V->List V->Hp->VK->Prop)(to:TE)(t:TA):TE:=λσ H Q=>to σ H λx H1=>tyV K T x H1/\t σ H1 λxs H2=>r x xs H2 Q
variable{o e:Expr}{es:List Expr}{to:TE}{t:TA}{name:Str}{apos cpos:Pos}{T id:String}{r:V->List V->Hp->VK->Prop}
theorem qnq (pa:PlainAttrs T) (slot:Slot T name id) (hty:typeOf (.builtin id)=pure (.type "method_descriptor")) (hm:MtR X id r) (ho:PE X o to) (ha:PA X (e::es) t)
  (hbase:ycT o name X.env (eval o X.env)=eval o X.env:=by rfl)
  (hfew:((yaR cpos (yah (e::es) X.env)).all (λx => !x.1)&&(yeH cpos (ydq [] X.env)).all (λx=>x.1.isSome)
   && decide ((e::es).length+([]:List ycm).length+(if([]:List ycm).isEmpty then 0 else 1)<30))=true:=by rfl)
  (hline:(apos.endLine==cpos.line)=true:=by rfl) (hs:yah (e::es) X.env=(false,eval e X.env)::yah es X.env:=by rfl) (hplain:(yaR cpos (yah es X.env)).any (·.1)=false:=by rfl) :
  PE X (.Call (.Attribute o name apos) (e::es) [] cpos) (tBM X.K T r to t):=by
 intro pins s σ H Q I h
 refine wpAny_Call_method_late hbase hfew hline rfl (thn (ho pins s σ H _ I h) λv s1 ⟨x,H1,I1,r1,ty,q1⟩=>?_)
 obtain⟨h1,h2⟩:=qnp I1 r1 ty
 refine⟨T,id,pa,slot,hty,h1,h2,?_⟩
 have hA:=ha cpos pins s1 σ H1 _ I1 q1
 rw[hs]at hA |-
 refine Calls.callWith_builtin (by show(false||(yaR cpos (yah es X.env)).any (·.1))=false;rw[hplain]<;>rfl) (yeI ?_)
 exact thn hA λus s2 ⟨vs,H2,I2,r2,q2⟩=>hm pins s2 σ H2 x vs v us Q I2 r1 r2 q2
/- xs.append(e),list.index on a module's tuple .. are MtR facts of 06m -/
end
end L2
namespace L2
open PySem PySem.Spec PyProof.Rows
def MtM (X:Cx) (id:String) (r:V->List V->Hp->VK->Prop):Prop :=
 ∀ (pins:List (Addr×Obj)) (s:yab) (σ:St) (H:Hp) (x:V) (xs:List V) (v:Value) (us:List Value) (Q:VK),Inv X pins σ H s->yg x v->zM xs us->r x xs H Q ->
  wpAny (model X.prog X.w) X.A (call (.builtin id) (v::us)) (EP X pins σ Q) X.xe s
theorem zM.one:∀{x:V}{us:List Value},zM [x] us->∃u,us=[u]/\yg x u
 |_,_,.cons r .nil=>⟨_,rfl,r⟩
theorem zM.two:∀{x y:V}{us:List Value},zM [x,y] us->∃u v,us=[u,v]/\yg x u/\yg y v
 |_,_,_,.cons r (.cons q .nil)=>⟨_,_,rfl,r,q⟩
theorem zM.eraseIdx:∀{xs:List V}{us:List Value}(i:Nat),zM xs us->zM (xs.eraseIdx i) (us.eraseIdx i)
 |_,_,_,.nil => .nil
 |_,_,0,.cons _ t=>t
 |_,_,i+1,.cons r t => .cons r (zM.eraseIdx i t)
theorem zM.reverse {xs:List V} {us:List Value} (h:zM xs us):zM xs.reverse us.reverse:=by
 induction h with
 |nil=>exact .nil
 |cons r t ih=>rw[ycJ,ycJ];exact zM.append ih (.cons r .nil)
theorem zM.rep {xs:List V} {us:List Value} (h:zM xs us):∀k:Nat,zM (yat k xs).flatten (yat k us).flatten
 |0 => .nil
 |k+1=>by
  rw[rS_,rS_,ybT,ybT]
  exact zM.append h (zM.rep h k)
theorem qb3 (its:List Value):∀(k:Nat)(acc:List Value),
  yeJ (λx1 x2=>x1++x2) acc.toArray (yat k its.toArray)=(acc++(yat k its).flatten).toArray
 |0,acc=>by simp
 | k+1,acc=>by
  have e:acc.toArray++its.toArray=(acc++its).toArray:=by simp
  have e2:(acc++its)++(yat k its).flatten=acc++(yat (k+1) its).flatten:=by
   rw[rS_,ybT,aA_]
  rw[<-e2,<-qb3 its k (acc++its),<-e,rS_,fo_]
section
variable{X:Cx}{pins:List (Addr×Obj)}{σ:St}{H:Hp}{s:yab}{l b:Addr}{xs ys zs:List V}
theorem Inv.lset {its its':List Value} {n:Nat} {f:Array Value->Array Value} {t':Nat} (I:Inv X pins σ H s) (hH:H l=some (.lst xs))
  (e:s.heap.get? l=some {cls:=.type "list",data:=.seq its.toArray n}) (hf:f its.toArray=its'.toArray) (hv:zM ys its') (hz:ys.length<=yaq) :
  Inv X pins σ (upd H l (.lst ys)) {s with heap:=s.heap.update l (yaK f),toks:=t' }:=by
 have q:=PySem.IsL.update e f
 rw[hf]at q
 refine I.write (x:=l) (e:=l) (by rw[hH];exact trivial) (.inl rfl) (λb' u hb hu=>(Heap.get?_update_other s.heap (yaK f) (ybk hb)).trans hu) ⟨_,q⟩ ?_
 exact⟨hz,its',_,hv,q⟩
theorem Inv.lnew {its:List Value} {t':Nat} (I:Inv X pins σ H s) (hv:zM ys its) (hz:ys.length<=yaq) :
  Inv X pins σ (upd H s.heap.objs.size (.lst ys)) {s with heap:=s.heap.push {cls:=.type "list",data:=.seq its.toArray},toks:=t' } :=
 I.laid (λ_ _ q=>Heap.get?_push_of_some _ q) (yac _) ⟨hz,its,0,hv,Heap.get?_push_size _ rfl⟩
theorem Inv.fresh(I:Inv X pins σ H s):H s.heap.objs.size=none:=I.hok.fresh (yac _)
theorem Inv.lstM (I:Inv X pins σ H s) (hH:H l=some (.lst xs)):xs.length<=yaq/\∃(its:List Value)(n:Nat),zM xs its/\xs.length=its.length/\s.heap.get? l=some {cls:=.type "list",data:=.seq its.toArray n}:=by
 obtain⟨z,its,n,r,e⟩:=I.hok l _ hH
 exact⟨z,its,n,r,r.length,e⟩
theorem qfI {n:Nat} (h:n<=yaq):ybY n=false:=by
 unfold ybY
 exact decide_eq_false (by omega)
end
section
variable{X:Cx}
def qlm:V->List V->Hp->VK->Prop:=λx vs H Q=>∃l xs y,x=.ref l/\vs=[y]/\H l=some (.lst xs)/\xs.length<yaq/\Q .non (upd H l (.lst (xs++[y])))
theorem qb4:MtM X "list.append" qlm:=by
 intro pins s σ H x vs v us Q I rx rv h
 obtain⟨l,xs,y,rfl,rfl,hH,hz,q⟩:=h
 cases rx
 obtain⟨u,rfl,ru⟩:=rv.one
 obtain⟨z,its,n,r,hl,e⟩:=I.lstM hH
 refine ybU F.slot_list_append ⟨_,e,rfl⟩ F.entry_list_append (F.args_list_append_2 _ _) (PySem.list_append l its.toArray n u (by rw[sT_];omega)) ⟨e,?_⟩
 refine⟨.non,_,I.lset (its':=its++[u]) hH e (by simp) (r.append (.cons ru .nil)) ?_,rfl,q⟩
 rw[lA_,yaJ]
 omega
def qln:V->List V->Hp->VK->Prop:=λx vs H Q=>∃l b xs zs,x=.ref l/\vs=[.ref b]/\H l=some (.lst xs)/\H b=some (.lst zs)/\xs.length+zs.length<=yaq/\Q .non (upd H l (.lst (xs++zs)))
theorem qnr:MtM X "list.extend" qln:=by
 intro pins s σ H x vs v us Q I rx rv h
 obtain⟨l,b,xs,zs,rfl,rfl,hH,hB,hz,q⟩:=h
 cases rx
 obtain⟨u,rfl,ru⟩:=rv.one
 cases ru
 obtain⟨z,its,n,r,hl,e⟩:=I.lstM hH
 obtain⟨z2,its2,n2,r2,hl2,e2⟩:=I.lstM hB
 have hsz:its.toArray.size+its2.toArray.size<=yaq:=by rw[sT_,sT_];omega
 have hlong:¬(!its.toArray.isEmpty&&ybY (its.toArray.size+its2.toArray.size))=true:=by
  rw[qfI hsz,yet]
  exact yap
 refine ybU F.slot_list_extend ⟨_,e,rfl⟩ F.entry_list_extend (F.args_list_extend_2 _ _)
  (AutoSeq1.list_extend_list_list_0 l its.toArray n b its2.toArray n2 hlong (by rw[sT_];omega) (by omega)) ⟨e,e2,?_⟩
 refine⟨.non,_,I.lset (its':=its++its2) hH e (by simp) (r.append r2) ?_,rfl,q⟩
 rw[lA_]
 omega
def qp0:R2:=λx y H Q=>∃l b xs zs,x=.ref l/\y=.ref b/\H l=some (.lst xs)/\H b=some (.lst zs)/\xs.length+zs.length<=yaq/\∀p,H p=none->Q (.ref p) (upd H p (.lst (xs++zs)))
theorem qns:OpR X (ybp .Add) qp0:=by
 intro pins s σ H x y v u Q I rx ry h
 obtain⟨l,b,xs,zs,rfl,rfl,hH,hB,hz,q⟩:=h
 cases rx
 cases ry
 obtain⟨z,its,n,r,hl,e⟩:=I.lstM hH
 obtain⟨z2,its2,n2,r2,hl2,e2⟩:=I.lstM hB
 refine PySem.P.add_list e e2 ?_ (by rw[sT_,sT_];omega)
 have ea:its.toArray++its2.toArray=(its++its2).toArray:=by simp
 rw[ea]
 exact⟨.ref _,_,I.lnew (t':=s.toks) (r.append r2) (by rw[lA_];omega),rfl,q _ I.fresh⟩
def qp1:R2:=λx y H Q=>∃l k xs,x=.ref l/\y=.int k/\H l=some (.lst xs) /\ -(2 ^ 63)<=k/\k<2 ^ 63/\xs.length*k.toNat<=yaq /\
 ∀p,H p=none->Q (.ref p) (upd H p (.lst (yat k.toNat xs).flatten))
theorem qeV {α:Type} (xs:List α) (k:Nat):(yat k xs).flatten.length=k*xs.length:=by
 induction k with
 |zero=>simp
 |succ k ih=>rw[rS_,ybT,lA_,ih,yfg,Nat.add_comm]
theorem qnt:OpR X (ybp .Mult) qp1:=by
 intro pins s σ H x y v u Q I rx ry h
 obtain⟨l,k,xs,rfl,rfl,hH,h1,h2,hz,q⟩:=h
 cases rx
 obtain⟨t,rfl⟩:=ry
 obtain⟨z,its,n,r,hl,e⟩:=I.lstM hH
 have hlen:its.toArray.size*k.toNat<=yaq:=by rw[sT_,<-hl];exact hz
 have hcap:¬its.toArray.size*k.toNat>(2 ^ 63-1)/8:=by
  have:(yaq:Nat)<=(2 ^ 63-1)/8:=by decide
  omega
 have hfit:¬(!Builtin.List.listFitsIndex k)=true:=by
  rw[fitsIndex_both h1 h2]
  exact yap
 have hlong:¬ybY (its.toArray.size*k.toNat)=true:=by
  rw[qfI hlen]
  exact yap
 have hnew:yeJ (λx1 x2=>x1++x2) #[] (yat (if its.toArray.isEmpty=true then 0 else k.toNat) its.toArray)=(yat k.toNat its).flatten.toArray:=by
  have f0:∀m:Nat,yeJ (λx1 x2=>x1++x2) #[] (yat m its.toArray)=(yat m its).flatten.toArray:=λm=>by
   have:=qb3 its m []
   rw[ybz]at this
   exact this
  rw[f0]
  cases its with
  |nil=>simp
  |cons a r'=>rw[if_neg (by simp)]
 refine ydN (T:="list") (U:="int") (by decide) ⟨_,e,rfl⟩ (λs'=>ydM s' k t) noFill_list_mul F.fills_int_mul yc9 repeat_list F.slot_int_index.lookup
  (ybU yc9 (ydM s k t) F.entry_int_rmul (yfA _ _) (int___rmul___int_list k t l its.toArray n)
   ⟨e,rfl,⟨_,e,rfl⟩,ybU F.slot_list_mul ⟨_,e,rfl⟩ F.entry_list_mul (F.args_list_mul_2 _ _) (AutoListH.list___mul___list_int_3 l its.toArray n k t hfit hcap hlong) ⟨e,?_⟩⟩)
 rw[hnew]
 exact⟨.ref _,_,I.lnew (t':=s.toks) (r.rep k.toNat) (by rw[qeV,yfh];exact hz),rfl,q _ I.fresh⟩
end
section
variable{prog:yar}{w:World}{A:yas}{E:Value->yab->Prop}{s:yab}
set_option maxRecDepth 100000 in
end
end L2
namespace Att
open PySem PySem.W PySem.Calls PyProof.Rows
theorem qb5 {P:Params} {h:Heap}:∀(ns:List Int)(vs:List Value),WellAll P h vs (ns.map WData.int)->ybP vs ns:=by
 intro ns
 induction ns with
 |nil=>
  intro vs w
  rw[yca]at w
  cases w
  exact .nil
 | cons n ns ih=>
  intro vs w
  rw[mC_]at w
  cases w with
  |cons a b=>
   cases a
   exact .cons _ _ (ih _ b)
theorem qhv {l:OpenLaw} {n:Nat} (hn:l.most=some n) {P:Params} {h:Heap} {args:List WData} {vals:List Value}
  (hpre:l.row.toRowW.claim.pre args=true) (hwl:WellAll P h vals args) :
  ∃a vs ns,vals=[yaj a]/\args=[WData.list (ns.map WData.int)]/\h.get? a=some {cls:=.type "list",data:=.seq vs.toArray}/\ybP vs ns/\ns.length<=n:=by
 have hsh:WShape.hasAll [] args [.list .int]=true:=(pre_splitW hpre).1
 have hc:l.pre.holds [] {args:=args}=true:=(pre_splitW hpre).2
 obtain⟨d,r,rfl,h1,h2⟩:=hasAllW_cons hsh
 obtain rfl:=hasAllW_nil h2
 obtain⟨xs,rfl,h3⟩:=hasW_list h1
 obtain⟨ns,rfl⟩:=items_int h3
 have hlen:ns.length<=n:=by
  unfold OpenLaw.pre at hc
  have h4:(WTm.not (.lt (.lit (.int (n:Int))) (.len (.arg 0)))).holds [] {args:=[.list (ns.map .int)]}=true:=by
   have h4:=(holds_andW hc).1
   rw[hn]at h4
   exact h4
  have h5:=condW_of h4 (w_not (w_lt w_lit (w_len_list (w_arg rfl))))
  rw[lM_]at h5
  refine ycX λq=>?_
  have q':(n:Int)<((ns.length:Nat):Int):=by omega
  first
   |(rw[decide_eq_true q']at h5;exact absurd h5 (by decide))
   |(simp at h5;omega)
 cases hwl with
 |cons w1 w2=>
  cases w2
  cases w1 with
  |list ho hall=>exact⟨_,_,ns,rfl,rfl,ho,qb5 ns _ hall,hlen⟩
theorem qhw (l:OpenLaw) (args:List WData):l.row.toRowW.claim.post args (.bool true) args=true :=
 postW_of (r:=l.row.toRowW) (X:=(true==true))
  (show WShape.has [] (.bool true) .bool=true by first|rfl|decide|simp[WShape.has,WShape.arms,WShape.armsAll])
  (show(WTm.eq .res (.lit (.bool true))).value [] {args:=args,res:=some (.bool true),after:=args}=some (.bool (true==true))from w_eq_bool (w_res rfl) w_lit) rfl
theorem attach_call {l:OpenLaw} {n:Nat} {q:yar} {loose:List Str} {XP:(Str->Option Value)->Heap->Prop} {YP:World->Heap->Prop} {d:DefRec}
  (hn:l.most=some n) (hdf:d.params.defaults=[])
  (call:∀(w:World)(s₀ sQ:yab)(mg mb:Str->Option Value)(fa:Addr)(o:Obj)(pm cd doc:Value)(a:Addr)(vs:List Value)(ns:List Int),
   Ground q loose [] XP w s₀ mg mb sQ.heap->YP w sQ.heap ->
   sQ.heap.get? fa=some o->o.data=.func (docDef d.name d.params d.body d.scope pm cd doc)->sQ.heap.CodeRec cd d.name->mg d.name=some (.ref fa) ->
   sQ.heap.get? a=some {cls:=.type "list",data:=.seq vs.toArray}->ybP vs ns->ns.length<=n->sQ.gens = #[] ->
   ybW (model l.prog w) ydR (.call (.ref fa) ⟨[.ref a],[]⟩) (λr s'=>r=.ok (.ret (.bool true))/\OldK sQ.heap s'.heap/\s'.os=sQ.os/\ycl s'.gens) sQ) :
  WalkO q loose XP YP l.row.toRowW d [] (λf vs=>yfW f vs):=by
 intro w s₀ sQ mg mb G Y fa o pm cd doc dV kV ho hd hcd hD hmg hg args vals as hpre hlay hrd hwl hlo
 obtain rfl:dV=.none:=Dflts.none hD hdf
 obtain rfl:kV=.none:=Dflts.noKw hD
 obtain⟨a,vs,ns,rfl,rfl,hobj,hints,hlen⟩:=qhv hn hpre hwl
 refine enter_call (ydU (call w s₀ sQ mg mb fa o pm cd doc a vs ns G Y ho (fd_plain hd) hcd hmg hobj hints hlen hg) λr s' hq=>?_)
 obtain⟨rfl,h2,h3,h4⟩:=hq
 exact⟨.inl ⟨.bool true,.bool true,[],rfl,λ_=>rfl,.bool true,qhw l _,λ_=>⟨List.Pairwise.nil,λ_ hm=>(nomatch hm)⟩⟩,h2,h3,h4⟩
end Att
namespace L2
open PySem PySem.Spec PyProof.Rows
theorem qd4:∀{vs:List Value}{ns:List Int},ybP vs ns->zM (ns.map V.int) vs
 |_,_,.nil => .nil
 |_,_,.cons n t h => .cons ⟨t,rfl⟩ (qd4 h)
def qoF(H:Hp):Prop:=∀b,H b=none\/(∃o xs,H b=some (.frz o (.lst xs)))\/∃pos q,H b=some (.lam pos q)
def qoG:Option (Addr×Addr×Pos×Str)->Hp
 |some (_,Pt,pos,q)=>λb=>if b=Pt then some (.lam pos q)else none
 |none=>λ_=>none
theorem qje {P:yar} {w:World} {K:yan} {mg mb:Str->Option Value} {CX:CXT} {k:Nat} {fa a:Addr} {fd:yaP} {x:Str} {sp:Sp} {sQ:yab} {vs:List Value} {ns:List Int} {lm:Option (Addr×Addr×Pos×Str)}
  (KX:K.In sQ.heap) (hns:sQ.heap.Ns yad mg) (hb:sQ.heap.Ns yb3 mb) (hbb:∀x:Str,x≠"__name__"->mb x=yaz x) (hlim:sQ.heap.NoLimit)
  (hbm:∃bm ob,mg "__builtins__"=some (.ref bm)/\bm≠yb3/\sQ.heap.get? bm=some ob/\ob.cls=.type "module"/\ob.dict=some yb3/\ob.data=.plain)
  (hlm:∀c Pt pos q,lm=some (c,Pt,pos,q)->yeu sQ.heap c Pt/\sQ.heap.get? Pt=some (yev #[])/\K.lookup Pt=none)
  (hg:sQ.gens = #[])
  (ha:sQ.heap.get? a=some {cls:=.type "list",data:=.seq vs.toArray}) (hi:ybP vs ns) (hl:ns.length<=yaq) (hr:vy k ydR)
  (F:∀base:Heap,K.In base->base.Ns yad mg->vV P w K mg base CX k fa fd [x] sp) (hbind:∀(s:yab)(u:Value),ydQ s fd ⟨[u],[]⟩ [(x,u)])
  (hsp:∀H:Hp,qoF H->(∀c Pt pos q,lm=some (c,Pt,pos,q)->H Pt=some (.lam pos q))->SqL K H a (ns.map V.int)->sp [.ref a] H (λv _=>v=.bl true) λ_ _ _=>False)
  (hCX:∀H e s',CX [] H sQ (λ_ _ _=>False) e s'->False) :
  ybW (model P w) ydR (.call (.ref fa) ⟨[.ref a],[]⟩) (λr s'=>r=.ok (.ret (.bool true))/\OldK sQ.heap s'.heap/\s'.os=sQ.os/\ycl s'.gens) sQ:=by
 have rv:=qd4 hi
 have lenV:=hi.length
 have core:∀H:Hp,qoF H->(∀c Pt pos q,lm=some (c,Pt,pos,q)->H Pt=some (.lam pos q))->SqL K H a (ns.map V.int)->HOk P w H sQ.heap ->
   (∀b u,H b=some u->K.lookup b=none/\((∃o xs,u=.frz o (.lst xs))\/∃c pos q,lm=some (c,b,pos,q)/\u=.lam pos q)) ->
   ybW (model P w) ydR (.call (.ref fa) ⟨[.ref a],[]⟩) (λr s'=>r=.ok (.ret (.bool true))/\OldK sQ.heap s'.heap/\s'.os=sQ.os/\ycl s'.gens) sQ:=by
  intro H hO hT hS hok hA
  have base_of:∀{b:Addr}{o:Obj},sQ.heap.get? b=some o->H b=none->(qiZ sQ.heap H).get? b=some o:=λe n=>qi0 e n
  have noD:∀{b:Addr}{o:Obj},sQ.heap.get? b=some o->(∀its n,o.data ≠ .seq its n)->(∀f,o.data ≠ .fields f)->H b=none:=λ{b o} e d1 d2=>by
   cases q:H b with
   |none=>rfl
   | some u=>
    rcases(hA b u q).2 with⟨ob,xs,rfl⟩|⟨c,pos,q',hl2,rfl⟩
    ·obtain⟨e1,_,its,n,_,e2⟩:=hok b _ q
     rw[e]at e2;cases e2
     exact(d1 _ _ rfl).elim
    ·have e2:=(hlm _ _ _ _ hl2).2.1
     rw[e]at e2;cases e2
     exact(d2 _ rfl).elim
  have nsK:∀{b:Addr}{m:Str->Option Value},sQ.heap.Ns b m->(qiZ sQ.heap H).Ns b m:=λ{b m} ⟨o,es,ep,e,d,r⟩=>⟨o,es,ep,base_of e (noD e (λ_ _ z=>by rw[d]at z;cases z) λ_ z=>by rw[d]at z;cases z),d,r⟩
  have hKb:K.In (qiZ sQ.heap H):=λb o e=>base_of (KX b o e) (by
   cases q:H b with
   |none=>rfl
   |some u=>rw[(hA b u q).1]at e;cases e)
  have hM:Mod K mg (qiZ sQ.heap H):=⟨hKb,nsK hns,⟨mb,nsK hb,hbb⟩,let ⟨mc,h1,h2⟩:=hlim;⟨mc,nsK h1,h2⟩,
   let ⟨bm,ob,b1,b2,b3,b4,b5,b6⟩:=hbm;⟨bm,ob,b1,b2,base_of b3 (noD b3 (λ_ _ z=>by rw[b6]at z;cases z) λ_ z=>by rw[b6]at z;cases z),b4,b5,b6⟩⟩
  have e0:qmH P w K mg (qiZ sQ.heap H) ydR [] sQ H:=⟨rfl,hM,λb o e=>qk5 e,Nat.le_of_eq (qha _ _),trivial,λb hb=>absurd (show b∈([]:List Addr)from hb) (by simp),hok,.of_eq hg⟩
  refine ydU ((F _ hKb (nsK hns)).run ydR [] sQ H ⟨[.ref a],[]⟩ [.ref a] [.ref a] _ _ hr e0 (hbind sQ (.ref a)) (.cons rfl .nil) (hsp H hO hT hS)) λr s' h=>?_
  cases r with
  |error e=>exact(hCX H e s' h).elim
  | ok fl=>
   cases fl with
   |next=>exact ya5 h
   |brk=>exact ya5 h
   |cont=>exact ya5 h
   | ret u=>
    obtain⟨v,H',os,bare,un,hok',r',q⟩:=h
    have q':v=.bl true:=q
    subst q'
    obtain rfl:u=yaQ true:=r'
    have asIt:∀b o,sQ.heap.get? b=some o->asItWas sQ.heap s'.heap b o:=λb o e=>by
     cases q:H b with
     |none=>exact .inl (un.keep b o e q (by intro z;exact absurd (show b∈([]:List Addr)from z) (by simp)) (by simp))
     | some u=>
      rcases(hA b u q).2 with⟨ob,xs,rfl⟩|⟨c,pos,q2,hl2,rfl⟩
      ·have z2:=un.frzs b ob _ q
       obtain⟨e1,_⟩:=hok b _ q
       obtain⟨e2,_⟩:=hok' b _ z2
       rw[e]at e1;cases e1
       exact .inl e2
      ·obtain⟨hc,e2,_⟩:=hlm _ _ _ _ hl2
       rw[e]at e2;cases e2
       rcases hok' b _ (un.tbls b pos q2 q)with z|⟨c',oc,vs',t,_,_,_,z⟩
       ·exact .inl z
       ·exact .inr (.inl ⟨(hc.tab e).isCodeTable,rfl,#[],_,rfl,by rw[Array.empty_append];exact z⟩)
    exact⟨rfl,⟨asIt,λb o e=>un.there b o e (by simp)⟩,os,bare⟩
 let T:Hp:=qoG lm
 have hTb:∀b u,T b=some u->∃c pos q,lm=some (c,b,pos,q)/\u=.lam pos q:=λb u z=>by
  cases hq:lm with
  |none=>simp only[T,hq,qoG]at z;cases z
  | some p=>
   obtain⟨c,Pt,pos,q⟩:=p
   simp only[T,hq,qoG]at z
   by_cases hbp:b=Pt
   ·rw[if_pos hbp]at z;cases z
    exact⟨c,pos,q,by rw[hbp],rfl⟩
   ·rw[if_neg hbp]at z;cases z
 have hTa:T a=none:=by
  cases q:T a with
  |none=>rfl
  |some u=>
   obtain⟨c,pos,q2,hl2,_⟩:=hTb a u q
   have:=(hlm _ _ _ _ hl2).2.1
   rw[ha]at this;cases this
 have hTt:∀c Pt pos q,lm=some (c,Pt,pos,q)->T Pt=some (.lam pos q):=λc Pt pos q e=>by
  simp only[T,e,qoG,if_true]
 cases hk:K.lookup a with
 | some o=>
  have e:=KX a o hk
  rw[ha]at e
  cases e
  refine core T (λb=>?_) hTt (.inr ⟨_,vs.toArray,_,hk,rfl,rfl,rfl,by rw[sT_,lenV];exact hl,by simpa using rv⟩) (λb u z=>?_) (λb u z=>?_)
  ·cases q:T b with
   |none=>exact .inl rfl
   |some u=>obtain⟨_,pos,q2,_,rfl⟩:=hTb b u q;exact .inr (.inr ⟨pos,q2,rfl⟩)
  ·obtain⟨c,pos,q2,hl2,rfl⟩:=hTb b u z
   exact .inl (hlm _ _ _ _ hl2).2.1
  ·obtain⟨c,pos,q2,hl2,rfl⟩:=hTb b u z
   exact⟨(hlm _ _ _ _ hl2).2.2,.inr ⟨c,pos,q2,hl2,rfl⟩⟩
 | none=>
  refine core (upd T a (.frz {cls:=.type "list",data:=.seq vs.toArray} (.lst (ns.map V.int)))) (λb=>?_) (λc Pt pos q e=>?_) (.inl (.inr ⟨{cls:=.type "list",data:=.seq vs.toArray},qK⟩)) (λb u z=>?_) (λb u z=>?_)
  ·by_cases hb:b=a
   ·subst hb;exact .inr (.inl ⟨_,_,qK⟩)
   ·rw[qM hb]
    cases q:T b with
    |none=>exact .inl rfl
    |some u=>obtain⟨_,pos,q2,_,rfl⟩:=hTb b u q;exact .inr (.inr ⟨pos,q2,rfl⟩)
  ·have h1:=hTt c Pt pos q e
   rw[qM (zl h1 hTa)]
   exact h1
  ·by_cases hb:b=a
   ·subst hb
    rw[qK]at z;cases z
    exact⟨ha,by rw[lM_];exact hl,vs,_,rv,ha⟩
   ·rw[qM hb]at z
    obtain⟨c,pos,q2,hl2,rfl⟩:=hTb b u z
    exact .inl (hlm _ _ _ _ hl2).2.1
  ·by_cases hb:b=a
   ·subst hb
    rw[qK]at z;cases z
    exact⟨hk,.inl ⟨_,_,rfl⟩⟩
   ·rw[qM hb]at z
    obtain⟨c,pos,q2,hl2,rfl⟩:=hTb b u z
    exact⟨(hlm _ _ _ _ hl2).2.2,.inr ⟨c,pos,q2,hl2,rfl⟩⟩
end L2
namespace L2
open PySem PySem.Spec PyProof.Rows
end L2
/- THE LAST THEOREM (shape;LID,My.* are yours):
   My.Adr: a structure of the addresses that your layer names (classes,functions);My.Txt K t: a structure (Prop) of the equations over K;
   My.txt_mk:{K} {implicit addresses ..} (e1:nsIn K yad "law"=some (some (.ref f))) (e2:K.lookup f=some ⟨oc,od,.func (fnOf "law" "law" params body scope dV kV doc pm an cdv ct),sl⟩) (e3:codeIn K cdv "law"=true) .. : ∃t,My.Txt K t
set_option maxRecDepth 100000 in
set_option maxHeartbeats 0 in
theorem PySem.Challenge.cw_LID_holds : PySem.Challenge.rw_LID.Holds := by
 w_on;o_law;k_head;(case hw=>w_witness2)
 k_fill
 refine L2.walk_of (l:=PySem.Challenge.rw_LID) (n:=63) (k:=40) (x:="script") (CX:=λw => ..) (sp:=λ_=>My.sp_law) rfl (by decide) rfl ⟨rfl,by decide,by decide⟩ (λw h Y=>PySem.W.kIn_of Y) ?F ?S ?C
 case F=>
  intro w mg fa h KX G hmg
  have T:∃t,My.Txt (L2.KOf KX) t:=by
   dsimp only[L2.KOf]                          -- K must stand as «<heap const> w.params» for k_is
   refine' My.txt_mk ?e1 ?e2 ?e3 ..
   (case e1=>PySem.W.k_is)                    -- in the order: a name->its address->its object->its parts
   (case e2=>PySem.W.k_is)
   ..
  obtain⟨t,T⟩:=T
  have e0:=hmg.symm.trans (yai KX G T.law)
  cases e0                                       -- fa is the law's own address
  exact⟨_,λs u => .of_eq rfl,λbase kb nb=>My.law_fn T kb nb⟩     -- if «.of_eq rfl» comes too early: refine' ⟨_,?b,λbase kb nb=>My.law_fn T kb nb⟩;exact λs u => .of_eq rfl
 case S=>exact λw H a ns hl hO hS => ..
 case C=>exact ..
(the tactic k_is has no namespace: write k_is) -/
namespace L2
open PySem PySem.Spec PyProof.Rows
def qz (s:Stmt):yec:=match s with
 |.FunctionDef _ a _ _ _ _ _ _ _ _=>a
 |_=>{posonlyargs:=[],args:=[],vararg:=none,kwonlyargs:=[],kw_defaults:=[],kwarg:=none,defaults:=[]}
def qu (s:Stmt):List Stmt:=match s with
 |.FunctionDef _ _ b _ _ _ _ _ _ _=>b
 |_=>[]
def qe (s:Stmt):Scope:=match s with
 |.FunctionDef _ _ _ _ _ _ sc _ _ _=>sc
 |_=>{kind:=.function,names:=[],isGenerator:=false,isCoroutine:=false}
abbrev CX0:CXT:=λ_ _ _ _ _ _=>False
abbrev E0:XK:=λ_ _ _=>False
theorem qlo{X:Cx}:qbY CX0 X E0:=λ_ _ _ _ _ _ _ h=>h.elim
structure Fun (K:yan) (x qual:Str) (st:Stmt) (f:Addr) (fd:yaP):Prop where
 ex:∃(oc:Value)(od:Option Addr)(kV doc pm:Value)(an:Option Addr)(cdv ct:Value)(osl:Array (Option Value)),
  fd=yao x qual (qz st) (qu st) (qe st) .none kV doc pm an cdv ct/\K.lookup f=some ⟨oc,od,.func fd,osl⟩/\yak K cdv qual=true
 kp:yae K (.ref f)=true
section
variable{P:yar}{w:World}{K:yan}{mg:Str->Option Value}{base:Heap}
theorem Fun.ok {x qual:Str} {st:Stmt} {f:Addr} {fd:yaP} {N ps:List Str} {k:Nat} {sp:Sp} (F:Fun K x qual st f fd) (S:qv N ps (qe st)) (len:∀vs H Q E,sp vs H Q E->vs.length=ps.length)
  (hbody:∀(cdv:Value)(A:yas)(outer:List Env)(s:yab)(H:Hp)(vs:List V)(Q:VK)(E:XK),vy k (A.deeper (ybi qual (qe st) s.heap.objs.size f cdv))->sp vs H Q E ->
   ∃t,PSs (qiT CX0 P w K mg base N qual (qe st) f cdv A outer s H E).nox (qu st) t/\t {nx:=λ_ H'=>Q .non H',rt:=Q} (jM N vs) H):vV P w K mg base CX0 (k+1) f fd ps sp:=by
 obtain⟨oc,od,kV,doc,pm,an,cdv,ct,osl,rfl,lk,hcd⟩:=F.ex
 refine qnj lk hcd S len λA outer s H vs Q E hr hsp=>?_
 obtain⟨t,h,q⟩:=hbody cdv A outer s H vs Q E hr hsp
 exact⟨t,h.nox,q⟩
theorem Fun.binds {x qual:Str} {st:Stmt} {f:Addr} {fd:yaP} {ps:List Str} (F:Fun K x qual st f fd)
  (h:∀(kV doc pm:Value)(an:Option Addr)(cdv ct:Value)(us:List Value),us.length=ps.length->bindArgs (yao x qual (qz st) (qu st) (qe st) .none kV doc pm an cdv ct) ⟨us,[]⟩=pure (ps.zip us)):wE K fd ps []:=by
 obtain⟨oc,od,kV,doc,pm,an,cdv,ct,osl,rfl,lk,hcd⟩:=F.ex
 exact .all (h kV doc pm an cdv ct)
theorem qW {x qual:Str} {st:Stmt} {f:Addr} {oc:Value} {od an:Option Addr} {osl:Array (Option Value)} {kV doc pm cdv ct:Value} (l:K.lookup f=some ⟨oc,od,.func (yao x qual (qz st) (qu st) (qe st) .none kV doc pm an cdv ct),osl⟩)
  (c:yak K cdv qual=true) (k:yae K (.ref f)=true):Fun K x qual st f (yao x qual (qz st) (qu st) (qe st) .none kV doc pm an cdv ct):=⟨⟨oc,od,kV,doc,pm,an,cdv,ct,osl,rfl,l,c⟩,k⟩
end
theorem qmI {A B:Prop} (h:B):if false=true then A else B:=by
 rw[if_neg yap]
 exact h
theorem qmJ {A B:Prop} (h:A):if true=true then A else B:=by
 rw[if_pos rfl]
 exact h
def yn(H H':Hp):Prop:=∀b o,H b=some o->H' b=some o
theorem yn.refl(H:Hp):yn H H:=λ_ _ h=>h
theorem yn.trans{H H1 H2:Hp}(a:yn H H1)(b:yn H1 H2):yn H H2:=λc o h=>b c o (a c o h)
theorem yn.free {H H':Hp} (e:yn H H') {l:Addr} (h:H' l=Option.none):H l=Option.none:=by
 cases q:H l with
 |none=>rfl
 |some o=>
  rw[e l o q]at h
  cases h
end L2
namespace L2.Sk
open PySem PySem.Spec PyProof.Rows
inductive D where
 |non|bl (b:Bool)|int (i:Int)|str (x:Str)|tup (xs:List D)|lst (xs:List D)|dic (kvs:List (Key×Int))|fz (ns:List Int)
 |exc (n:Str)
abbrev OD:=Option D
abbrev Fr0:=yan
def qnu:FuncBody->Option Pos
 |.stmts [_,_,.Return (some (.Call _ _ [⟨_,.Lambda _ _ _ pos,_⟩] _)) _]=>some pos
 |_=>none
def lamOf (K:Fr0):Option (Addr×Addr×Pos):=match PySem.W.tabIn K "dearest_first",yaf K yad "dearest_first" with
 |some (c,P),some (some (.ref f))=>(match K.lookup f with
  |some ⟨_,_,.func fd,_⟩=>(qnu fd.body).map λpos=>(c,P,pos)
  |_=>none)
 |_,_=>none
abbrev qpc:Str:="dearest_first.<locals>.<lambda>"
def qp2(K:Fr0)(H:Hp)(Io:Addr->Prop):Prop:=∀c P pos,lamOf K=some (c,P,pos)->H P=some (.lam pos qpc)/\¬Io P
abbrev qd5(K:Fr0)(H:Hp):Prop:=qp2 K H λ_=>False
theorem qd5.same{K:Fr0}{H H':Hp}(h:qd5 K H)(s:yn H H'):qd5 K H':=λc P pos e=>⟨s _ _ (h c P pos e).1,λz=>z⟩
structure XK6 (K:Fr0) (D:Addr):Prop where
 ga:ybE K (.ref D) "__getattribute__"=some (some (.builtin "BaseException.__getattribute__"))
 gt:ybE K (.ref D) "__getattr__"=some none
 cl:ybE K (.ref D) "__class__"=some (some (.builtin "object.__class__"))
 ob:PySem.W.mroIn K D (.type "object")=some true
 be:PySem.W.subIn K (.ref D) (.type "BaseException")=some true
 is:(PySem.W.clsIn K D).isSome=true
 no:∀T∈["int","bool","str","tuple","list","dict"],yer K (.ref D) (.type T)=some false
def wF (K:Fr0) (n:Str):Option Addr:=match yaf K yad n with
 |some (some (.ref C))=>some C
 |_=>none
def clR(K:Fr0)(RN:List Str)(n:Str):Option Addr:=if RN.contains n then wF K n else none
theorem qfJ {K:Fr0} {RN:List Str} {n:Str} {C:Addr} (h:clR K RN n=some C):RN.contains n=true/\wF K n=some C:=by
 unfold clR at h
 split at h
 ·rename_i hn;exact⟨hn,h⟩
 ·cases h
def qqP(K:Fr0)(H:Hp)(a:Addr)(n:Str):Prop:=∃C,wF K n=some C/\XK6 K C/\∃o vs,H a=some (.frz o (.own a))/\o.cls=.ref C/\o.data=.fields vs
def qcH (K:Fr0) (H:Hp) (a:Addr) (xs:List V):Prop :=
 H a=some (.tup xs)\/∃(o:Obj)(its:Array Value)(n:Nat),K.lookup a=some o/\o.cls=.type "tuple"/\o.data=.seq its n/\its.size<=yaq/\zM xs its.toList
def qnv (K:Fr0) (H:Hp) (a:Addr) (xs:List V):Prop :=
 (∃o,H a=some (.frz o (.lst xs)))\/∃(o:Obj)(its:Array Value)(n:Nat),K.lookup a=some o/\o.cls=.type "list"/\o.dict=none/\o.data=.seq its n/\its.size<=yaq/\zM xs its.toList
theorem qcH.sq {K:Fr0} {H:Hp} {a:Addr} {xs:List V} (h:qcH K H a xs):SqT K H a xs:=by
 rcases h with h|h
 ·exact .inl (.inl h)
 ·exact .inr h
theorem qnv.sq {K:Fr0} {H:Hp} {a:Addr} {xs:List V} (h:qnv K H a xs):SqL K H a xs:=by
 rcases h with h|h
 ·exact .inl (.inr h)
 ·exact .inr h
mutual
def Is (K:Fr0) (A:Addr->Prop) (H:Hp):D->V->Prop
 |.non,v=>v=.non
 |.bl b,v=>v=.bl b
 |.int i,v=>v=.int i
 |.str x,v=>v=.str x
 |.tup ds,v=>∃a xs,v=.ref a/\qcH K H a xs/\IsL K A H ds xs
 |.lst ds,v=>∃a xs,v=.ref a/\A a/\H a=some (.lst xs)/\IsL K A H ds xs
 |.dic kvs,v=>∃a,v=.ref a/\A a/\H a=some (.dK (kvs.map λp=>(p.1,V.int p.2)))
 |.fz ns,v=>∃a,v=.ref a/\qnv K H a (ns.map V.int)
 |.exc n,v=>∃a,v=.ref a/\qqP K H a n
def IsL (K:Fr0) (A:Addr->Prop) (H:Hp):List D->List V->Prop
 | [],xs=>xs=[]
 |d::ds,xs=>∃x ys,xs=x::ys/\Is K A H d x/\IsL K A H ds ys
end
mutual
def imm:D->Bool
 |.tup ds=>immL ds
 |.lst _=>false
 |.dic _=>false
 |.fz _=>false
 |_=>true
def immL:List D->Bool
 | []=>true
 |d::ds=>imm d&&immL ds
end
structure Ext (A:Addr->Prop) (H H':Hp):Prop where
 tup:∀b xs,H b=some (.tup xs)->H' b=some (.tup xs)
 frz:∀b o u,H b=some (.frz o u)->H' b=some (.frz o u)
 at_:∀b o,A b->H b=some o->H' b=some o
theorem Ext.refl{A:Addr->Prop}{H:Hp}:Ext A H H:=⟨λ_ _ h=>h,λ_ _ _ h=>h,λ_ _ _ h=>h⟩
theorem Ext.of_same{A:Addr->Prop}{H H':Hp}(s:yn H H'):Ext A H H':=⟨λb xs h=>s b _ h,λb o u h=>s b _ h,λb o _ h=>s b o h⟩
mutual
theorem Is.ext {K:Fr0} {A B:Addr->Prop} {H H':Hp} (e:Ext A H H') (hAB:∀a,A a->(H a).isSome=true->B a):∀{d:D}{v:V},Is K A H d v->Is K B H' d v
 |.non,_,h=>h
 |.bl _,_,h=>h
 |.int _,_,h=>h
 |.str _,_,h=>h
 |.tup ds,_,⟨a,xs,hv,h,r⟩=>⟨a,xs,hv,h.elim (λh => .inl (e.tup _ _ h)) .inr,IsL.ext e hAB r⟩
 |.lst ds,_,⟨a,xs,hv,hA,h,r⟩=>⟨a,xs,hv,hAB a hA (by rw[h];rfl),e.at_ _ _ hA h,IsL.ext e hAB r⟩
 |.dic kvs,_,⟨a,hv,hA,h⟩=>⟨a,hv,hAB a hA (by rw[h];rfl),e.at_ _ _ hA h⟩
 |.fz ns,_,⟨a,hv,h⟩=>⟨a,hv,h.elim (λ⟨o,h⟩ => .inl ⟨o,e.frz _ _ _ h⟩) .inr⟩
 |.exc n,_,⟨a,hv,C,hc,hk,o,vs,h,r⟩=>⟨a,hv,C,hc,hk,o,vs,e.frz _ _ _ h,r⟩
theorem IsL.ext {K:Fr0} {A B:Addr->Prop} {H H':Hp} (e:Ext A H H') (hAB:∀a,A a->(H a).isSome=true->B a):∀{ds:List D}{xs:List V},IsL K A H ds xs->IsL K B H' ds xs
 | [],_,h=>h
 |_::_,_,⟨x,ys,hx,h,r⟩=>⟨x,ys,hx,Is.ext e hAB h,IsL.ext e hAB r⟩
end
mutual
theorem Is.imm {K:Fr0} {A B:Addr->Prop} {H:Hp}:∀{d:D}{v:V},imm d=true->Is K A H d v->Is K B H d v
 |.non,_,_,h=>h
 |.bl _,_,_,h=>h
 |.int _,_,_,h=>h
 |.str _,_,_,h=>h
 |.tup ds,_,i,⟨a,xs,hv,h,r⟩=>⟨a,xs,hv,h,IsL.imm (by simpa [Sk.imm] using i) r⟩
 |.lst _,_,i,_=>by simp[Sk.imm]at i
 |.dic _,_,i,_=>by simp[Sk.imm]at i
 |.fz _,_,i,_=>by simp[Sk.imm]at i
 |.exc _,_,_,h=>h
theorem IsL.imm {K:Fr0} {A B:Addr->Prop} {H:Hp}:∀{ds:List D}{xs:List V},immL ds=true->IsL K A H ds xs->IsL K B H ds xs
 | [],_,_,h=>h
 |d::ds,_,i,⟨x,ys,hx,h,r⟩=>by
  have i':Sk.imm d=true/\immL ds=true:=by simpa [immL] using i
  exact⟨x,ys,hx,Is.imm i'.1 h,IsL.imm i'.2 r⟩
end
theorem IsL.length {K:Fr0} {A:Addr->Prop} {H:Hp}:∀{ds:List D}{xs:List V},IsL K A H ds xs->xs.length=ds.length
 | [],_,h=>by rw[h];rfl
 |_::_,_,⟨x,ys,hx,_,r⟩=>by rw[hx,lC_,lC_,IsL.length r]
theorem IsL.get {K:Fr0} {A:Addr->Prop} {H:Hp}:∀{ds:List D}{xs:List V}{i:Nat}{d:D},IsL K A H ds xs->ds[i]? = some d->∃x,xs[i]? = some x/\Is K A H d x
 | [],_,_,_,_,h=>by simp at h
 |e::_,_,0,d,⟨x,ys,hx,h,r⟩,hd=>by
  have e1:e=d:=by simpa using hd
  subst e1
  exact⟨x,by rw[hx];rfl,h⟩
 |_::ds,_,i+1,d,⟨x,ys,hx,h,r⟩,hd=>by
  obtain⟨y,h1,h2⟩:=IsL.get (i:=i) (d:=d) r (by simpa using hd)
  exact⟨y,by rw[hx];simpa using h1,h2⟩
theorem IsL.append {K:Fr0} {A:Addr->Prop} {H:Hp}:∀{ds es:List D}{xs ys:List V},IsL K A H ds xs->IsL K A H es ys->IsL K A H (ds++es) (xs++ys)
 | [],_,_,_,h,g=>by rw[h];exact g
 |_::_,_,_,_,⟨x,zs,hx,h,r⟩,g=>⟨x,zs++_,by rw[hx];rfl,h,IsL.append r g⟩
theorem IsL.take {K:Fr0} {A:Addr->Prop} {H:Hp}:∀{ds:List D}{xs:List V}(n:Nat),IsL K A H ds xs->IsL K A H (ds.take n) (xs.take n)
 |_,_,0,_=>by simp[IsL]
 | [],_,_+1,h=>by rw[h];simp[IsL]
 |_::_,_,n+1,⟨x,ys,hx,h,r⟩=>by rw[hx];exact⟨x,ys.take n,rfl,h,IsL.take n r⟩
theorem IsL.drop {K:Fr0} {A:Addr->Prop} {H:Hp}:∀{ds:List D}{xs:List V}(n:Nat),IsL K A H ds xs->IsL K A H (ds.drop n) (xs.drop n)
 |_,_,0,h=>h
 | [],_,_+1,h=>by rw[h];simp[IsL]
 |_::_,_,n+1,⟨x,ys,hx,h,r⟩=>by rw[hx];exact IsL.drop n r
theorem IsL.one{K:Fr0}{A:Addr->Prop}{H:Hp}{d:D}{v:V}(h:Is K A H d v):IsL K A H [d] [v]:=⟨v,[],rfl,h,rfl⟩
theorem IsL.set {K:Fr0} {A:Addr->Prop} {H:Hp} {d:D} {v:V} (hd:Is K A H d v):∀{ds:List D}{xs:List V}(n:Nat),IsL K A H ds xs->IsL K A H (ds.set n d) (xs.set n v)
 | [],_,_,h=>by rw[h];simp[IsL]
 |_::_,_,0,⟨x,ys,hx,h,r⟩=>by rw[hx];exact⟨v,ys,rfl,hd,r⟩
 |_::_,_,n+1,⟨x,ys,hx,h,r⟩=>by rw[hx];exact⟨x,ys.set n v,rfl,h,IsL.set hd n r⟩
abbrev Env:=List (OD)
structure Exn where
 cls:Str
 val:D
inductive R (α:Type) where
 |ok (a:α)|exc (x:Exn) (Z:Env)|bad
structure Fc where
 O:List Nat
 P:List Nat
 B:Addr->Prop
 H0:Hp
 Io:Addr->Prop
 E:Exn->Hp->Prop
 S:Nat->Option (Option V)
def Cl(O:List Nat)(σ:St)(a:Addr):Prop:=∀j∈O,σ[j]? ≠ some (some (.ref a))
def Cn(c:Fc)(σ:St)(a:Addr):Prop:=c.B a/\Cl c.O σ a
structure Rep (K:Fr0) (c:Fc) (Z:Env) (σ:St) (H:Hp):Prop where
 len:Z.length=σ.length
 val:∀i d,Z[i]? = some (some d)->∃v,σ[i]? = some (some v) /\
  ((i∈c.O/\∃ds a xs,d=.lst ds/\v=.ref a/\H a=some (.lst xs)/\IsL K (Cn c σ) H ds xs)\/(i ∉ c.O/\Is K (Cn c σ) H d v))
 own:∀j∈c.O,∀v,σ[j]? = some (some v)->∃a xs,v=.ref a/\H a=some (.lst xs)/\(c.H0 a=none\/(j∈c.P/\c.Io a))
 inj:∀i j a,i∈c.O->j∈c.O->σ[i]? = some (some (.ref a))->σ[j]? = some (some (.ref a))->i=j
 b0:(∀a,c.H0 a=none->c.B a)/\qp2 K c.H0 c.Io
 kp:∀b o,c.H0 b=some o->¬c.Io b->H b=some o
 dm:∀b,H b=none->c.H0 b=none
 pO:∀j∈c.P,j∈c.O
 ps:∀j∈c.P,σ[j]? = c.S j
theorem Rep.tb{K:Fr0}{c:Fc}{Z:Env}{σ:St}{H:Hp}(r:Rep K c Z σ H):qd5 K H:=λq P pos e=>⟨r.kp P _ (r.b0.2 q P pos e).1 (r.b0.2 q P pos e).2,λz=>z⟩
structure Gr (O:List Nat) (σ:St) (H H':Hp):Prop where
 ext:Ext (Cl O σ) H H'
 dom:∀b,H' b=none->H b=none
theorem Gr.refl{O:List Nat}{σ:St}{H:Hp}:Gr O σ H H:=⟨Ext.refl,λ_ h=>h⟩
theorem Gr.of_same{O:List Nat}{σ:St}{H H':Hp}(s:yn H H'):Gr O σ H H':=⟨Ext.of_same s,λ_ h=>s.free h⟩
theorem Gr.trans {O:List Nat} {σ:St} {H H1 H2:Hp} (a:Gr O σ H H1) (b:Gr O σ H1 H2):Gr O σ H H2 :=
 ⟨⟨λc xs h=>b.ext.tup c xs (a.ext.tup c xs h),λc o u h=>b.ext.frz c o u (a.ext.frz c o u h),λc o hc h=>b.ext.at_ c o hc (a.ext.at_ c o hc h)⟩,λc h=>a.dom c (b.dom c h)⟩
theorem Gr.cn{c:Fc}{σ:St}{H H':Hp}(g:Gr c.O σ H H'):Ext (Cn c σ) H H':=⟨g.ext.tup,g.ext.frz,λb o hb h=>g.ext.at_ b o hb.2 h⟩
theorem Gr.is{K:Fr0}{c:Fc}{σ:St}{H H':Hp}{d:D}{v:V}(g:Gr c.O σ H H')(h:Is K (Cn c σ) H d v):Is K (Cn c σ) H' d v:=Is.ext g.cn (λ_ h _=>h) h
theorem Gr.isL{K:Fr0}{c:Fc}{σ:St}{H H':Hp}{d:List D}{v:List V}(g:Gr c.O σ H H')(h:IsL K (Cn c σ) H d v):IsL K (Cn c σ) H' d v:=IsL.ext g.cn (λ_ h _=>h) h
theorem Rep.new {K:Fr0} {c:Fc} {Z:Env} {σ:St} {H:Hp} (r:Rep K c Z σ H) {a:Addr} (h:H a=none):Cn c σ a :=
 ⟨r.b0.1 a (r.dm a h),λj hj e=>by obtain⟨b,xs,e1,e2,_⟩:=r.own j hj _ e;cases e1;rw[h]at e2;cases e2⟩
theorem Rep.same {K:Fr0} {c:Fc} {Z:Env} {σ:St} {H H':Hp} (r:Rep K c Z σ H) (s:yn H H'):Rep K c Z σ H' where
 len:=r.len
 val:=λi d h=>by
  obtain⟨v,h1,h2⟩:=r.val i d h
  refine⟨v,h1,?_⟩
  rcases h2 with⟨hi,ds,a,xs,h3,h5,h6,h7⟩|⟨hi,h3⟩
  ·exact .inl ⟨hi,ds,a,xs,h3,h5,s _ _ h6,IsL.ext (Ext.of_same s) (λ_ h _=>h) h7⟩
  ·exact .inr ⟨hi,Is.ext (Ext.of_same s) (λ_ h _=>h) h3⟩
 own:=λj hj v h=>by
  obtain⟨a,xs,h1,h2,h3⟩:=r.own j hj v h
  exact⟨a,xs,h1,s _ _ h2,h3⟩
 inj:=r.inj
 b0:=r.b0
 kp:=λb o h1 h2=>s _ _ (r.kp b o h1 h2)
 dm:=λb h=>r.dm b (s.free h)
 pO:=r.pO
 ps:=r.ps
theorem Rep.get {K:Fr0} {c:Fc} {Z:Env} {σ:St} {H:Hp} (r:Rep K c Z σ H) {i:Nat} {d:D} (hi:i ∉ c.O) (h:Z[i]? = some (some d)):∃v,σ[i]? = some (some v)/\Is K (Cn c σ) H d v:=by
 obtain⟨v,h1,h2⟩:=r.val i d h
 rcases h2 with⟨h3,_⟩|⟨_,h3⟩
 ·exact absurd h3 hi
 ·exact⟨v,h1,h3⟩
theorem Rep.getO {K:Fr0} {c:Fc} {Z:Env} {σ:St} {H:Hp} (r:Rep K c Z σ H) {i:Nat} {d:D} (hi:i∈c.O) (h:Z[i]? = some (some d)) :
  ∃ds a xs,d=.lst ds/\σ[i]? = some (some (.ref a))/\H a=some (.lst xs)/\IsL K (Cn c σ) H ds xs:=by
 obtain⟨v,h1,h2⟩:=r.val i d h
 rcases h2 with⟨_,ds,a,xs,h3,h5,h6,h7⟩|⟨h3,_⟩
 ·subst h5;exact⟨ds,a,xs,h3,h1,h6,h7⟩
 ·exact absurd hi h3
abbrev M(α:Type):=Env->R (α×Env)
def Wp (K:Fr0) (c:Fc) (σ:St) (H:Hp) (Q:VK):R (D×Env)->Prop
 |.ok (d,Z)=>∀v H',Rep K c Z σ H'->Is K (Cn c σ) H' d v->Gr c.O σ H H'->Q v H'
 |.exc x Z=>∀H',Rep K c Z σ H'->Gr c.O σ H H'->c.E x H'
 |.bad=>False
def WpB (K:Fr0) (c:Fc) (σ:St) (H:Hp) (Q:Bool->Hp->Prop):R (Bool×Env)->Prop
 |.ok (b,Z)=>∀H',Rep K c Z σ H'->Gr c.O σ H H'->Q b H'
 |.exc x Z=>∀H',Rep K c Z σ H'->Gr c.O σ H H'->c.E x H'
 |.bad=>False
def WpL (K:Fr0) (c:Fc) (σ:St) (H:Hp) (Q:List V->Hp->Prop):R (List D×Env)->Prop
 |.ok (ds,Z)=>∀vs H',Rep K c Z σ H'->IsL K (Cn c σ) H' ds vs->Gr c.O σ H H'->Q vs H'
 |.exc x Z=>∀H',Rep K c Z σ H'->Gr c.O σ H H'->c.E x H'
 |.bad=>False
def DE(X:Cx)(c:Fc)(e:Expr)(f:M D):Prop:=∃t,PE X e t/\∀Z σ H Q,Rep X.K c Z σ H->Wp X.K c σ H Q (f Z)->t σ H Q
def DT(X:Cx)(c:Fc)(e:Expr)(f:M Bool):Prop:=∃t,PT X e t/\∀Z σ H Q,Rep X.K c Z σ H->WpB X.K c σ H Q (f Z)->t σ H Q
def DA(X:Cx)(c:Fc)(es:List Expr)(f:M (List D)):Prop:=∃t,PA X es t/\∀Z σ H Q,Rep X.K c Z σ H->WpL X.K c σ H Q (f Z)->t σ H Q
def ret{α:Type}(a:α):M α:=λZ => .ok (a,Z)
def bnd {α β:Type} (f:M α) (k:α->M β):M β:=λZ=>match f Z with
 |.ok (a,Z')=>k a Z'
 |.exc x Z' => .exc x Z'
 |.bad => .bad
def lift {α:Type}:Option α->M α
 |some a=>ret a
 |none=>λ_ => .bad
theorem qb6{α β:Type}{f:M α}{k:α->M β}{Z Z':Env}{a:α}(h:f Z=.ok (a,Z')):bnd f k Z=k a Z':=by unfold bnd;rw[h]
section
variable{K:Fr0}{c:Fc}{σ:St}{H H1:Hp}{Q:VK}{QB:Bool->Hp->Prop}{QL:List V->Hp->Prop}{r:R (D×Env)}
theorem Wp.gr:∀{r:R (D×Env)},Wp K c σ H Q r->Gr c.O σ H H1->Wp K c σ H1 Q r
 |.ok (d,Z),h,g=>λv H' hr hi hg=>h v H' hr hi (g.trans hg)
 |.exc x Z,h,g=>λH' hr hg=>h H' hr (g.trans hg)
 |.bad,h,_=>h
theorem WpB.gr:∀{r:R (Bool×Env)},WpB K c σ H QB r->Gr c.O σ H H1->WpB K c σ H1 QB r
 |.ok (d,Z),h,g=>λH' hr hg=>h H' hr (g.trans hg)
 |.exc x Z,h,g=>λH' hr hg=>h H' hr (g.trans hg)
 |.bad,h,_=>h
theorem WpL.gr:∀{r:R (List D×Env)},WpL K c σ H QL r->Gr c.O σ H H1->WpL K c σ H1 QL r
 |.ok (d,Z),h,g=>λv H' hr hi hg=>h v H' hr hi (g.trans hg)
 |.exc x Z,h,g=>λH' hr hg=>h H' hr (g.trans hg)
 |.bad,h,_=>h
theorem Wp.bnd {f:M D} {k:D->M D} {Z:Env} {Q':VK} (h:Wp K c σ H Q (bnd f k Z)) (hQ:∀d Z' v H',Rep K c Z' σ H'->Is K (Cn c σ) H' d v->Gr c.O σ H H'->Wp K c σ H' Q (k d Z')->Q' v H'):Wp K c σ H Q' (f Z):=by
 unfold Sk.bnd at h
 cases e:f Z with
 |ok p=>rw[e]at h;exact λv H' hr hi hg=>hQ p.1 p.2 v H' hr hi hg (h.gr hg)
 |exc x Z'=>rw[e]at h;exact h
 |bad=>rw[e]at h;exact h
theorem Wp.bndB {f:M D} {k:D->M Bool} {Z:Env} {Q':VK} (h:WpB K c σ H QB (Sk.bnd f k Z)) (hQ:∀d Z' v H',Rep K c Z' σ H'->Is K (Cn c σ) H' d v->Gr c.O σ H H'->WpB K c σ H' QB (k d Z')->Q' v H'):Wp K c σ H Q' (f Z):=by
 unfold Sk.bnd at h
 cases e:f Z with
 |ok p=>rw[e]at h;exact λv H' hr hi hg=>hQ p.1 p.2 v H' hr hi hg (h.gr hg)
 |exc x Z'=>rw[e]at h;exact h
 |bad=>rw[e]at h;exact h
theorem Wp.bndL {f:M D} {k:D->M (List D)} {Z:Env} {Q':VK} (h:WpL K c σ H QL (Sk.bnd f k Z)) (hQ:∀d Z' v H',Rep K c Z' σ H'->Is K (Cn c σ) H' d v->Gr c.O σ H H'->WpL K c σ H' QL (k d Z')->Q' v H'):Wp K c σ H Q' (f Z):=by
 unfold Sk.bnd at h
 cases e:f Z with
 |ok p=>rw[e]at h;exact λv H' hr hi hg=>hQ p.1 p.2 v H' hr hi hg (h.gr hg)
 |exc x Z'=>rw[e]at h;exact h
 |bad=>rw[e]at h;exact h
theorem WpB.bnd {f:M Bool} {k:Bool->M D} {Z:Env} {Q':Bool->Hp->Prop} (h:Wp K c σ H Q (Sk.bnd f k Z)) (hQ:∀d Z' H',Rep K c Z' σ H'->Gr c.O σ H H'->Wp K c σ H' Q (k d Z')->Q' d H'):WpB K c σ H Q' (f Z):=by
 unfold Sk.bnd at h
 cases e:f Z with
 |ok p=>rw[e]at h;exact λH' hr hg=>hQ p.1 p.2 H' hr hg (h.gr hg)
 |exc x Z'=>rw[e]at h;exact h
 |bad=>rw[e]at h;exact h
theorem WpB.bndB {f:M Bool} {k:Bool->M Bool} {Z:Env} {Q':Bool->Hp->Prop} (h:WpB K c σ H QB (Sk.bnd f k Z)) (hQ:∀d Z' H',Rep K c Z' σ H'->Gr c.O σ H H'->WpB K c σ H' QB (k d Z')->Q' d H'):WpB K c σ H Q' (f Z):=by
 unfold Sk.bnd at h
 cases e:f Z with
 |ok p=>rw[e]at h;exact λH' hr hg=>hQ p.1 p.2 H' hr hg (h.gr hg)
 |exc x Z'=>rw[e]at h;exact h
 |bad=>rw[e]at h;exact h
theorem WpL.bnd {f:M (List D)} {k:List D->M D} {Z:Env} {Q':List V->Hp->Prop} (h:Wp K c σ H Q (Sk.bnd f k Z)) (hQ:∀d Z' v H',Rep K c Z' σ H'->IsL K (Cn c σ) H' d v->Gr c.O σ H H'->Wp K c σ H' Q (k d Z')->Q' v H'):WpL K c σ H Q' (f Z):=by
 unfold Sk.bnd at h
 cases e:f Z with
 |ok p=>rw[e]at h;exact λv H' hr hi hg=>hQ p.1 p.2 v H' hr hi hg (h.gr hg)
 |exc x Z'=>rw[e]at h;exact h
 |bad=>rw[e]at h;exact h
theorem WpL.bndL {f:M (List D)} {k:List D->M (List D)} {Z:Env} {Q':List V->Hp->Prop} (h:WpL K c σ H QL (Sk.bnd f k Z)) (hQ:∀d Z' v H',Rep K c Z' σ H'->IsL K (Cn c σ) H' d v->Gr c.O σ H H'->WpL K c σ H' QL (k d Z')->Q' v H'):WpL K c σ H Q' (f Z):=by
 unfold Sk.bnd at h
 cases e:f Z with
 |ok p=>rw[e]at h;exact λv H' hr hi hg=>hQ p.1 p.2 v H' hr hi hg (h.gr hg)
 |exc x Z'=>rw[e]at h;exact h
 |bad=>rw[e]at h;exact h
theorem Wp.lift {o:OD} {Z:Env} (h:Wp K c σ H Q (Sk.lift o Z)):∃d,o=some d/\∀v H',Rep K c Z σ H'->Is K (Cn c σ) H' d v->Gr c.O σ H H'->Q v H':=by
 cases o with
 |none=>exact h.elim
 |some d=>exact⟨d,rfl,h⟩
end
section
variable{X:Cx}{c:Fc}{a b e:Expr}{pos:Pos}
theorem qf{i j pos}:DE X c (.Constant (.int i) j pos) (ret (.int i)):=⟨_,qmS,λ_ _ H Q r h=>h _ H r rfl .refl⟩
theorem yN{i j pos}:DE X c (.Constant (.bool i) j pos) (ret (.bl i)):=⟨_,qoQ,λ_ _ H Q r h=>h _ H r rfl .refl⟩
theorem uz{j pos}:DE X c (.Constant .none j pos) (ret .non):=⟨_,qmT,λ_ _ H Q r h=>h _ H r rfl .refl⟩
theorem zp{x j pos}:DE X c (.Constant (.str x) j pos) (ret (.str x)):=⟨_,qmU,λ_ _ H Q r h=>h _ H r rfl .refl⟩
def dv (i:Nat):M D:=λZ=>match Z[i]? with
 |some (some d) => .ok (d,Z)
 |_ => .bad
theorem qc (i:Nat) {x:Str} (ho:i ∉ c.O:=by exact of_decide_eq_false rfl) (hN:X.N[i]? = some x:=by rfl) (hv:Vis X.env.scope x:=by first|exact ybr rfl|exact ya3 (ybr rfl)|exact ya3 (ya3 rfl)) (hd:(x==("__debug__":Str))=false:=by decide)
  (hcd:(x==("__classdict__":Str))=false:=by decide):DE X c (.Name x pos) (dv i):=by
 refine⟨_,qaF hN hv hd hcd,λZ σ H Q r h=>?_⟩
 unfold dv at h
 split at h
 ·rename_i d e
  obtain⟨v,h1,h2⟩:=r.get ho e
  exact⟨v,h1,h v H r h2 .refl⟩
 ·exact h.elim
theorem qhx {x:Str} {v:V} {u:Value} {d:D} (hg:Gl X x) (hm:X.mg x=some u) (rv:yg v u) (hd:∀H A,Is X.K A H d v) (hdb:(x==("__debug__":Str))=false:=by decide):DE X c (.Name x pos) (ret d) :=
 ⟨_,qeP hg hm rv hdb,λ_ _ H Q r h=>h _ H r (hd _ _) .refl⟩
theorem qd:DA X c [] (ret []):=⟨_,qby,λ_ _ H Q r h=>h _ H r rfl .refl⟩
def qa(f:M D)(g:M (List D)):M (List D):=bnd f λd=>bnd g λds=>ret (d::ds)
theorem qb {es:List Expr} {f:M D} {g:M (List D)} (ha:DE X c e f) (hr:DA X c es g) (hs:yah (e::es) X.env=(false,eval e X.env)::yah es X.env:=by rfl):DA X c (e::es) (qa f g):=by
 obtain⟨ta,pa,wa⟩:=ha
 obtain⟨tr,pr,wr⟩:=hr
 refine⟨_,uu pa pr hs,λZ σ H Q r h=>wa Z σ H _ r (Wp.bndL h λd Z1 v H1 r1 i1 g1 h1=>wr Z1 σ H1 _ r1 (WpL.bndL h1 λds Z2 vs H2 r2 i2 g2 h2=>?_))⟩
 exact h2 _ H2 r2 ⟨v,vs,rfl,g2.is i1,i2⟩ .refl
def zx(n:Nat):Bool:=decide (n<=yaq)
def qF(f:M (List D)):M D:=bnd f λds=>lift (if zx ds.length then some (.tup ds)else none)
def jI(f:M (List D)):M D:=bnd f λds=>lift (if zx ds.length then some (.lst ds)else none)
theorem qG{H:Hp}{p:Addr}(h:H p=none)(o:HO):yn H (upd H p o):=λb u q=>by rw[qM (zl q h)];exact q
theorem Rep.laid{K:Fr0}{Z:Env}{σ:St}{H:Hp}(r:Rep K c Z σ H){p:Addr}(h:H p=none)(o:HO):Rep K c Z σ (upd H p o):=r.same (qG h o)
theorem jt {p:Bool} {d e:D} (h:(if p then some d else none)=some e):p=true/\d=e:=by
 cases p with
 |true=>exact⟨rfl,by simpa using h⟩
 |false=>simp at h
theorem qH {es:List Expr} {x1} {f:M (List D)} (h:DA X c es f):DE X c (.Tuple es x1 pos) (qF f):=by
 obtain⟨t,p,w⟩:=h
 refine⟨_,qnh p,λZ σ H Q r h=>w Z σ H _ r (WpL.bnd h λds Z1 vs H1 r1 i1 g1 h1=>?_)⟩
 obtain⟨d,e,h2⟩:=h1.lift
 obtain⟨e1,e2⟩:=jt e
 subst e2
 refine⟨by rw[i1.length];exact of_decide_eq_true e1,λp hp=>h2 _ _ (r1.laid hp _) ⟨p,vs,rfl,.inl qK,IsL.ext (Ext.of_same (qG hp _)) (λ_ h _=>h) i1⟩ (.of_same (qG hp _))⟩
theorem jj {es:List Expr} {f:M (List D)} (h:DA X c es f):DE X c (.List es pos) (jI f):=by
 obtain⟨t,p,w⟩:=h
 refine⟨_,qkg p,λZ σ H Q r h=>w Z σ H _ r (WpL.bnd h λds Z1 vs H1 r1 i1 g1 h1=>?_)⟩
 obtain⟨d,e,h2⟩:=h1.lift
 obtain⟨e1,e2⟩:=jt e
 subst e2
 refine⟨by rw[i1.length];exact of_decide_eq_true e1,λp hp=>h2 _ _ (r1.laid hp _) ⟨p,vs,rfl,r1.new hp,qK,IsL.ext (Ext.of_same (qG hp _)) (λ_ h _=>h) i1⟩ (.of_same (qG hp _))⟩
def OpS (K:Fr0) (F:D->D->OD) (r:R2):Prop:=∀(A:Addr->Prop)(H:Hp)(x y d:D)(v u:V)(Q:VK),(∀a,H a=none->A a)->Is K A H x v->Is K A H y u->F x y=some d ->
 (∀w H',yn H H'->Is K A H' d w->Q w H')->r v u H Q
def d2(F:D->D->OD)(f g:M D):M D:=bnd f λx=>bnd g λy=>lift (F x y)
theorem op2 {r:R2} {F:D->D->OD} {f g:M D} {ta tb:TE} (hF:OpS X.K F r) (wa:∀Z σ H Q,Rep X.K c Z σ H->Wp X.K c σ H Q (f Z)->ta σ H Q) (wb:∀Z σ H Q,Rep X.K c Z σ H->Wp X.K c σ H Q (g Z)->tb σ H Q) :
  ∀Z σ H Q,Rep X.K c Z σ H->Wp X.K c σ H Q (d2 F f g Z)->tOp r ta tb σ H Q:=λZ σ H Q rp h=>wa Z σ H _ rp (Wp.bnd h λx Z1 v H1 r1 i1 g1 h1=>wb Z1 σ H1 _ r1 (Wp.bnd h1 λy Z2 u H2 r2 i2 g2 h2=>by
 obtain⟨d,e,h3⟩:=h2.lift
 exact hF _ H2 x y d v u Q (λa ha=>r2.new ha) (g2.is i1) i2 e λw H' s i=>h3 w H' (r2.same s) i (.of_same s)))
theorem qo {op:Operator} {r:R2} {F:D->D->OD} {f g:M D} (ho:OpR X (ybp op) r) (hF:OpS X.K F r) (ha:DE X c a f) (hb:DE X c b g):DE X c (.BinOp a op b pos) (d2 F f g):=by
 obtain⟨ta,pa,wa⟩:=ha
 obtain⟨tb,pb,wb⟩:=hb
 exact⟨_,qo2 ho pa pb,op2 hF wa wb⟩
theorem uW {op:CmpOp} {r:R2} {F:D->D->OD} {f g:M D} (ho:OpR X (yaL op) r) (hF:OpS X.K F r) (ha:DE X c a f) (hb:DE X c b g) (hm:ybD op b=false):DE X c (.Compare a [op] [b] pos) (d2 F f g):=by
 obtain⟨ta,pa,wa⟩:=ha
 obtain⟨tb,pb,wb⟩:=hb
 exact⟨_,qle ho pa pb hm,op2 hF wa wb⟩
def asB:D->Option Bool
 |.bl b=>some b
 |_=>none
def tst(f:M D):M Bool:=bnd f λd=>lift (asB d)
theorem qdg {K:Fr0} {σ:St} {H:Hp} {QB:Bool->Hp->Prop} {o:Option Bool} {Z:Env} (h:WpB K c σ H QB (lift o Z)):∃b,o=some b/\∀H',Rep K c Z σ H'->Gr c.O σ H H'->QB b H':=by
 cases o with
 |none=>exact h.elim
 |some d=>exact⟨d,rfl,h⟩
theorem qaI {d:D} {b:Bool} (h:asB d=some b):d=.bl b:=by
 cases d<;>simp[asB]at h
 subst h;rfl
theorem ze {op:CmpOp} {r:R2} {F:D->D->OD} {f g:M D} (ho:OpR X (yaL op) r) (hF:OpS X.K F r) (ha:DE X c a f) (hb:DE X c b g) (hm:ybD op b=false):DT X c (.Compare a [op] [b] pos) (tst (d2 F f g)):=by
 obtain⟨ta,pa,wa⟩:=ha
 obtain⟨tb,pb,wb⟩:=hb
 refine⟨_,qhl ho pa pb hm,λZ σ H Q rp h=>op2 hF wa wb Z σ H _ rp (Wp.bndB h λd Z1 v H1 r1 i1 g1 h1=>?_)⟩
 obtain⟨b,e,h2⟩:=qdg h1
 have:=qaI e
 subst this
 exact⟨b,i1,h2 H1 r1 .refl⟩
theorem jf {f:M D} (h:DE X c e f) (he:∀whole,isTrue e X.env whole=(do let v <-whole;standAt e.pos;ydj [v] (truthy v)):=by intro _;rfl):DT X c e (tst f):=by
 obtain⟨t,p,w⟩:=h
 refine⟨_,qmV p he,λZ σ H Q rp h=>w Z σ H _ rp (Wp.bndB h λd Z1 v H1 r1 i1 g1 h1=>?_)⟩
 obtain⟨b,e,h2⟩:=qdg h1
 have:=qaI e
 subst this
 exact⟨b,i1,h2 H1 r1 .refl⟩
def js(f:M Bool):M Bool:=bnd f λb=>ret (!b)
theorem jg {f:M Bool} (h:DT X c a f):DT X c (.UnaryOp .Not a pos) (js f):=by
 obtain⟨t,p,w⟩:=h
 exact⟨_,qmY p,λZ σ H Q rp h=>w Z σ H _ rp (WpB.bndB h λd Z1 H1 r1 g1 h1=>h1 H1 r1 .refl)⟩
def DW(X:Cx)(c:Fc)(e:Expr)(f:M Bool):Prop:=∃t,PW X e t/\∀Z σ H Q,Rep X.K c Z σ H->WpB X.K c σ H Q (f Z)->t σ H Q
theorem DW.dt {f:M Bool} (h:DW X c e f):DT X c e f:=by
 obtain⟨t,p,w⟩:=h
 exact⟨t,p.pt,w⟩
def qeW(f g:M Bool):M Bool:=bnd f λb=>if b then g else ret false
def tor(f g:M Bool):M Bool:=bnd f λb=>if b then ret true else g
variable{qbN:List Expr}
theorem qeX {f:M Bool} (h:DT X c a f):DW X c (.BoolOp .And [a] pos) f:=by
 obtain⟨t,p,w⟩:=h
 exact⟨t,qk7 p,w⟩
theorem ue {f:M Bool} (h:DT X c a f):DW X c (.BoolOp .Or [a] pos) f:=by
 obtain⟨t,p,w⟩:=h
 exact⟨t,qmW p,w⟩
theorem qhy {f g:M Bool} (ha:DT X c a f) (hb:DW X c (.BoolOp .And (b::qbN) pos) g):DW X c (.BoolOp .And (a::b::qbN) pos) (qeW f g):=by
 obtain⟨ta,pa,wa⟩:=ha
 obtain⟨tb,pb,wb⟩:=hb
 refine⟨_,qmX pa pb,λZ σ H Q rp h=>wa Z σ H _ rp (WpB.bndB h λd Z1 H1 r1 g1 h1=>?_)⟩
 cases d with
 |true=>exact qmJ (wb Z1 σ H1 Q r1 (by simpa using h1))
 |false=>exact qmI ((by simpa using h1:WpB X.K c σ H1 Q (ret false Z1)) H1 r1 .refl)
theorem uf {f g:M Bool} (ha:DT X c a f) (hb:DW X c (.BoolOp .Or (b::qbN) pos) g):DW X c (.BoolOp .Or (a::b::qbN) pos) (tor f g):=by
 obtain⟨ta,pa,wa⟩:=ha
 obtain⟨tb,pb,wb⟩:=hb
 refine⟨_,qoR pa pb,λZ σ H Q rp h=>wa Z σ H _ rp (WpB.bndB h λd Z1 H1 r1 g1 h1=>?_)⟩
 cases d with
 |true=>exact qmJ ((by simpa using h1:WpB X.K c σ H1 Q (ret true Z1)) H1 r1 .refl)
 |false=>exact qmI (wb Z1 σ H1 Q r1 (by simpa using h1))
def qnw(f:M D):M D:=bnd f λd=>bnd (lift (asB d)) λb=>ret (.bl (!b))
def qd6(f g:M D):M D:=bnd f λd=>bnd (lift (asB d)) λb=>if b then g else ret (.bl false)
def dor(f g:M D):M D:=bnd f λd=>bnd (lift (asB d)) λb=>if b then ret (.bl true)else g
theorem qhz {K:Fr0} {σ:St} {H:Hp} {Q:VK} {d:D} {k:Bool->M D} {Z:Env} (h:Wp K c σ H Q (bnd (lift (asB d)) k Z)):∃b,d=.bl b/\Wp K c σ H Q (k b Z):=by
 unfold bnd at h
 cases e:asB d with
 |none=>rw[e]at h;exact h.elim
 |some b=>rw[e]at h;exact⟨b,qaI e,h⟩
theorem wy {op} {f:M D} (h:DE X c a f):DE X c (.BoolOp op [a] pos) f:=by
 obtain⟨t,p,w⟩:=h
 exact⟨t,qmZ p,w⟩
theorem qki {f:M D} (h:DE X c a f):DE X c (.UnaryOp .Not a pos) (qnw f):=by
 obtain⟨t,p,w⟩:=h
 refine⟨_,qm1 p,λZ σ H Q rp h=>w Z σ H _ rp (Wp.bnd h λd Z1 v H1 r1 i1 g1 h1=>?_)⟩
 obtain⟨b,e,h2⟩:=qhz h1
 subst e
 exact⟨b,i1,h2 _ H1 r1 rfl .refl⟩
theorem qaj {f g:M D} (ha:DE X c a f) (hb:DE X c (.BoolOp .And (b::qbN) pos) g):DE X c (.BoolOp .And (a::b::qbN) pos) (qd6 f g):=by
 obtain⟨ta,pa,wa⟩:=ha
 obtain⟨tb,pb,wb⟩:=hb
 refine⟨_,qm0 pa pb,λZ σ H Q rp h=>wa Z σ H _ rp (Wp.bnd h λd Z1 v H1 r1 i1 g1 h1=>?_)⟩
 obtain⟨k,e,h2⟩:=qhz h1
 subst e
 refine⟨k,i1,?_⟩
 cases k with
 |true=>exact qmJ (wb Z1 σ H1 Q r1 (by simpa using h2))
 |false=>exact qmI ((by simpa using h2:Wp X.K c σ H1 Q (ret (.bl false) Z1)) _ H1 r1 rfl .refl)
theorem qlp {f g:M D} (ha:DE X c a f) (hb:DE X c (.BoolOp .Or (b::qbN) pos) g):DE X c (.BoolOp .Or (a::b::qbN) pos) (dor f g):=by
 obtain⟨ta,pa,wa⟩:=ha
 obtain⟨tb,pb,wb⟩:=hb
 refine⟨_,qoU pa pb,λZ σ H Q rp h=>wa Z σ H _ rp (Wp.bnd h λd Z1 v H1 r1 i1 g1 h1=>?_)⟩
 obtain⟨k,e,h2⟩:=qhz h1
 subst e
 refine⟨k,i1,?_⟩
 cases k with
 |true=>exact qmJ ((by simpa using h2:Wp X.K c σ H1 Q (ret (.bl true) Z1)) _ H1 r1 rfl .refl)
 |false=>exact qmI (wb Z1 σ H1 Q r1 (by simpa using h2))
def dif(f:M Bool)(g k:M D):M D:=bnd f λb=>if b then g else k
theorem qpd {t:Expr} {f:M Bool} {g k:M D} (ht:DT X c t f) (ha:DE X c a g) (hb:DE X c b k):DE X c (.IfExp t a b pos) (dif f g k):=by
 obtain⟨tt,pt,wt⟩:=ht
 obtain⟨ta,pa,wa⟩:=ha
 obtain⟨tb,pb,wb⟩:=hb
 refine⟨_,qi2 pt pa pb,λZ σ H Q rp h=>wt Z σ H _ rp (WpB.bnd h λd Z1 H1 r1 g1 h1=>?_)⟩
 cases d with
 |true=>exact qmJ (wa Z1 σ H1 Q r1 (by simpa using h1))
 |false=>exact qmI (wb Z1 σ H1 Q r1 (by simpa using h1))
def qbI (K:Fr0) (F:List D->OD) (r:List V->Hp->VK->Prop):Prop:=∀(A:Addr->Prop)(H:Hp)(xs:List D)(d:D)(vs:List V)(Q:VK),(∀a,H a=none->A a)->IsL K A H xs vs->F xs=some d ->
 (∀w H',yn H H'->Is K A H' d w->Q w H')->r vs H Q
def qw(F:List D->OD)(f:M (List D)):M D:=bnd f λds=>lift (F ds)
theorem qnx {r:List V->Hp->VK->Prop} {F:List D->OD} {f:M (List D)} {t:TA} (hF:qbI X.K F r) (w:∀Z σ H Q,Rep X.K c Z σ H->WpL X.K c σ H Q (f Z)->t σ H Q) :
  ∀Z σ H Q,Rep X.K c Z σ H->Wp X.K c σ H Q (qw F f Z)->tCB r t σ H Q:=λZ σ H Q rp h=>w Z σ H _ rp (WpL.bnd h λds Z1 vs H1 r1 i1 g1 h1=>by
 obtain⟨d,e,h3⟩:=h1.lift
 exact hF _ H1 ds d vs Q (λa ha=>r1.new ha) i1 e λw H' s i=>h3 w H' (r1.same s) i (.of_same s))
theorem qP {id:String} {x:Str} {p:Pos} {es:List Expr} {r:List V->Hp->VK->Prop} {F:List D->OD} {f:M (List D)} (hc:uC X (.builtin id) r) (hF:qbI X.K F r) (hg:Gl X x) (hm:X.mg x=none) (hv:yaz x=some (.builtin id)) (ha:DA X c (e::es) f) (hn:x≠"__name__":=by decide) (hdb:(x==("__debug__":Str))=false:=by decide)
  (he:yah (e::es) X.env=(false,eval e X.env)::yah es X.env:=by rfl) (hpl:(yaR pos (yah es X.env)).any (·.1)=false:=by rfl):DE X c (.Call (.Name x p) (e::es) [] pos) (qw F f):=by
 obtain⟨t,pa,w⟩:=ha
 exact⟨_,qaH hc hg hm hv pa hn hdb he hpl,qnx hF w⟩
theorem qd7 {T:String} {x:Str} {p:Pos} {es:List Expr} {r:List V->Hp->VK->Prop} {F:List D->OD} {f:M (List D)} (hc:uC X (.type T) r) (hF:qbI X.K F r) (hg:Gl X x) (hm:X.mg x=none) (hv:yaz x=some (.type T)) (ha:DA X c (e::es) f) (hn:x≠"__name__":=by decide) (hdb:(x==("__debug__":Str))=false:=by decide)
  (he:yah (e::es) X.env=(false,eval e X.env)::yah es X.env:=by rfl) (hpl:(yaR pos (yah es X.env)).any (·.1)=false:=by rfl):DE X c (.Call (.Name x p) (e::es) [] pos) (qw F f):=by
 obtain⟨t,pa,w⟩:=ha
 exact⟨_,qdZ hc hg hm hv pa hn hdb he hpl,qnx hF w⟩
theorem qC {r:R2} {F:D->D->OD} {f g:M D} (hr:IxR X r) (hF:OpS X.K F r) (ha:DE X c a f) (hb:DE X c b g) (hs:qeT b:=by intro _ _;rfl):DE X c (.Subscript a b pos) (d2 F f g):=by
 obtain⟨ta,pa,wa⟩:=ha
 obtain⟨tb,pb,wb⟩:=hb
 exact⟨_,qnm hr pa pb hs,op2 hF wa wb⟩
end
inductive Fl where
 |nx (Z:Env)|rt (d:D) (Z:Env)|bk (Z:Env)|ct (Z:Env)
structure GrS (O:List Nat) (σ:St) (H:Hp) (σ':St) (H':Hp):Prop where
 ext:Ext (Cl O σ) H H'
 cl:∀b,Cl O σ b->(H b).isSome=true->Cl O σ' b
 dom:∀b,H' b=none->H b=none
theorem qgx {H H':Hp} {b:Addr} (dom:H' b=none->H b=none) (h:(H b).isSome=true):(H' b).isSome=true:=by
 cases e:H' b with
 |none=>rw[dom e]at h;cases h
 |some o=>rfl
theorem GrS.refl{O:List Nat}{σ:St}{H:Hp}:GrS O σ H σ H:=⟨Ext.refl,λ_ h _=>h,λ_ h=>h⟩
theorem Gr.s{O:List Nat}{σ:St}{H H':Hp}(g:Gr O σ H H'):GrS O σ H σ H':=⟨g.ext,λ_ h _=>h,g.dom⟩
theorem GrS.trans {O:List Nat} {σ σ1 σ2:St} {H H1 H2:Hp} (a:GrS O σ H σ1 H1) (b:GrS O σ1 H1 σ2 H2):GrS O σ H σ2 H2 :=
 ⟨⟨λc xs h=>b.ext.tup c xs (a.ext.tup c xs h),λc o u h=>b.ext.frz c o u (a.ext.frz c o u h),λc o hc h=>b.ext.at_ c o (a.cl c hc (by rw[h];rfl)) (a.ext.at_ c o hc h)⟩,
  λc hc h=>b.cl c (a.cl c hc h) (qgx (a.dom c) h),λc h=>a.dom c (b.dom c h)⟩
theorem GrS.is {K:Fr0} {c:Fc} {σ σ':St} {H H':Hp} {d:D} {v:V} (g:GrS c.O σ H σ' H') (h:Is K (Cn c σ) H d v):Is K (Cn c σ') H' d v :=
 Is.ext ⟨g.ext.tup,g.ext.frz,λb o hb h=>g.ext.at_ b o hb.2 h⟩ (λa ha hs=>⟨ha.1,g.cl a ha.2 hs⟩) h
theorem GrS.isL {K:Fr0} {c:Fc} {σ σ':St} {H H':Hp} {d:List D} {v:List V} (g:GrS c.O σ H σ' H') (h:IsL K (Cn c σ) H d v):IsL K (Cn c σ') H' d v :=
 IsL.ext ⟨g.ext.tup,g.ext.frz,λb o hb h=>g.ext.at_ b o hb.2 h⟩ (λa ha hs=>⟨ha.1,g.cl a ha.2 hs⟩) h
def WpS (K:Fr0) (c:Fc) (σ:St) (H:Hp) (D:qhb):R Fl->Prop
 |.ok (.nx Z)=>∀σ' H',Rep K c Z σ' H'->GrS c.O σ H σ' H'->D.nx σ' H'
 |.ok (.rt d Z)=>∀v σ' H',Rep K c Z σ' H'->Is K c.B H' d v->GrS c.O σ H σ' H'->D.rt v H'
 |.ok (.bk Z)=>∀σ' H',Rep K c Z σ' H'->GrS c.O σ H σ' H'->D.bk σ' H'
 |.ok (.ct Z)=>∀σ' H',Rep K c Z σ' H'->GrS c.O σ H σ' H'->D.ct σ' H'
 |.exc x Z=>∀σ' H',Rep K c Z σ' H'->GrS c.O σ H σ' H'->c.E x H'
 |.bad=>False
abbrev MS:=Env->R Fl
def DS(X:Cx)(c:Fc)(st:Stmt)(f:MS):Prop:=∃t,PS X st t/\∀Z σ H D,Rep X.K c Z σ H->WpS X.K c σ H D (f Z)->t D σ H
def DSs(X:Cx)(c:Fc)(st:List Stmt)(f:MS):Prop:=∃t,PSs X st t/\∀Z σ H D,Rep X.K c Z σ H->WpS X.K c σ H D (f Z)->t D σ H
theorem WpS.gr {K:Fr0} {c:Fc} {σ σ1:St} {H H1:Hp} {D:qhb}:∀{r:R Fl},WpS K c σ H D r->GrS c.O σ H σ1 H1->WpS K c σ1 H1 D r
 |.ok (.nx Z),h,g=>λσ' H' hr hg=>h σ' H' hr (g.trans hg)
 |.ok (.rt d Z),h,g=>λv σ' H' hr hi hg=>h v σ' H' hr hi (g.trans hg)
 |.ok (.bk Z),h,g=>λσ' H' hr hg=>h σ' H' hr (g.trans hg)
 |.ok (.ct Z),h,g=>λσ' H' hr hg=>h σ' H' hr (g.trans hg)
 |.exc x Z,h,g=>λσ' H' hr hg=>h σ' H' hr (g.trans hg)
 |.bad,h,_=>h
def sbnd {α:Type} (f:M α) (k:α->MS):MS:=λZ=>match f Z with
 |.ok (a,Z')=>k a Z'
 |.exc x Z' => .exc x Z'
 |.bad => .bad
section
variable{K:Fr0}{c:Fc}{σ:St}{H:Hp}{D:qhb}
theorem Wp.sbnd {f:M Sk.D} {k:Sk.D->MS} {Z:Env} {Q':VK} (h:WpS K c σ H D (sbnd f k Z)) (hQ:∀d Z' v H',Rep K c Z' σ H'->Is K (Cn c σ) H' d v->Gr c.O σ H H'->WpS K c σ H' D (k d Z')->Q' v H'):Wp K c σ H Q' (f Z):=by
 unfold Sk.sbnd at h
 cases e:f Z with
 |ok p=>rw[e]at h;exact λv H' hr hi hg=>hQ p.1 p.2 v H' hr hi hg (h.gr hg.s)
 |exc x Z'=>rw[e]at h;exact λH' hr hg=>h σ H' hr hg.s
 |bad=>rw[e]at h;exact h
theorem WpB.sbnd {f:M Bool} {k:Bool->MS} {Z:Env} {Q':Bool->Hp->Prop} (h:WpS K c σ H D (sbnd f k Z)) (hQ:∀d Z' H',Rep K c Z' σ H'->Gr c.O σ H H'->WpS K c σ H' D (k d Z')->Q' d H'):WpB K c σ H Q' (f Z):=by
 unfold Sk.sbnd at h
 cases e:f Z with
 |ok p=>rw[e]at h;exact λH' hr hg=>hQ p.1 p.2 H' hr hg (h.gr hg.s)
 |exc x Z'=>rw[e]at h;exact λH' hr hg=>h σ H' hr hg.s
 |bad=>rw[e]at h;exact h
theorem WpL.sbnd {f:M (List Sk.D)} {k:List Sk.D->MS} {Z:Env} {Q':List V->Hp->Prop} (h:WpS K c σ H D (sbnd f k Z)) (hQ:∀d Z' v H',Rep K c Z' σ H'->IsL K (Cn c σ) H' d v->Gr c.O σ H H'->WpS K c σ H' D (k d Z')->Q' v H'):WpL K c σ H Q' (f Z):=by
 unfold Sk.sbnd at h
 cases e:f Z with
 |ok p=>rw[e]at h;exact λv H' hr hi hg=>hQ p.1 p.2 v H' hr hi hg (h.gr hg.s)
 |exc x Z'=>rw[e]at h;exact λH' hr hg=>h σ H' hr hg.s
 |bad=>rw[e]at h;exact h
end
def qE (f g:MS):MS:=λZ=>match f Z with
 |.ok (.nx Z')=>g Z'
 |r=>r
theorem WpS.mono_nx {K:Fr0} {c:Fc} {σ:St} {H:Hp} {D:qhb} {f g:MS} {Z:Env} {N:St->Hp->Prop} (h:WpS K c σ H D (qE f g Z)) (hN:∀Z' σ' H',Rep K c Z' σ' H'->GrS c.O σ H σ' H'->WpS K c σ' H' D (g Z')->N σ' H') :
  WpS K c σ H {D with nx:=N} (f Z):=by
 unfold qE at h
 cases e:f Z with
 |ok fl=>
  rw[e]at h
  cases fl with
  |nx Z'=>exact λσ' H' hr hg=>hN Z' σ' H' hr hg (h.gr hg)
  |rt d Z'=>exact h
  |bk Z'=>exact h
  |ct Z'=>exact h
 |exc x Z'=>rw[e]at h;exact h
 |bad=>rw[e]at h;exact h
section
variable{X:Cx}{c:Fc}{a b e:Expr}{pos:Pos}{st:Stmt}{sts:List Stmt}
theorem qlq:DSs X c [] (λZ => .ok (.nx Z)):=⟨_,qk8,λZ σ H D r h=>h σ H r .refl⟩
theorem qm {f:MS} (h:DS X c st f):DSs X c [st] f:=by
 obtain⟨t,p,w⟩:=h
 exact⟨t,qhd p,w⟩
theorem qh {f g:MS} (h:DS X c st f) (hr:DSs X c sts g):DSs X c (st::sts) (qE f g):=by
 obtain⟨t,p,w⟩:=h
 obtain⟨t2,p2,w2⟩:=hr
 exact⟨_,qi3 p p2,λZ σ H D r h=>w Z σ H _ r (h.mono_nx λZ' σ' H' r' g' h'=>w2 Z' σ' H' D r' h')⟩
def zu(f:M D):MS:=sbnd f λd Z => .ok (.rt d Z)
theorem Is.cn{K:Fr0}{σ:St}{H:Hp}{d:D}{v:V}(h:Is K (Cn c σ) H d v):Is K c.B H d v:=Is.ext Ext.refl (λ_ h _=>h.1) h
theorem qy {f:M D} (h:DE X c e f):DS X c (.Return (some e) pos) (zu f):=by
 obtain⟨t,p,w⟩:=h
 exact⟨_,qkb p,λZ σ H D r h=>w Z σ H _ r (Wp.sbnd h λd Z1 v H1 r1 i1 g1 h1=>h1 v σ H1 r1 i1.cn .refl)⟩
def vW(f:M D):MS:=sbnd f λ_ Z => .ok (.nx Z)
theorem wG {f:M D} (h:DE X c e f) (hs:yc0 e none pos.line X.env=pure false:=by rfl):DS X c (.Expr e pos) (vW f):=by
 obtain⟨t,p,w⟩:=h
 exact⟨_,qk9 p hs,λZ σ H D r h=>w Z σ H _ r (Wp.sbnd h λd Z1 v H1 r1 i1 g1 h1=>h1 σ H1 r1 .refl)⟩
def sif(f:M Bool)(g k:MS):MS:=sbnd f λb=>if b then g else k
theorem jk {t:Expr} {s1 s2:List Stmt} {f:M Bool} {g k:MS} (ht:DT X c t f) (ha:DSs X c s1 g) (hb:DSs X c s2 k):DS X c (.If t s1 s2 pos) (sif f g k):=by
 obtain⟨tt,pt,wt⟩:=ht
 obtain⟨ta,pa,wa⟩:=ha
 obtain⟨tb,pb,wb⟩:=hb
 refine⟨_,qoX pt pa pb,λZ σ H D rp h=>wt Z σ H _ rp (WpB.sbnd h λd Z1 H1 r1 g1 h1=>?_)⟩
 cases d with
 |true=>exact qmJ (wa Z1 σ H1 D r1 (by simpa using h1))
 |false=>exact qmI (wb Z1 σ H1 D r1 (by simpa using h1))
theorem jm{α:Type}{l:List α}{i j:Nat}{v:α}(h:j≠i):(l.set i v)[j]? = l[j]? := List.getElem?_set_ne (ybk h)
theorem Cl.set {O:List Nat} {σ:St} {i:Nat} {v:Option V} (hi:i ∉ O) (a:Addr):Cl O (σ.set i v) a ↔ Cl O σ a:=by
 constructor
 ·intro h j hj
  have e:j≠i:=λe=>hi (e▸hj)
  have:=h j hj
  rw[jm e]at this
  exact this
 ·intro h j hj
  have e:j≠i:=λe=>hi (e▸hj)
  rw[jm e]
  exact h j hj
theorem Rep.set {K:Fr0} {Z:Env} {σ:St} {H:Hp} {i:Nat} {d:D} {v:V} (r:Rep K c Z σ H) (hi:i ∉ c.O) (h:Is K (Cn c σ) H d v):Rep K c (Z.set i (some d)) (σ.set i (some v)) H where
 len:=by rw[lS_,lS_];exact r.len
 val := λj e hj=>by
  have up:∀{d':D}{v':V},Is K (Cn c σ) H d' v'->Is K (Cn c (σ.set i (some v))) H d' v':=λh=>Is.ext Ext.refl (λa ha _=>⟨ha.1,(Cl.set hi a).mpr ha.2⟩) h
  by_cases e1:j=i
  ·subst e1
   have hl:j<Z.length:=by
    have:=(gI_.mp hj).1
    rwa [lS_]at this
   rw[List.getElem?_set_self hl]at hj
   cases hj
   refine⟨v,List.getElem?_set_self (by rw[<-r.len];exact hl),.inr ⟨hi,up h⟩⟩
  ·rw[jm e1]at hj
   obtain⟨w,h1,h2⟩:=r.val j e hj
   refine⟨w,by rw[jm e1];exact h1,?_⟩
   rcases h2 with⟨hj2,ds,a,xs,h3,h5,h6,h7⟩|⟨h3,h4⟩
   ·exact .inl ⟨hj2,ds,a,xs,h3,h5,h6,IsL.ext Ext.refl (λa ha _=>⟨ha.1,(Cl.set hi a).mpr ha.2⟩) h7⟩
   ·exact .inr ⟨h3,up h4⟩
 own:=λj hj w h=>by
  have e1:j≠i:=λe=>hi (e▸hj)
  rw[jm e1]at h
  exact r.own j hj w h
 inj:=λj k a hj hk h1 h2=>by
  have e1:j≠i:=λe=>hi (e▸hj)
  have e2:k≠i:=λe=>hi (e▸hk)
  rw[jm e1]at h1
  rw[jm e2]at h2
  exact r.inj j k a hj hk h1 h2
 b0:=r.b0
 kp:=r.kp
 dm:=r.dm
 pO:=r.pO
 ps:=λj hj=>by
  have e:j≠i:=λe=>hi (e▸r.pO j hj)
  rw[jm e];exact r.ps j hj
theorem GrS.set{O:List Nat}{σ:St}{H:Hp}{i:Nat}{v:Option V}(hi:i ∉ O):GrS O σ H (σ.set i v) H:=⟨Ext.refl,λb h _=>(Cl.set hi b).mpr h,λ_ h=>h⟩
def qN(i:Nat)(f:M D):MS:=sbnd f λd Z => .ok (.nx (Z.set i (some d)))
theorem qJ {i:Nat} {x:Str} {pos':Pos} {f:M D} (hN:X.N.Nodup) (he:DE X c e f) (ho:i ∉ c.O:=by exact of_decide_eq_false rfl) (hi:X.N[i]? = some x:=by rfl) (hx:Loc X.env.scope x:=by first|exact ybr rfl|exact ya3 rfl) (hs:yc0 e (some (.Name x pos')) pos.line X.env=pure false:=by rfl) (hf:X.fn x=true\/X.env.scope.names.lookup x=some .local:=by first|exact .inl rfl|exact .inr rfl|assumption) :
  DS X c (.Assign [.Name x pos'] e pos) (qN i f):=by
 obtain⟨t,p,w⟩:=he
 refine⟨_,qkd hN hi hx p hs hf,λZ σ H D r h=>w Z σ H _ r (Wp.sbnd h λd Z1 v H1 r1 i1 g1 h1=>?_)⟩
 exact h1 _ H1 (r1.set ho i1) (.set ho)
def DG (X:Cx) (c:Fc) (tg:Expr) (f:D->Env->Option Env):Prop:=∃g,PG X tg g/\∀Z σ H d v Z' (N:St->Hp->Prop),Rep X.K c Z σ H->Is X.K (Cn c σ) H d v->f d Z=some Z' ->
 (∀σ',Rep X.K c Z' σ' H->GrS c.O σ H σ' H->(∀j∈c.O,σ'[j]? = σ[j]?)->N σ' H)->g v σ H N
def qt(i:Nat):D->Env->Option Env:=λd Z=>some (Z.set i (some d))
theorem qY {i:Nat} {x:Str} (hN:X.N.Nodup) (ho:i ∉ c.O:=by exact of_decide_eq_false rfl) (hi:X.N[i]? = some x:=by rfl) (hx:Loc X.env.scope x:=by first|exact ybr rfl|exact ya3 rfl) (hf:X.fn x=true\/X.env.scope.names.lookup x=some .local:=by first|exact .inl rfl|exact .inr rfl|assumption) {p:Pos}:DG X c (.Name x p) (qt i):=by
 refine⟨_,qla hN hi hx hf,λZ σ H d v Z' N r h e k=>?_⟩
 cases e
 exact k _ (r.set ho h) (.set ho) λj hj=>jm λe=>ho (e▸hj)
def DGs (X:Cx) (c:Fc) (tgs:List Expr) (f:List D->Env->Option Env):Prop:=∃g,PGs X tgs g/\∀Z σ H ds vs Z' (N:St->Hp->Prop),Rep X.K c Z σ H->IsL X.K (Cn c σ) H ds vs->f ds Z=some Z' ->
 (∀σ',Rep X.K c Z' σ' H->GrS c.O σ H σ' H->(∀j∈c.O,σ'[j]? = σ[j]?)->N σ' H)->g vs σ H N
def qa2:List D->Env->Option Env
 | [],Z=>some Z
 |_,_=>none
def zm (f:D->Env->Option Env) (g:List D->Env->Option Env):List D->Env->Option Env
 |d::ds,Z=>(f d Z).bind (g ds)
 |_,_=>none
theorem vX:DGs X c [] qa2:=by
 refine⟨_,qlb,λZ σ H ds vs Z' N r h e k=>?_⟩
 cases ds with
 |nil=>
  cases e
  exact⟨h,k σ r .refl λ_ _=>rfl⟩
 |cons d ds=>cases e
theorem zw {tg:Expr} {tgs:List Expr} {f:D->Env->Option Env} {g:List D->Env->Option Env} (h1:DG X c tg f) (h2:DGs X c tgs g)
  (hs:(ybx (tg::tgs) X.env).map (·.2)=ycg tg X.env::(ybx tgs X.env).map (·.2):=by rfl):DGs X c (tg::tgs) (zm f g):=by
 obtain⟨t1,p1,w1⟩:=h1
 obtain⟨t2,p2,w2⟩:=h2
 refine⟨_,qi4 p1 p2 hs,λZ σ H ds vs Z' N r h e k=>?_⟩
 cases ds with
 |nil=>cases e
 | cons d ds=>
  obtain⟨v,ws,rfl,i1,i2⟩:=h
  have e':(f d Z).bind (g ds)=some Z':=e
  cases e1:f d Z with
  |none=>rw[e1]at e';cases e'
  |some Z1=>
   rw[e1]at e'
   exact⟨v,ws,rfl,w1 Z σ H d v Z1 _ r i1 e1 λσ1 r1 g1 o1=>w2 Z1 σ1 H ds ws Z' N r1 (g1.isL i2) e' λσ2 r2 g2 o2=>k σ2 r2 (g1.trans g2) λj hj=>(o2 j hj).trans (o1 j hj)⟩
def qa3 (n:Nat) (g:List D->Env->Option Env):D->Env->Option Env
 |.tup ds,Z=>if ds.length=n then g ds Z else none
 |_,_=>none
theorem qaJ {es:List Expr} {k n:Nat} {p:Pos} {g:List D->Env->Option Env} (hc:X.calm=true) (h:DGs X c es g) (hn:(ybx es X.env).length=n:=by rfl) (hst:(ybx es X.env).findIdx? (·.1)=none:=by rfl):DG X c (.Tuple es k p) (qa3 n g):=by
 obtain⟨t,p,w⟩:=h
 refine⟨_,qm3 (n:=n) hc p hn hst,λZ σ H d v Z' N r h e q=>?_⟩
 cases d with
 | tup ds=>
  obtain⟨a,xs,rfl,ta,il⟩:=h
  have e':(if ds.length=n then g ds Z else none)=some Z':=e
  by_cases hl:ds.length=n
  ·rw[if_pos hl]at e'
   exact⟨a,xs,rfl,ta.sq,by rw[il.length];exact hl,w Z σ H ds xs Z' N r il e' q⟩
  ·rw[if_neg hl]at e';cases e'
 |_=>cases e
def qiV (f:M D) (g:D->Env->Option Env):MS:=sbnd f λd Z=>match g d Z with
 |some Z' => .ok (.nx Z')
 |none => .bad
theorem qfK {tg:Expr} {f:M D} {g:D->Env->Option Env} (he:DE X c e f) (hg:DG X c tg g) (hs:ycQ [tg] e pos.line X.env=pure false:=by rfl) (hw:ycR [tg] e X.env=pure none:=by rfl) (h1:(ybx [tg] X.env).map (·.2)=[ycg tg X.env]:=by rfl):DS X c (.Assign [tg] e pos) (qiV f g):=by
 obtain⟨t,p,w⟩:=he
 obtain⟨t2,p2,w2⟩:=hg
 refine⟨_,qkc p p2 hs hw h1,λZ σ H D r h=>w Z σ H _ r (Wp.sbnd h λd Z1 v H1 r1 i1 g1 h1=>?_)⟩
 cases e:g d Z1 with
 |none=>rw[e]at h1;exact h1.elim
 |some Z2=>
  rw[e]at h1
  exact w2 Z1 σ H1 d v Z2 _ r1 i1 e λσ' r2 g2 _=>h1 σ' H1 r2 g2
end
section
variable{K:Fr0}
def iiD (g:Int->Int->D):D->D->OD
 |.int i,.int j=>some (g i j)
 |_,_=>none
def qkj (C:Int->Int->Bool) (g:Int->Int->D):D->D->OD
 |.int i,.int j=>if C i j then some (g i j)else none
 |_,_=>none
theorem qb7 {g:Int->Int->V} {gD:Int->Int->D} (hg:∀A H i j,Is K A H (gD i j) (g i j)):OpS K (iiD gD) (rI0 g):=by
 intro A H x y d v u Q hn ix iy e k
 cases x<;>cases y<;>simp only[iiD]at e<;>try (cases e;done)
 rename_i i j
 cases (yaM e)
 cases (show v=.int i from ix)
 cases (show u=.int j from iy)
 exact⟨i,j,rfl,rfl,k _ H (yn.refl H) (hg _ _ _ _)⟩
theorem qhA {C:Int->Int->Prop} {CB:Int->Int->Bool} {g:Int->Int->V} {gD:Int->Int->D} (hC:∀i j,CB i j=true->C i j) (hg:∀A H i j,Is K A H (gD i j) (g i j)):OpS K (qkj CB gD) (rI C g):=by
 intro A H x y d v u Q hn ix iy e k
 cases x<;>cases y<;>simp only[qkj]at e<;>try (cases e;done)
 rename_i i j
 obtain⟨e1,e2⟩:=jt e
 subst e2
 cases (show v=.int i from ix)
 cases (show u=.int j from iy)
 exact⟨i,j,rfl,rfl,hC i j e1,k _ H (yn.refl H) (hg _ _ _ _)⟩
def yO:D->D->OD:=iiD λi j => .int (i-j)
theorem vm:OpS K yO (rI0 λi j => .int (i-j)):=qb7 λ_ _ _ _=>rfl
def ug(i:Int):Bool:=decide (-(2 ^ 64)<i)&&decide (i<2 ^ 64)
theorem qd8 {i:Int} (h:ug i=true) : -(2 ^ 64)<i/\i<2 ^ 64:=by
 unfold ug at h
 rw[yal]at h
 exact⟨of_decide_eq_true h.1,of_decide_eq_true h.2⟩
def qeY(i j:Int):Bool:=ug i||ug j
theorem qjf {i j:Int} (h:qeY i j=true):qna i j:=by
 unfold qeY at h
 rw[yda]at h
 rcases h with h|h
 ·exact .inl (qd8 h)
 ·exact .inr (qd8 h)
def qgy(i j:Int):Bool:=decide (0<j)&&decide (j<1606938044258990275541962092341162602522202993782792835301376)
theorem qfL {i j:Int} (h:qgy i j=true):qm9 i j:=by
 unfold qgy at h
 rw[yal]at h
 exact⟨of_decide_eq_true h.1,of_decide_eq_true h.2⟩
def vA:D->D->OD:=qkj qgy λi j => .int (i/j)
theorem y8:OpS K vA (rI qm9 λi j => .int (i/j)):=qhA (λ_ _=>qfL) λ_ _ _ _=>rfl
def qeZ:D->D->OD:=qkj (λ_ j=>decide (0<j)) λi j => .int (i%j)
theorem qas:OpS K qeZ (rI (λ_ j=>0<j) λi j => .int (i%j)):=qhA (λ_ _ h=>of_decide_eq_true h) λ_ _ _ _=>rfl
def ltD:D->D->OD:=iiD λi j => .bl (decide (i<j))
def leD:D->D->OD:=iiD λi j => .bl (decide (i<=j))
def gtD:D->D->OD:=iiD λi j => .bl (decide (j<i))
def geD:D->D->OD:=iiD λi j => .bl (decide (j<=i))
theorem qd9:OpS K ltD (rI0 λi j => .bl (decide (i<j))):=qb7 λ_ _ _ _=>rfl
theorem qny:OpS K leD (rI0 λi j => .bl (decide (i<=j))):=qb7 λ_ _ _ _=>rfl
theorem qb8:OpS K gtD (rI0 λi j => .bl (decide (j<i))):=qb7 λ_ _ _ _=>rfl
theorem qhB:OpS K geD (rI0 λi j => .bl (decide (j<=i))):=qb7 λ_ _ _ _=>rfl
def sc2:D->D->Option Bool
 |.non,.non=>some true|.non,.int _=>some false|.int _,.non=>some false|.non,.bl _=>some false|.bl _,.non=>some false|.non,.str _=>some false|.str _,.non=>some false
 |.int i,.int j=>some (decide (i=j))|.bl i,.bl j=>some (decide (i=j))|.str i,.str j=>some (decide (i=j))
 |.int _,.str _=>some false|.str _,.int _=>some false|.bl _,.str _=>some false|.str _,.bl _=>some false
 |_,_=>none
def eqS(x y:D):OD:=(sc2 x y).map D.bl
def neS(x y:D):OD:=(sc2 x y).map λb=>D.bl (!b)
theorem qkk {A:Addr->Prop} {H:Hp} {x y:D} {v u:V} {b:Bool} (ix:Is K A H x v) (iy:Is K A H y u) (e:sc2 x y=some b):scal v u=true/\decide (v=u)=b:=by
 cases x<;>cases y<;>simp only[sc2]at e<;>first
  |(cases e;done)
  |(cases ix;cases iy;cases e;exact⟨rfl,rfl⟩)
  |(cases ix;cases iy;cases e;exact⟨rfl,by simp⟩)
  |(cases ix;cases iy;cases e;exact⟨rfl,by rw[ybg];simp⟩)
theorem qlr:OpS K eqS rEq:=by
 intro A H x y d v u Q hn ix iy e k
 unfold eqS at e
 cases e1:sc2 x y with
 |none=>rw[e1]at e;cases e
 |some b=>
  rw[e1]at e
  cases e
  obtain⟨h1,h2⟩:=qkk ix iy e1
  exact⟨h1,by rw[h2];exact k _ H (yn.refl H) rfl⟩
theorem qhC:OpS K neS rNe:=by
 intro A H x y d v u Q hn ix iy e k
 unfold neS at e
 cases e1:sc2 x y with
 |none=>rw[e1]at e;cases e
 |some b=>
  rw[e1]at e
  cases e
  obtain⟨h1,h2⟩:=qkk ix iy e1
  exact⟨h1,by rw[h2];exact k _ H (yn.refl H) rfl⟩
def yp:D->Bool
 |.non=>true
 |_=>false
theorem qbP {A:Addr->Prop} {H:Hp} {x:D} {v:V} (ix:Is K A H x v):decide (v=V.non)=yp x:=by
 cases x with
 |non=>cases ix;rfl
 |bl b=>cases ix;rfl
 |int i=>cases ix;rfl
 |str s=>cases ix;rfl
 |tup ds=>obtain⟨a,xs,rfl,_⟩:=ix;rfl
 |lst ds=>obtain⟨a,xs,rfl,_⟩:=ix;rfl
 |dic ds=>obtain⟨a,rfl,_⟩:=ix;rfl
 |fz ds=>obtain⟨a,rfl,_⟩:=ix;rfl
 |exc ds=>obtain⟨a,rfl,_⟩:=ix;rfl
def isN(x y:D):OD:=if yp y then some (.bl (yp x))else none
def qeO(x y:D):OD:=if yp y then some (.bl (!yp x))else none
theorem qa5:OpS K isN (λx y H Q=>y=.non/\Q (.bl (decide (x=.non))) H):=by
 intro A H x y d v u Q hn ix iy e k
 obtain⟨e1,e2⟩:=jt e
 subst e2
 have h:=qbP iy
 rw[e1]at h
 refine⟨of_decide_eq_true h,?_⟩
 rw[qbP ix]
 exact k _ H (yn.refl H) rfl
theorem qdh:OpS K qeO (λx y H Q=>y=.non/\Q (.bl (!decide (x=.non))) H):=by
 intro A H x y d v u Q hn ix iy e k
 obtain⟨e1,e2⟩:=jt e
 subst e2
 have h:=qbP iy
 rw[e1]at h
 refine⟨of_decide_eq_true h,?_⟩
 rw[qbP ix]
 exact k _ H (yn.refl H) rfl
def ixD:D->D->OD
 |.tup ds,.int i=>atI ds i
 |.lst ds,.int i=>atI ds i
 |.fz ns,.int i=>(atI ns i).map D.int
 |_,_=>none
theorem IsL.atI {A:Addr->Prop} {H:Hp} {ds:List D} {xs:List V} {i:Int} {d:D} (h:IsL K A H ds xs) (e:L2.atI ds i=some d):∃v,L2.atI xs i=some v/\Is K A H d v:=by
 unfold L2.atI at e |-
 rw[h.length]
 cases e1:ixN ds.length i with
 |none=>rw[e1]at e;cases e
 |some j=>
  rw[e1]at e
  exact h.get e
theorem qp:OpS K ixD (λx y H Q=>qo9 K x y H Q\/qpa K x y H Q):=by
 intro A H x y d v u Q hn ix iy e k
 cases x<;>cases y<;>simp only[ixD]at e<;>try (cases e;done)
 ·rename_i ds i
  cases iy
  obtain⟨a,xs,rfl,ta,il⟩:=ix
  obtain⟨w,h1,h2⟩:=il.atI e
  exact .inr ⟨a,xs,i,w,rfl,rfl,ta.sq,h1,k w H (yn.refl H) h2⟩
 ·rename_i ds i
  cases iy
  obtain⟨a,xs,rfl,_,ta,il⟩:=ix
  obtain⟨w,h1,h2⟩:=il.atI e
  exact .inl ⟨a,xs,i,w,rfl,rfl,.inl (.inl ta),h1,k w H (yn.refl H) h2⟩
 ·rename_i ns i
  cases iy
  obtain⟨a,rfl,ta⟩:=ix
  cases e1:L2.atI ns i with
  |none=>rw[e1]at e;cases e
  | some m=>
   rw[e1]at e
   cases e
   have h1:L2.atI (ns.map V.int) i=some (V.int m):=by
    unfold L2.atI at e1 |-
    rw[lM_]
    cases e2:ixN ns.length i with
    |none=>rw[e2]at e1;cases e1
    |some j=>
     rw[e2]at e1
     have e3:ns[j]? = some m:=e1
     show(ns.map V.int)[j]? = some (V.int m)
     rw[gM_,e3];rfl
   exact .inl ⟨a,_,i,.int m,rfl,rfl,ta.sq,h1,k _ H (yn.refl H) rfl⟩
theorem IsL.inv1 {A:Addr->Prop} {H:Hp} {d:D} {vs:List V} (h:IsL K A H [d] vs):∃v,vs=[v]/\Is K A H d v:=by
 obtain⟨x,ys,e1,e2,e3⟩:=h
 have e3':ys=[]:=e3
 exact⟨x,by rw[e1,e3'],e2⟩
theorem IsL.inv2 {A:Addr->Prop} {H:Hp} {d d':D} {vs:List V} (h:IsL K A H [d,d'] vs):∃v w,vs=[v,w]/\Is K A H d v/\Is K A H d' w:=by
 obtain⟨x,ys,e1,e2,e3⟩:=h
 obtain⟨w,e4,e5⟩:=IsL.inv1 e3
 exact⟨x,w,by rw[e1,e4],e2,e5⟩
def qoH:List D->OD
 | [.int i]=>some (.int (if i<0 then -i else i))
 |_=>none
theorem qhD:qbI K qoH (λxs H Q=>∃i,xs=[.int i]/\Q (.int (if i<0 then -i else i)) H):=by
 intro A H xs d vs Q hn h e k
 unfold qoH at e
 split at e
 ·rename_i i
  obtain⟨v,rfl,e2⟩:=IsL.inv1 h
  cases e2;cases e
  exact⟨i,rfl,k _ H (yn.refl H) rfl⟩
 ·cases e
def qls:List D->OD
 | [.int i,.int j]=>some (.int (if j>i then j else i))
 |_=>none
def qaf:List D->OD
 | [.int i,.int j]=>some (.int (if j<i then j else i))
 |_=>none
theorem qhE:qbI K qls (λxs H Q=>∃i j,xs=[.int i,.int j]/\Q (.int (if j>i then j else i)) H):=by
 intro A H xs d vs Q hn h e k
 unfold qls at e
 split at e
 ·rename_i i j
  obtain⟨v,w,rfl,e2,e3⟩:=IsL.inv2 h
  cases e2;cases e3;cases e
  exact⟨i,j,rfl,k _ H (yn.refl H) rfl⟩
 ·cases e
theorem qaK:qbI K qaf (λxs H Q=>∃i j,xs=[.int i,.int j]/\Q (.int (if j<i then j else i)) H):=by
 intro A H xs d vs Q hn h e k
 unfold qaf at e
 split at e
 ·rename_i i j
  obtain⟨v,w,rfl,e2,e3⟩:=IsL.inv2 h
  cases e2;cases e3;cases e
  exact⟨i,j,rfl,k _ H (yn.refl H) rfl⟩
 ·cases e
def qb9:List D->OD
 | [.int i,.int j]=>if qgy i j then some (.tup [.int (i/j),.int (i%j)])else none
 |_=>none
theorem qea:qbI K qb9 (λxs H Q=>∃i j,xs=[.int i,.int j]/\qm9 i j/\∀p,H p=none->Q (.ref p) (upd H p (.tup [.int (i/j),.int (i%j)]))):=by
 intro A H xs d vs Q hn h e k
 unfold qb9 at e
 split at e
 ·rename_i i j
  obtain⟨v,w,rfl,e2,e3⟩:=IsL.inv2 h
  cases e2;cases e3
  obtain⟨e6,e7⟩:=jt e
  subst e7
  exact⟨i,j,rfl,qfL e6,λp hp=>k _ _ (qG hp _) ⟨p,_,rfl,.inl qK,_,_,rfl,rfl,_,_,rfl,rfl,rfl⟩⟩
 ·cases e
def qqQ:List D->OD
 | [.int i]=>some (.int i)
 | [.bl b]=>some (.int (if b then 1 else 0))
 |_=>none
def yh:List D->OD
 | [.tup ds]=>some (.int ds.length)
 | [.lst ds]=>some (.int ds.length)
 | [.fz ns]=>some (.int ns.length)
 | [.str x]=>if zx x.length then some (.int x.length)else none
 |_=>none
def qp3(K:Fr0):List V->Hp->VK->Prop:=λxs H Q=>(∃p ys,xs=[.ref p]/\(SqL K H p ys\/SqT K H p ys)/\Q (.int ys.length) H)\/(∃z,xs=[.str z]/\z.length<=yaq/\Q (.int z.length) H)
theorem zj{X:Cx}:uC X (.builtin "len") (qp3 X.K):=uC.or qd2 qd3
theorem zn:qbI K yh (qp3 K):=by
 intro A H xs d vs Q hn h e k
 unfold yh at e
 split at e
 ·obtain⟨v,rfl,a,zs,rfl,ta,il⟩:=IsL.inv1 h
  cases e
  exact .inl ⟨a,zs,rfl,.inr ta.sq,by rw[il.length];exact k _ H (yn.refl H) rfl⟩
 ·obtain⟨v,rfl,a,zs,rfl,_,ta,il⟩:=IsL.inv1 h
  cases e
  exact .inl ⟨a,zs,rfl,.inl (.inl (.inl ta)),by rw[il.length];exact k _ H (yn.refl H) rfl⟩
 ·obtain⟨v,rfl,a,rfl,ta⟩:=IsL.inv1 h
  cases e
  exact .inl ⟨a,_,rfl,.inl ta.sq,by rw[lM_];exact k _ H (yn.refl H) rfl⟩
 ·rename_i z
  obtain⟨v,rfl,e2⟩:=IsL.inv1 h
  cases e2
  obtain⟨e4,e5⟩:=jt e
  subst e5
  exact .inr ⟨z,rfl,of_decide_eq_true e4,k _ H (yn.refl H) rfl⟩
 ·cases e
def qp4:List D->OD
 | [.tup ds]=>some (.tup ds)
 | [.lst ds]=>some (.tup ds)
 |_=>none
def qbJ:List D->OD
 | [.tup ds]=>some (.lst ds)
 | [.lst ds]=>some (.lst ds)
 |_=>none
theorem qcQ:qbI K qbJ (λxs H Q=>∃p ys,xs=[.ref p]/\(SqL K H p ys\/SqT K H p ys)/\∀l,H l=none->Q (.ref l) (upd H l (.lst ys))):=by
 intro A H xs d vs Q hn h e k
 unfold qbJ at e
 split at e
 ·obtain⟨v,rfl,a,zs,rfl,ta,il⟩:=IsL.inv1 h
  cases e
  exact⟨a,zs,rfl,.inr ta.sq,λl hl=>k _ _ (qG hl _) ⟨l,zs,rfl,hn l hl,qK,IsL.ext (Ext.of_same (qG hl _)) (λ_ h _=>h) il⟩⟩
 ·obtain⟨v,rfl,a,zs,rfl,_,ta,il⟩:=IsL.inv1 h
  cases e
  exact⟨a,zs,rfl,.inl (.inl (.inl ta)),λl hl=>k _ _ (qG hl _) ⟨l,zs,rfl,hn l hl,qK,IsL.ext (Ext.of_same (qG hl _)) (λ_ h _=>h) il⟩⟩
 ·cases e
end
end L2.Sk
namespace L2.Sk
open PySem PySem.Spec PySem.Calls PyProof.Rows PySem.W
def qkl(h:Heap)(a D:Addr):Prop:=∃o,h.get? a=some o/\o.cls=.ref D
theorem qkl.looks {M:Model} {h:Heap} {a D:Addr} (I:qkl h a D):Looks M h (typeOf (.ref a)) (.ref D):=by
 obtain⟨o,h1,h2⟩:=I
 rw[<-h2]
 exact(Looks.ld h1).andThen .now
section
variable{prog:yar}{w:World}{A:yas}{E:Value->yab->Prop}{K:Frag}{h:Heap}{g:Array yfP}{d:Drawn}{t:Nat}{os:OsState}{a D:Addr}
theorem qnz (hm:mroIn K D (.type "object")=some true) {tp:Value} {R:ydT->yab->Prop} (X:K.In h) (I:qkl h a D) (hq:R (.ok (.ret (.ref D))) ⟨h,g,d,t,os⟩) :
  ybW (model prog w) A (.call (.builtin "getset_descriptor.__get__") ⟨[.builtin "object.__class__",.ref a,tp],[]⟩) R ⟨h,g,d,t,os⟩:=by
 have L0:=I.looks (M:=model prog w)
 have L1:=looks_mroIn (M:=model prog w) X hm
 have hT5:(⟨h,g,d,t,os⟩:yab).TypeIs (.builtin "object.__class__") "getset_descriptor":=yc2
 refine yeK F.slot_gs_get.plain F.entry_gs_get (F.slot_gs_get.check _ _ _ _ _ _ _ _ hT5 (F.args_gs_get _ _ _) ?_)
 have eo:".".intercalate ("object.__class__".cutAt '.').dropLast="object":=by decide +kernel
 repeat (any_goals (first|assumption|with_reducible refine L0.at ?_|with_reducible refine L1.at ?_|wp_step))
 rw[eo]
 refine L1.at ?_
 repeat (any_goals (first|assumption|with_reducible refine L0.at ?_|wp_step))
 refine⟨Code.quiet_builtin _ (by decide +kernel),yed F.entry_object_class ?_⟩
 repeat (any_goals (first|assumption|with_reducible refine L0.at ?_|wp_step))
theorem qjg (ha:findIn K (.ref D) "__class__"=some (some (.builtin "object.__class__"))) (hm:mroIn K D (.type "object")=some true) {tk:Tok} {Q:Fin->yab->Prop} (X:K.In h) (I:qkl h a D) (hq:Q (.done (.ret (.ref D))) ⟨h,g,d,t,os⟩) :
  wpAny (model prog w) A (ycn.«object.__getattribute__» ⟨[.ref a,.str "__class__" tk],[]⟩) Q E ⟨h,g,d,t,os⟩:=by
 have L0:=I.looks (M:=model prog w)
 have L1:=looks_findIn (M:=model prog w) X ha
 have hT5:(⟨h,g,d,t,os⟩:yab).TypeIs (.builtin "object.__class__") "getset_descriptor":=yc2
 have f5:=yc2
 have f6:=F.slot_gs_get.lookup
 have f7:=F.slot_gs_set.lookup
 repeat (any_goals (first|assumption|with_reducible refine L0.at ?_|with_reducible refine L1.at ?_|wp_step))
 refine qnz hm X I ?_
 repeat (any_goals (first|assumption|wp_step))
theorem qjh (hb:Looks (model prog w) h (isSubtype (.ref D) (.type "BaseException")) true) {nameV:Value} {Q:Unit->yab->Prop} (I:qkl h a D) (hq:Q () ⟨h,g,d,t,os⟩):wpAny (model prog w) A (checkBuiltinCall "BaseException.__getattribute__" ⟨[.ref a,nameV],[]⟩) Q E ⟨h,g,d,t,os⟩:=by
 have hk:builtinKind "BaseException.__getattribute__"=some .slot:=by decide +kernel
 have hsplit:splitId "BaseException.__getattribute__"=some ("BaseException","__getattribute__"):=by decide +kernel
 have L0:=I.looks (M:=model prog w)
 have ha:=F.args_bexc_ga (.ref a) nameV
 simp only[checkBuiltinCall,hk,hsplit]
 refine yaa ?_
 ·unfold isInstance
  repeat (first|with_reducible refine L0.at ?_|with_reducible refine hb.at ?_|wp_step)
  exact hq
theorem qpe (FA:ExcAttrFacts "ValueError") (hga:findIn K (.ref D) "__getattribute__"=some (some (.builtin "BaseException.__getattribute__"))) (hgt:findIn K (.ref D) "__getattr__"=some none) (ha:findIn K (.ref D) "__class__"=some (some (.builtin "object.__class__"))) (hm:mroIn K D (.type "object")=some true)
  (hb:Looks (model prog w) h (isSubtype (.ref D) (.type "BaseException")) true) {tk:Tok} {fill expr:Bool} {Q:Value->yab->Prop} (X:K.In h) (I:qkl h a D) (hq:Q (.ref D) ⟨h,g,d,t,os⟩) :
  wpAny (model prog w) A (getAttrBy (.ref a) (.str "__class__" tk) fill expr) Q E ⟨h,g,d,t,os⟩:=by
 have L0:=I.looks (M:=model prog w)
 have L1:=looks_findIn (M:=model prog w) X hga
 have L2:=looks_findIn (M:=model prog w) X hgt
 have f3:=FA.ga.bind (.ref a)
 have hx0:(expr&&onTheHeap (ycU "BaseException.__getattribute__"))=false:=by cases expr<;>rfl
 have hx2:(ycU "BaseException.__getattribute__"==ycU "object.__getattribute__")=false:=by decide +kernel
 have hx1:(onTheHeap (yaj D)&&ycU "BaseException.__getattribute__"==ycU "object.__getattribute__")=false:=by rw[hx2];rfl
 repeat (any_goals (first|assumption|with_reducible refine L0.at ?_|with_reducible refine L1.at ?_|with_reducible refine L2.at ?_|wp_step))
 refine yeK FA.ga.plain F.entry_bexc_ga (qjh hb I (qjg ha hm X I ?_))
 repeat (any_goals (first|assumption|wp_step))
theorem qlt (FA:ExcAttrFacts "ValueError") (hga:findIn K (.ref D) "__getattribute__"=some (some (.builtin "BaseException.__getattribute__"))) (hgt:findIn K (.ref D) "__getattr__"=some none) (ha:findIn K (.ref D) "__class__"=some (some (.builtin "object.__class__"))) (hm:mroIn K D (.type "object")=some true)
  (hb:Looks (model prog w) h (isSubtype (.ref D) (.type "BaseException")) true) {Q:Option Value->yab->Prop} (X:K.In h) (I:qkl h a D) (hq:Q (some (.ref D)) ⟨h,g,d,t+1,os⟩) :
  wpAny (model prog w) A (getAttr? (.ref a) "__class__") Q E ⟨h,g,d,t,os⟩:=by
 unfold getAttr? getAttrBy?
 repeat (any_goals (first|assumption|with_reducible apply qpe FA hga hgt ha hm hb X I|wp_step))
end
theorem qji {K:Frag} {a D:Addr} (c:XK6 K D):KitX K (.ref a) (.ref D) (λh=>qkl h a D) where
 ty:=λ_ _ _ I=>I.looks
 it := λ_ _ X _=>by
  obtain⟨cdD,hcD⟩:=Option.isSome_iff_exists.mp c.is
  unfold clsIn at hcD
  split at hcD
  ·rename_i c' d' cd' sl' ho
   intro A' Q' E' s' k q
   unfold isType loadHead
   exact yaa (wpAny_loadPart (k _ _ (X _ _ ho)) (yag q))
  ·cases hcD
 ne := λh tp dd its n sl X htp=>by
  obtain⟨cdD,hcD⟩:=Option.isSome_iff_exists.mp c.is
  refine Bool.eq_false_iff.mpr λq=>?_
  have e:D=tp:=Value.ref.inj (beq_iff_eq.mp q)
  subst e
  unfold clsIn at hcD
  split at hcD
  ·rename_i c' d' cd' sl' ho
   have z:=(X _ _ ho).symm.trans htp
   cases z
  ·cases hcD
 ca:=λ{prog w A E Q s} X p k=>by
  have I:=p
  obtain⟨h,g,d,t,os⟩:=s
  exact qlt PySem.F.attrBase_ValueError.toExcAttrFacts c.ga c.gt c.cl c.ob (looks_subIn X c.be) X I k
theorem qcR {X:Cx} {pins:List (Addr×Obj)} {σ:St} {H:Hp} {s:yab} {A:yas} {E:Value->yab->Prop} {Q:Value->yab->Prop} {a C:Addr} {c:Value} {b:Bool} (I:Inv X pins σ H s) (xc:XK6 X.K C) (hH:∃o vs,H a=some (.frz o (.own a))/\o.cls=.ref C/\o.data=.fields vs)
  (e:kitOne X.K (.ref C) c=some b) (h:∀tk,Q (.bool b) {s with toks:=tk}):wpAny (model X.prog X.w) A (call (.builtin "isinstance") [.ref a,c]) Q E s:=by
 obtain⟨o,vs,h1,h2,_⟩:=hH
 obtain⟨p,_⟩:=(show uB X.prog X.w H s.heap a (.frz o (.own a))from I.hok a _ h1)
 exact kia_one (qji xc) I.kIn ⟨o,p,h2⟩ e (λz=>nomatch z) h
end L2.Sk
namespace L2.Sk
open PySem PySem.Spec PyProof.Rows
def tyD:D->String
 |.non=>"NoneType"
 |.bl _=>"bool"
 |.int _=>"int"
 |.str _=>"str"
 |.tup _=>"tuple"
 |.lst _=>"list"
 |.dic _=>"dict"
 |.fz _=>"list"
 |.exc _=>"exc"
def vB(t T:String):Bool:=t==T||(t=="bool"&&T=="int")
def qe0:List String:=["NoneType","bool","int","str","tuple","list","dict"]
theorem qlu (d:D) (h:∀C,d ≠ .exc C):tyD d∈qe0:=by
 cases d<;>first|(simp[tyD,qe0];done)|exact absurd rfl (h _)
structure qlv (K:Fr0) (T:String):Prop where
 ok:∀t∈qe0,yer K (.type t) (.type T)=some (vB t T)
 ex:T∈["int","bool","str","tuple","list","dict"]
 nx:vB "exc" T=false
theorem qhF {K:Fr0}:qlv K "int":=⟨λt ht=>by
 simp only[qe0,yav,nN_,or_false]at ht
 rcases ht with rfl|rfl|rfl|rfl|rfl|rfl|rfl<;>kernel_rfl,by decide,by decide⟩
theorem qdi {K:Fr0}:qlv K "bool":=⟨λt ht=>by
 simp only[qe0,yav,nN_,or_false]at ht
 rcases ht with rfl|rfl|rfl|rfl|rfl|rfl|rfl<;>kernel_rfl,by decide,by decide⟩
theorem qlw {K:Fr0}:qlv K "str":=⟨λt ht=>by
 simp only[qe0,yav,nN_,or_false]at ht
 rcases ht with rfl|rfl|rfl|rfl|rfl|rfl|rfl<;>kernel_rfl,by decide,by decide⟩
theorem uh {K:Fr0}:qlv K "tuple":=⟨λt ht=>by
 simp only[qe0,yav,nN_,or_false]at ht
 rcases ht with rfl|rfl|rfl|rfl|rfl|rfl|rfl<;>kernel_rfl,by decide,by decide⟩
section
variable{X:Cx}{pins:List (Addr×Obj)}{σ:St}{H:Hp}{s:yab}{A:Addr->Prop}{E:Value->yab->Prop}{Q:Value->yab->Prop}
theorem qnA {d:D} {v:V} {u:Value} {T:String} (I:Inv X pins σ H s) (h:Is X.K A H d v) (rv:yg v u) (kt:qlv X.K T) (hQ:∀tk,Q (.bool (vB (tyD d) T)) {s with toks:=tk}) :
  wpAny (model X.prog X.w) X.A (call (.builtin "isinstance") [u,.type T]) Q E s:=by
 by_cases hx:∃C,d=.exc C
 ·obtain ⟨C,rfl⟩:=hx
  obtain⟨a,rfl,xa⟩:=h
  cases (show u=yaj a from rv)
  have q:∀tk,Q (.bool false) {s with toks:=tk}:=λtk=>by
   have:=hQ tk
   rw[show tyD (.exc C)="exc" from rfl,kt.nx]at this
   exact this
  obtain⟨D0,h0,h1,h2⟩:=xa
  exact qcR I h1 h2 (h1.no T kt.ex) q
 have e:=kt.ok (tyD d) (qlu d λC hC=>hx ⟨C,hC⟩)
 cases d with
 |exc C=>exact absurd ⟨C,rfl⟩ hx
 |non=>cases h;exact vz I rv .non e hQ
 |bl b=>cases h;exact vz I rv (.bl b) e hQ
 |int i=>cases h;exact vz I rv (.int i) e hQ
 |str x=>cases h;exact vz I rv (.str x) e hQ
 |tup ds=>
  obtain⟨a,xs,rfl,ta,il⟩:=h
  cases (show u=yaj a from rv)
  obtain⟨its,r,p,z⟩:=I.tuple ta.sq
  obtain⟨o,h1,h2,_⟩:=p
  exact yaY ye7 I.kIn ⟨o,h1,h2⟩ e (λz=>nomatch z) hQ
 |lst ds=>
  obtain⟨a,xs,rfl,hA,ta,il⟩:=h
  exact vz I rv (.lst ta) e hQ
 |dic kvs=>
  obtain⟨a,rfl,hA,ta⟩:=h
  exact vz I rv (.dK ta) e hQ
 |fz ns=>
  obtain⟨a,rfl,ta⟩:=h
  cases (show u=yaj a from rv)
  obtain⟨its,r,p,z⟩:=I.list ta.sq
  obtain⟨o,h1,h2,_⟩:=p.isList
  exact yaY ydI I.kIn ⟨o,h1,h2⟩ e (λz=>nomatch z) hQ
end
def qaC(T:String)(f:M D):M D:=bnd f λd=>ret (.bl (vB (tyD d) T))
section
variable{X:Cx}{c:Fc}{a b e:Expr}{pos:Pos}
def qqR(K:Fr0)(T:String):List V->Hp->VK->Prop:=λxs H Q=>∃v d A,xs=[v,.ty T]/\Is K A H d v/\Q (.bl (vB (tyD d) T)) H
theorem qjj {T:String} (kt:qlv X.K T):uC X (.builtin "isinstance") (qqR X.K T):=by
 intro pins s σ H xs us Q I r h
 obtain⟨v,d,A,rfl,hi,q⟩:=h
 obtain⟨u,w,rfl,r1,r2⟩:=zM.two r
 cases (show w=yb2 T from r2)
 exact qnA I hi r1 kt λtk=>⟨.bl _,H,I.tok tk,rfl,q⟩
theorem vb {T:String} {x:Str} {p p2:Pos} {f:M D} (kt:qlv X.K T) (hg:Gl X "isinstance") (hm:X.mg "isinstance"=none) (hg2:Gl X x) (hm2:X.mg x=none) (hv2:yaz x=some (.type T)) (ha:DE X c a f)
  (hv:yaz "isinstance"=some (.builtin "isinstance"):=by first|rfl|exact PySem.boot_isinstance) (hn2:x≠"__name__":=by decide) (hdb2:(x==("__debug__":Str))=false:=by decide)
  (he:yah [a,.Name x p2] X.env=(false,eval a X.env)::yah [.Name x p2] X.env:=by rfl) (hpl:(yaR pos (yah [.Name x p2] X.env)).any (·.1)=false:=by rfl):DE X c (.Call (.Name "isinstance" p) [a,.Name x p2] [] pos) (qaC T f):=by
 obtain⟨t,pa,w⟩:=ha
 refine⟨_,qaH (qjj kt) hg hm hv (uu pa (uu (qhc (v:=.ty T) hg2 hm2 hv2 rfl hn2 hdb2) qby (by rfl)) he) (by decide) (by decide) he hpl,λZ σ H Q r h=>w Z σ H _ r (Wp.bnd h λd Z1 v H1 r1 i1 g1 h1=>?_)⟩
 exact⟨v,d,_,rfl,i1,h1 _ H1 r1 rfl .refl⟩
end
def wz:List D->Option (List Bool)
 | []=>some []
 |.bl b::r=>(wz r).map (b::·)
 |_=>none
def wH:List D->Option (List Int)
 | []=>some []
 |.int i::r=>(wH r).map (i::·)
 |_=>none
theorem vY {K:Fr0} {A:Addr->Prop} {H:Hp}:∀{ds:List D}{xs:List V}{bs:List Bool},IsL K A H ds xs->wz ds=some bs->xs=bs.map V.bl
 | [],_,_,h,e=>by cases e;exact h
 | .bl b::r,_,bs,⟨x,ys,hx,h1,h2⟩,e=>by
  cases h1
  cases e1:wz r with
  |none=>simp[wz,e1]at e
  |some l=>
   simp[wz,e1]at e
   subst e
   rw[hx,vY h2 e1];rfl
 |.non::_,_,_,_,e=>by cases e
 |.int _::_,_,_,_,e=>by cases e
 |.str _::_,_,_,_,e=>by cases e
 |.tup _::_,_,_,_,e=>by cases e
 |.lst _::_,_,_,_,e=>by cases e
 |.dic _::_,_,_,_,e=>by cases e
 |.fz _::_,_,_,_,e=>by cases e
 |.exc _::_,_,_,_,e=>by cases e
theorem qa6 {K:Fr0} {A:Addr->Prop} {H:Hp}:∀{ds:List D}{xs:List V}{bs:List Int},IsL K A H ds xs->wH ds=some bs->xs=bs.map V.int
 | [],_,_,h,e=>by cases e;exact h
 | .int b::r,_,bs,⟨x,ys,hx,h1,h2⟩,e=>by
  cases h1
  cases e1:wH r with
  |none=>simp[wH,e1]at e
  |some l=>
   simp[wH,e1]at e
   subst e
   rw[hx,qa6 h2 e1];rfl
 |.non::_,_,_,_,e=>by cases e
 |.bl _::_,_,_,_,e=>by cases e
 |.str _::_,_,_,_,e=>by cases e
 |.tup _::_,_,_,_,e=>by cases e
 |.lst _::_,_,_,_,e=>by cases e
 |.dic _::_,_,_,_,e=>by cases e
 |.fz _::_,_,_,_,e=>by cases e
 |.exc _::_,_,_,_,e=>by cases e
theorem qjk {bs:List Bool}:∀{us:List Value},zM (bs.map V.bl) us->LSm.BoolsAre us bs:=by
 induction bs with
 |nil=>intro us r;rw[yca]at r;cases r;exact .nil
 | cons b bs ih=>
  intro us r
  rw[mC_]at r
  cases r with
  |cons r1 r2=>
   cases (show _=yaQ b from r1)
   exact .cons b (ih r2)
section
variable{X:Cx}
theorem qjl (hc:X.calm=true):uC X (.builtin "all") (λxs H Q=>∃(p:Addr)(bs:List Bool),xs=[.ref p]/\H p=some (.lst (bs.map V.bl))/\Q (.bl (bs.all id)) H):=by
 intro pins s σ H xs us Q I r h
 obtain⟨p,bs,rfl,hp,q⟩:=h
 obtain⟨u,rfl,ru⟩:=zM.one r
 cases ru
 obtain⟨its,rv,pl,hz⟩:=I.list (SqL.of hp)
 have hl:=pl.isList
 have hb:=qjk rv
 have hlt:p<s.heap.objs.size:=by obtain⟨_,e,_⟩:=hl;exact yam e
 refine call_all_walk (yfB hl ?_)
 refine ⟨s.heap.objs.size,[s.heap.objs.size,p],[s.heap.objs.size],its.toArray.size,_,_,λi=>(bs[i]?).getD true,rfl,Walks.list (A:=X.A.in1) (I.ok.hd hc) _ p (yax hlt) its.toArray,
  ⟨⟨_,Heap.get?_push_size _ rfl,rfl,rfl⟩,hl.push _⟩,λi v s' Q' E' hP hQ=>?_,λh' tk hk=>?_⟩
 ·obtain⟨b,e,rfl⟩:=hb.get i v (by simpa using hP)
  simp only[e,Option.getD_some]at hQ
  exact ybc hQ
 ·have e:((yay its.toArray.size).all λi=>(bs[i]?).getD true)=bs.all id:=by
   rw[sT_,hb.length];exact LSm.range_all bs
  rw[e]
  exact⟨.bl _,H,I.kept (LSm.kept_iter hk),rfl,q⟩
end
def qmK:List D->OD
 | [.lst ds]=>(wz ds).map λbs => .bl (bs.all id)
 |_=>none
section
variable{K:Fr0}
theorem qhG:qbI K qmK (λxs H Q=>∃(p:Addr)(bs:List Bool),xs=[.ref p]/\H p=some (.lst (bs.map V.bl))/\Q (.bl (bs.all id)) H):=by
 intro A H xs d vs Q hn h e k
 unfold qmK at e
 split at e
 ·obtain⟨v,rfl,a,zs,rfl,_,ta,il⟩:=IsL.inv1 h
  obtain⟨bs,h1,h2⟩:=Option.map_eq_some_iff.mp e
  subst h2
  rw[vY il h1]at ta
  exact⟨a,bs,rfl,ta,k _ H (yn.refl H) rfl⟩
 ·cases e
end
section
variable{X:Cx}
def qkm(K:Fr0):R2:=λx y H Q=>∃a b ys,x=.ref a/\y=.ref b/\SqT K H a []/\SqT K H b ys/\Q (.ref b) H
theorem qjm:OpR X (ybp .Add) (qkm X.K):=by
 intro pins s σ H x y v u Q I rx ry h
 obtain⟨a,b,ys,rfl,rfl,ha,hb,q⟩:=h
 cases rx
 cases ry
 obtain⟨its,r1,p1,_⟩:=I.tuple ha
 obtain⟨its2,r2,p2,_⟩:=I.tuple hb
 cases r1
 obtain⟨⟨cls,dd,data,sl⟩,ho,hc,n,hd⟩:=id p1
 obtain⟨⟨cls2,dd2,data2,sl2⟩,ho2,hc2,n2,hd2⟩:=id p2
 simp only at hc hd hc2 hd2
 subst hc hd hc2 hd2
 exact yfb ⟨_,ho,rfl⟩ ⟨_,ho2,rfl⟩ ydW yeS ycN ycH (ycA _ _)
   (tuple_addW0 a b [].toArray its2.toArray n n2 dd dd2 sl sl2 (by simp)) ⟨ho,ho2,⟨.ref b,H,I,rfl,q⟩⟩
def qnB(K:Fr0):R2:=λx y H Q=>(∃i j,x=.int i/\y=.int j/\Q (.int (i+j)) H)\/((∃i j,x=.str i/\y=.str j/\i.length+j.length<=yaq/\Q (.str (i++j)) H)\/(qkm K x y H Q\/(qnl K x y H Q\/qp0 x y H Q)))
theorem qT:OpR X (ybp .Add) (qnB X.K):=OpR.or qnb (OpR.or qgs (OpR.or qjm (OpR.or qlk qns)))
end
def zf:D->D->OD
 |.int i,.int j=>some (.int (i+j))
 |.str x,.str y=>if zx (x.length+y.length)then some (.str (x++y))else none
 |.tup xs,.tup ys=>if zx (xs.length+ys.length)then some (.tup (xs++ys))else none
 |.lst xs,.lst ys=>if zx (xs.length+ys.length)then some (.lst (xs++ys))else none
 |_,_=>none
theorem qU {K:Fr0}:OpS K zf (qnB K):=by
 intro A H x y d v u Q hn ix iy e k
 cases x<;>cases y<;>simp only[zf]at e<;>try (cases e;done)
 ·rename_i i j
  cases ix;cases iy;cases e
  exact .inl ⟨i,j,rfl,rfl,k _ H (yn.refl H) rfl⟩
 ·rename_i i j
  cases ix;cases iy
  obtain⟨e1,e2⟩:=jt e
  subst e2
  exact .inr (.inl ⟨i,j,rfl,rfl,of_decide_eq_true e1,k _ H (yn.refl H) rfl⟩)
 ·rename_i ds es
  obtain⟨a,xs,rfl,ta,il⟩:=ix
  obtain⟨b,ys,rfl,tb,jl⟩:=iy
  obtain⟨e1,e2⟩:=jt e
  subst e2
  have hs:xs.length+ys.length<=yaq:=by rw[il.length,jl.length];exact of_decide_eq_true e1
  refine .inr (.inr ?_)
  cases ds with
  |nil=>
   have hx:xs=[]:=il
   subst hx
   exact .inl ⟨a,b,ys,rfl,rfl,ta.sq,tb.sq,k _ H (yn.refl H) ⟨b,ys,rfl,tb,jl⟩⟩
  | cons d0 ds=>
   refine .inr (.inl ⟨a,b,xs,ys,rfl,rfl,ta.sq,tb.sq,?_,hs,λhy=>?_,λhy p hp=>?_⟩)
   ·obtain⟨x,zs,hx,_⟩:=il
    rw[hx];simp
   ·subst hy
    cases es with
    |nil=>rw[ybh]at k;exact k _ H (yn.refl H) ⟨a,xs,rfl,ta,il⟩
    |cons e0 es=>obtain⟨_,_,hx,_⟩:=jl;cases hx
   ·exact k _ _ (qG hp _) ⟨p,xs++ys,rfl,.inl qK,IsL.ext (Ext.of_same (qG hp _)) (λ_ h _=>h) (IsL.append il jl)⟩
 ·rename_i ds es
  obtain⟨a,xs,rfl,hA,ta,il⟩:=ix
  obtain⟨b,ys,rfl,hB,tb,jl⟩:=iy
  obtain⟨e1,e2⟩:=jt e
  subst e2
  have hs:xs.length+ys.length<=yaq:=by rw[il.length,jl.length];exact of_decide_eq_true e1
  exact .inr (.inr (.inr (.inr ⟨a,b,xs,ys,rfl,rfl,ta,tb,hs,λp hp=>k _ _ (qG hp _) ⟨p,xs++ys,rfl,hn p hp,qK,IsL.ext (Ext.of_same (qG hp _)) (λ_ h _=>h) (IsL.append il jl)⟩⟩)))
section
variable{X:Cx}
def qp5(K:Fr0):V->Option Int->Option Int->Hp->VK->Prop:=λx lo hi H Q=>∃a xs,x=.ref a/\SqT K H a xs/\(HT.sIx xs.length 0 lo=0/\HT.sIx xs.length xs.length hi=xs.length)/\Q (.ref a) H
theorem qat {prog:yar} {w:World} {A:yas} {E:Value->yab->Prop} {s:yab} {t sl:Addr} {items:Array Value} {vl vu:Value} {lo hi:Option Int} {Q:Value->yab->Prop} (ht:IsTup s.heap t items) (hs:s.heap.IsSliceOf sl vl vu .none) (pl:ycB vl lo) (pu:ycB vu hi)
  (hw:HT.sIx items.size 0 lo=0/\HT.sIx items.size items.size hi=items.size) (h:Q (.ref t) s):wpAny (model prog w) A (yco (.ref t) (.ref sl)) Q E s:=by
 obtain⟨os,hos,hcs,hds⟩:=id hs
 have hTs:s.TypeIs (.ref sl) "slice":=⟨os,hos,hcs⟩
 unfold yco
 try with_reducible refine yba ?_
 first|refine yaa (yag ?_)|skip
 refine yaa (ydJ ht.typeIs (by decide) ?_)
 refine yaa (wpAny_callSpecial?_slot (name:=ybJ "__getitem__") ht.typeIs ya2
  (ybG ya2 ht.typeIs ydh ?_ (ydw _ _)))
 show wpAny _ _ (ych (.ref t) >>= _) _ _ s
 refine yaa (yeT ht ?_)
 refine yaa (yc7 hTs ?_)
 rw[if_pos (by decide)]
 refine yaa (HT.sliceApplied_gen hs pl pu ?_)
 have hyes:(((HT.sIx items.size 0 lo:Nat):Int)==0&&(1:Int)==1&&(HT.sIx items.size items.size hi-HT.sIx items.size 0 lo)==items.size)=true:=by
  rw[hw.1,hw.2];simp
 show wpAny _ _ (if(((HT.sIx items.size 0 lo:Nat):Int)==0&&(1:Int)==1&&(HT.sIx items.size items.size hi-HT.sIx items.size 0 lo)==items.size)=true then _ else _) _ _ s
 rw[if_pos hyes]
 refine yaa (m:=ydF (.ref t)) ?_
 unfold ydF
 refine yaa (yc7 ht.typeIs ?_)
 refine yag ?_
 rw[if_pos (by decide)]
 exact yaa (yc5 (yag ⟨_,rfl,yag h⟩))
theorem qjn:SlR X (qp5 X.K):=by
 intro pins s σ H x v vl vu lo hi sl Q I rx hs pl pu h
 obtain⟨a,xs,rfl,hx,hw,q⟩:=h
 cases rx
 obtain⟨its,r,ht,hz⟩:=I.tuple hx
 have hlen:its.toArray.size=xs.length:=by rw[sT_];exact r.length.symm
 refine⟨"tuple",_,PyProof.Rows.slot_tuple_getitem.lookup,ht.typeIs,?_⟩
 exact qat ht hs pl pu (by rw[hlen];exact hw) ⟨.ref a,H,I,rfl,q⟩
theorem qnC:SlR X (λx lo hi H Q=>qp5 X.K x lo hi H Q\/qpZ X.K x lo hi H Q):=SlR.or qjn sl_tup
end
def qbK(xs:List D)(lo hi:Option Int):List D:=(xs.drop (HT.sIx xs.length 0 lo)).take (HT.sIx xs.length xs.length hi-HT.sIx xs.length 0 lo)
def slD (x:D) (lo hi:Option Int):OD:=match x with
 |.tup ds=>some (.tup (qbK ds lo hi))
 |_=>none
section
variable{X:Cx}{c:Fc}{a b e:Expr}{pos p2:Pos}
def DO(X:Cx)(c:Fc)(e:Option Expr)(f:M (Option Int)):Prop:=∃t,PO X e t/\∀Z σ H Q,Rep X.K c Z σ H->(∀o Z',f Z=.ok (o,Z')->∀H',Rep X.K c Z' σ H'->Gr c.O σ H H'->Q o H')->(∀x Z',f Z=.exc x Z'->∀H',Rep X.K c Z' σ H'->Gr c.O σ H H'->c.E x H')->f Z ≠ .bad->t σ H Q
theorem wJ:DO X c none (ret none):=⟨_,qlj,λZ σ H Q r h _ _=>h none Z rfl H r .refl⟩
def asI:D->Option Int
 |.int i=>some i
 |_=>none
def jN (f:M D):M (Option Int):=bnd f λd=>match d with
 |.int i=>ret (some i)
 |_=>λ_ => .bad
theorem wK {f:M D} (h:DE X c e f):DO X c (some e) (jN f):=by
 obtain⟨t,p,w⟩:=h
 refine⟨_,qhr p,λZ σ H Q r h1 h2 h3=>w Z σ H _ r ?_⟩
 unfold jN bnd at h1 h2 h3
 cases e1:f Z with
 |ok q=>
  obtain⟨d,Z'⟩:=q
  rw[e1]at h1 h2 h3
  intro v H' r' i' g'
  cases d<;>simp only[ret]at h1 h2 h3<;>try (exact absurd rfl h3)
  rename_i i
  exact⟨i,i',h1 (some i) Z' rfl H' r' g'⟩
 |exc x Z'=>rw[e1]at h2;exact λH' r' g'=>h2 x Z' rfl H' r' g'
 |bad=>rw[e1]at h3;exact absurd rfl h3
def dsl(f:M D)(g k:M (Option Int)):M D:=bnd f λd=>bnd g λl=>bnd k λu=>lift (slD d l u)
end
def jz (X:Cx) (scope:Scope) (N':List Str) (fp:List Addr) (cl:List (Str×Addr)) (C:Addr) (s₀:yab) (H₀:Hp) (pn:List (Addr×Obj)):Cx where
 prog:=X.prog
 w:=X.w
 K:=X.K
 mg:=X.mg
 base:=X.base
 A:=X.A
 N:=N'
 s₀:=s₀
 H₀:=H₀
 env:=yeL scope cl C X.env
 outer:=X.stack
 stack:=X.stack
 ex:=fp
 fn:=λ_=>false
 calm:=X.calm
 pn:=pn
 xe:=λ_ _=>False
def PF (X:Cx) (ifs:List Expr) (t:TT):Prop:=∀(pins:List (Addr×Obj))(s:yab)(σ:St)(H:Hp)(Q:Bool->Hp->Prop),Inv X pins σ H s->t σ H Q ->
 wpAny (model X.prog X.w) X.A (forIn ifs true λc r=>if r=true then do let ok <-isTrue c X.env (eval c X.env);pure (ybA ok)else pure (ybA r)) (TP X pins σ Q) X.xe s
theorem qnD{X:Cx}:PF X [] (λ_ H Q=>Q true H):=λpins s σ H Q I h=>wpAny_tests_nil ⟨H,I,h⟩
theorem qnE{X:Cx}{e:Expr}{t:TT}(h:PT X e t):PF X [e] t:=λpins s σ H Q I hw=>wpAny_tests_one (h pins s σ H Q I hw)
structure ui (X:Cx) (scope:Scope) (N':List Str) (nt:Nat) (fr:List Nat):Prop where
 kind:scope.kind=.function
 nocell:∀y∈scope.names,y.2 ≠ .cell
 names:∀y∈scope.names,y.2=.local->scope.names.lookup y.1=some .local
 frees:∀y∈scope.names,y.2=.free->X.env.kindOf y.1=some .cell
 len:N'.length=nt+fr.length
 slot:∀i j,fr[i]? = some j->∃x,N'[nt+i]? = some x/\X.N[j]? = some x/\scope.names.lookup x=some .free
theorem qa7 {env:yaU}:∀(names:List (Str×ycW))(cs:List (Str×Addr)),(∀y∈names,y.2=.free->∃a,env.cells.lookup y.1=some a)->(∀n a,cs.lookup n=some a->env.cells.lookup n=some a) ->
  ∃ cl,(forIn names cs λx r=>match x with|(name,kind)=>if(kind==ya4)=true then do let a <-cellOf env name;pure (ybA ((name,a)::r))else pure (ybA r):Sem (List (Str×Addr)))=pure cl /\
   (∀n a,cl.lookup n=some a->env.cells.lookup n=some a)/\(∀n,(∃a,cs.lookup n=some a)->∃a,cl.lookup n=some a)/\∀y∈names,y.2=.free->∃a,cl.lookup y.1=some a
 | [],cs,_,h=>⟨cs,rfl,h,λ_ h=>h,λy hy=>by cases hy⟩
 | (n,k)::r,cs,hf,h=>by
  have hr:∀y∈r,y.2=.free->∃a,env.cells.lookup y.1=some a:=λy hy=>hf y (mM _ hy)
  rw[ycw]
  by_cases hk:k=.free
  ·subst hk
   obtain⟨a,ha⟩:=hf (n,.free) mS_ rfl
   have ha':env.cells.lookup n=some a:=ha
   have hcell:cellOf env n=pure a:=by unfold cellOf;rw[ha']
   obtain ⟨cl,e1,e2,e3,e4⟩:=qa7 r ((n,a)::cs) hr (λm b hm=>by
    rw[ya7]at hm
    cases e:m==n with
    |true=>rw[e]at hm;cases hm;rw[yc1 e];exact ha'
    |false=>rw[e]at hm;exact h m b hm)
   refine⟨cl,?_,e2,λm ⟨b,hm⟩=>e3 m ?_,λy hy hyf=>?_⟩
   ·show((if(ya4==ya4)=true then _ else _) >>= _)=_
    rw[if_pos (by rfl),hcell]
    exact e1
   ·rw[ya7]
    cases e:m==n with
    |true=>exact⟨a,rfl⟩
    |false=>exact⟨b,hm⟩
   ·rcases List.mem_cons.mp hy with rfl|hy
    ·exact e3 n ⟨a,by rw[ya7];simp⟩
    ·exact e4 y hy hyf
  ·have hb:(k==ya4)=false:=by simpa using hk
   obtain⟨cl,e1,e2,e3,e4⟩:=qa7 r cs hr h
   refine⟨cl,?_,e2,e3,λy hy hyf=>?_⟩
   ·show((if(k==ya4)=true then _ else _) >>= _)=_
    rw[hb,if_neg yap]
    exact e1
   ·rcases List.mem_cons.mp hy with rfl|hy
    ·exact absurd hyf hk
    ·exact e4 y hy hyf
theorem qaL {env:yaU} {scope:Scope} (hf:∀y∈scope.names,y.2=.free->∃a,env.cells.lookup y.1=some a) :
  ∃cl,closureFor scope env=pure cl/\(∀n a,cl.lookup n=some a->env.cells.lookup n=some a)/\∀y∈scope.names,y.2=.free->∃a,cl.lookup y.1=some a:=by
 obtain⟨cl,e1,e2,_,e4⟩:=qa7 scope.names [] hf (λn a h=>by cases h)
 refine⟨cl,?_,e2,e4⟩
 unfold closureFor
 show(forIn scope.names [] _ >>= _)=_
 have e5:(forIn scope.names [] λx r=>match x with|(name,kind)=>if(kind==ya4)=true then do let a <-cellOf env name;pure (ybA ((name,a)::r))else pure (ybA r):Sem (List (Str×Addr)))=pure cl:=e1
 first
  |(rw[e5];rfl)
  |(simp only[bind_pure_comp,e5];rfl)
theorem uX {env:yaU}:∀{names:List (Str×ycW)}{x:Str},names.lookup x=some .free->env.scope.kind=.function->env.kindOf x=some .cell ->
  (names.map λ(n,k)=>if(k==ya4&&env.scope.kind == .function&&env.kindOf n==some .cell) then(n,ycV) else(n,k)).lookup x=some .cell
 | [],_,h,_,_=>by simp at h
 | (n,k)::r,x,h,hk,hx=>by
  have ih := @uX env r x
  show List.lookup x ((if(k==ya4&&env.scope.kind == .function&&env.kindOf n==some .cell)=true then(n,ycV) else(n,k))::_)=_
  cases hxn:x==n with
  |true=>
   have e:x=n:=yc1 hxn
   subst e
   simp only[ya7,hxn]at h
   cases h
   rw[if_pos (by rw[hk,hx];rfl)]
   simp only[ya7,hxn]
  |false=>
   simp only[ya7,hxn]at h
   by_cases hc:(k==ya4&&env.scope.kind == .function&&env.kindOf n==some .cell)=true
   ·rw[if_pos hc];simp only[ya7,hxn];exact ih h hk hx
   ·rw[if_neg hc];simp only[ya7,hxn];exact ih h hk hx
theorem yR {env:yaU}:∀{names:List (Str×ycW)}{x:Str}{q:ycW},(names.map λ(n,k)=>if(k==ya4&&env.scope.kind == .function&&env.kindOf n==some .cell) then(n,ycV) else(n,k)).lookup x=some q ->
  q=.cell\/q=.free->(∀y∈names,y.2 ≠ .cell)->∃k,(x,k)∈names/\k=.free
 | [],_,_,h,_,_=>by simp at h
 | (n,k)::r,x,q,h,hq,hc=>by
  have ih := @yR env r x q
  have h':List.lookup x ((if(k==ya4&&env.scope.kind == .function&&env.kindOf n==some .cell)=true then(n,ycV) else(n,k))::(r.map λ(n,k)=>if(k==ya4&&env.scope.kind == .function&&env.kindOf n==some .cell) then(n,ycV) else(n,k)))=some q:=h
  have hr:∀y∈r,y.2 ≠ .cell:=λy hy=>hc y (mM _ hy)
  by_cases hcd:(k==ya4&&env.scope.kind == .function&&env.kindOf n==some .cell)=true
  ·rw [if_pos hcd]at h'
   cases hxn:x==n with
   |true=>
    have e:x=n:=yc1 hxn
    subst e
    refine⟨k,mS_,?_⟩
    rw[yal,yal]at hcd
    exact yc1 hcd.1.1
   |false=>
    simp only[ya7,hxn]at h'
    obtain⟨k',m,e⟩:=ih h' hq hr
    exact⟨k',mM _ m,e⟩
  ·rw [if_neg hcd]at h'
   cases hxn:x==n with
   |true=>
    have e:x=n:=yc1 hxn
    subst e
    simp only[ya7,hxn]at h'
    cases h'
    rcases hq with rfl|rfl
    ·exact absurd rfl (hc (x,.cell) mS_)
    ·exact⟨.free,mS_,rfl⟩
   |false=>
    simp only[ya7,hxn]at h'
    obtain⟨k',m,e⟩:=ih h' hq hr
    exact⟨k',mM _ m,e⟩
def zk(nt:Nat)(fr:List Nat)(σ:St):St:=yat nt none++fr.map λj=>(σ[j]?).join
def qlx (X:Cx) (tg:Expr) (ifs:List Expr) (elt:Expr) (scope:Scope) (N':List Str) (wi:TI) (nt:Nat) (fr:List Nat):TE:=λσ H Q=>wi σ H λJ H1=>∀acc fp cl C s₀ H₀ pn,H1 acc=none ->
 ∃(g:TG)(tt:TT)(te:TE),PG (jz X scope N' fp cl C s₀ H₀ pn) tg g/\PF (jz X scope N' fp cl C s₀ H₀ pn) ifs tt/\PE (jz X scope N' fp cl C s₀ H₀ pn) elt te /\
 ∃W:Nat->Nat->St->Hp->Prop,(∃m,W 0 m (zk nt fr σ) (upd H1 acc (.lst []))) /\
 ∀ i m σ' H',W i m σ' H'->(J.stop i H'/\Q (.ref acc) H')\/(J.go i H'/\∀x H'',J.yld i H' x H''->g x σ' H'' λσ2 H2=>tt σ2 H2 λb H3=>
  if b=true then te σ2 H3 λy H4=>∃ys,H4 acc=some (.lst ys)/\ys.length<yaq/\∃m',m'<m/\W (i+1) m' σ2 (upd H4 acc (.lst (ys++[y])))else ∃m',m'<m/\W (i+1) m' σ2 H3)
section
variable{X:Cx}{tg iter elt:Expr}{ifs:List Expr}{scope:Scope}{pos:Pos}{wi:TI}{N':List Str}{nt:Nat}{fr:List Nat}
theorem qca {prog:yar} {w:World} {A:yas} {R:ydT->yab->Prop} {s:yab} {it acc:Value} {env:yaU} (I:Nat->yab->Prop)
  (turn : ∀n s,I n s->wpAny (model prog w) A (ycL it) (λr sQ=>match r with
   |none=>R (.ok .next) sQ
   | some v=>wpAny (model prog w) A (ycu tg it v) (λ_ s1'=>wpAny (model prog w) A (ycg tg env v) (λ_ sK=>
     wpAny (model prog w) A (forIn ifs true λc r=>if r=true then do let ok <-isTrue c env (eval c env);pure (ybA ok)else pure (ybA r)) (λok sY=>
      if ok=true then wpAny (model prog w) A (eval elt env) (λx sV=>
       wpAny (model prog w) A (call (.builtin "list.append") [acc,x]) (λ_ sJ=>∃m,m<n/\I m sJ) (λ_ _=>False) sV) (λ_ _=>False) sY
      else ∃m,m<n/\I m sY) (λ_ _=>False) sK) (λ_ _=>False) s1') (λ_ _=>False) sQ) (λ_ _=>False) s)
  (n:Nat) (h:I n s):ybW (model prog w) A (.compLoop (.ListComp elt [⟨tg,iter,ifs,0⟩] scope pos) 0 it acc env) R s:=by
 refine codeAny_loop rfl I (λn s hI=>?_) n h
 show wpAny _ A ((compTurn (.ListComp elt [⟨tg,iter,ifs,0⟩] scope pos) 0 it acc env).onRaise (λx=>do yee x env;theTreesLotGoes x)) _ _ s
 refine wpAny_noted ?_
 rw[compTurn_list]
 refine yaa (ycP (yaa (ybf (turn n s hI) (λr sQ h₁=>?_) λ_ _ h'=>h'.elim)))
 cases r with
 |none=>exact yag h₁
 | some v=>
  refine yaa (ybf h₁ (λ_ s1' hK'=>?_) λ_ _ h'=>h'.elim)
  refine yaa (ybf hK' (λ_ sK hV=>yaa (ybf hV (λok sY hX=>?_) λ_ _ h'=>h'.elim)) λ_ _ h'=>h'.elim)
  cases ok with
  |false=>exact yag ⟨rfl,hX⟩
  |true=>
   exact yaa (yaa (ybf hX (λx sV hJ=>yaa (ybf hJ (λ_ sJ h₅=>yag (yag ⟨rfl,h₅⟩)) λ_ _ h'=>h'.elim)) λ_ _ h'=>h'.elim))
theorem qcS {pins:List (Addr×Obj)} {σ:St} {H:Hp} {s:yab} {h₁:Heap} {tk:Nat} {fp:List Addr} {cl:List (Str×Addr)} (S:ui X scope N' nt fr) (I:Inv X pins σ H s) (hfp:∀b∈fp,qeN X pins H b)
  (hex:∀b∈fp,∃o,s.heap.get? b=some o) (cl1:∀n a,cl.lookup n=some a->X.env.cells.lookup n=some a) (cl2:∀y∈scope.names,y.2=.free->∃a,cl.lookup y.1=some a)
  (hns:∃m,h₁.Ns s.heap.objs.size m) (old:∀b o,s.heap.get? b=some o->h₁.get? b=some o) :
  Inv (jz X scope N' fp cl s.heap.objs.size s H (X.pn++pins)) [] (zk nt fr σ) H {s with heap:=h₁,toks:=tk}:=by
 have stkB:∀b∈frs X.stack,b=X.env.locals\/b∈X.fs:=λb hb=>List.mem_cons.mp (I.stkSub b hb)
 have hC:∀b o,s.heap.get? b=some o->b≠s.heap.objs.size:=λb o e=>yax (yam e)
 obtain⟨m,hn⟩:=hns
 refine ⟨⟨I.ok.mod,S.kind,I.ok.glob,I.ok.blt,yac _,λx y c h1 h2=>I.ok.inj x y c (cl1 x c h1) (cl1 y c h2),λx hx=>?_,λx c hx=>?_,I.ok.hd,I.ok.frames,.inl rfl,λb hb=>⟨?_,λx c hx=>(hfp b hb).2.2.2.2.1 x c (cl1 x c hx)⟩,I.bs,yau I.ok.bsz I.sz,λb o e hb=>?_,λb hb hb2=>?_,I.stack,I.stkFree⟩,
  rfl,I.bare,Un.kept old,⟨m,hn,λi x v h1 h2 h3=>?_⟩,λx c hx=>?_,I.hok.fresh (yac _),λx c hx=>I.freeC x c (cl1 x c hx),λp hp=>?_,I.hok.kept old,?_⟩
 ·have hx':∃k,(x,k)∈scope.names/\k=.free:=by
   rcases hx with hx|hx
   ·exact yR (env:=X.env) (q:=.cell) hx (.inl rfl) S.nocell
   ·exact yR (env:=X.env) (q:=.free) hx (.inr rfl) S.nocell
  obtain⟨k,m,rfl⟩:=hx'
  exact cl2 (x,.free) m rfl
 ·have hx':false=true:=hx
  cases hx'
 ·obtain⟨o,e⟩:=hex b hb
  exact hC b o e
 ·obtain⟨f0,f1,f2,f3,f4,f5⟩:=hfp b hb
  rcases f3 with z|z
  ·exact I.ok.noex b o e z
  ·exact absurd (yaw (yam e) (yau I.ok.bsz z)) (ybC _)
 ·obtain⟨f0,f1,f2,f3,f4,f5⟩:=hfp b hb
  rcases stkB b hb2 with z|z
  ·exact f1 z
  ·exact f2 z
 ·-- names
  have hi:nt<=i:=by
   apply ycX
   intro hlt
   unfold zk at h2
   rw[List.getElem?_append_left (by simpa using hlt),List.getElem?_replicate]at h2
   split at h2<;>cases h2
  have h2':(fr.map λj=>(σ[j]?).join)[i-nt]? = some (some v):=by
   unfold zk at h2
   rw[List.getElem?_append_right (by simpa using hi),ybl]at h2
   exact h2
  rw[gM_]at h2'
  cases ej:fr[i-nt]? with
  |none=>rw[ej]at h2';cases h2'
  | some j=>
   rw[ej]at h2'
   have hσ:(σ[j]?).join=some v:=by simpa using h2'
   have hσ':σ[j]? = some (some v):=by
    cases e:σ[j]? with
    |none=>rw[e]at hσ;cases hσ
    |some o=>
     rw[e]at hσ
     have:o=some v:=hσ
     rw[this]
   obtain⟨y,hy1,hy2,hy3⟩:=S.slot (i-nt) j ej
   have hii:nt+(i-nt)=i:=by omega
   rw[hii]at hy1
   have exy:y=x:=by
    have h1':N'[i]? = some x:=h1
    rw[h1']at hy1
    exact(yaM hy1).symm
   subst exy
   have hmem:(y,ya4)∈scope.names:=yaW hy3
   have hcellk:X.env.kindOf y=some .cell:=S.frees (y,.free) hmem rfl
   obtain⟨m0,hn0,hl0⟩:=I.loc
   obtain⟨u,ru,lk⟩:=hl0 j y v hy2 hσ' (.inr (.inl hcellk))
   refine⟨u,ru,.inr ⟨.inl (uX hy3 I.ok.kind hcellk),?_⟩⟩
   rcases lk with⟨k1,_⟩|⟨_,c,e,z⟩
   ·rw[hcellk]at k1;cases k1
   ·obtain⟨a,ea⟩:=cl2 (y,.free) hmem rfl
    have ea':=cl1 y a ea
    rw[e]at ea'
    cases ea'
    obtain⟨o,ho,hd⟩:=z
    exact⟨c,ea,o,old _ _ ho,hd⟩
 ·obtain⟨v,o,ho,hd⟩:=I.cell x c (cl1 x c hx)
  exact⟨v,o,old _ _ ho,hd⟩
 ·have hp':p∈X.pn++pins:=by
   rcases mA_.mp (show p∈(X.pn++pins)++[]from hp)with z|z
   ·exact z
   ·cases z
  obtain⟨e,n,ne,nf,d⟩:=I.pin p hp'
  refine⟨old _ _ e,n,hC _ _ e,λz=>?_,d⟩
  rcases stkB p.1 z with z|z
  ·exact ne z
  ·exact nf z
 ·show(zk nt fr σ).length=N'.length
  unfold zk
  rw[lA_,ybl,lM_,S.len]
theorem qfM {pins:List (Addr×Obj)} {σ σ':St} {H H':Hp} {s s':yab} {h':Heap} {fp:List Addr} {cl:List (Str×Addr)} (I:Inv X pins σ H s) (hfp:∀b∈fp,qeN X pins H b)
  (J:Inv (jz X scope N' fp cl s.heap.objs.size s H (X.pn++pins)) [] σ' H' s') (sb:ybX s.heap.objs.size s'.heap h'):Inv X pins σ H' {s' with heap:=h' }:=by
 have hC:H' s.heap.objs.size=none:=J.free
 have u:=J.base
 have big:∀b o,s.heap.get? b=some o->b≠s.heap.objs.size:=λb o e=>yax (yam e)
 have get':∀b,b≠s.heap.objs.size->h'.get? b=s'.heap.get? b:=λb hb=>sb.2 b hb
 have u2:Un (frs X.stack) fp H H' s.heap h' :=
  ⟨λb o e n hb hx=>(get' b (big b o e)).trans (u.keep b o e n hb hx),λb o e n hb hx=>by
   obtain⟨sl,q⟩:=u.slot b o e n hb hx
   exact⟨sl,(get' b (big b o e)).trans q⟩,u.free,λb o e hx=>by
   obtain⟨o',q⟩:=u.there b o e hx
   exact⟨o',(get' b (big b o e)).trans q⟩,u.tups,u.frzs,u.tbls⟩
 refine I.call' (s':={s' with heap:=h' }) (ch:=fp) J.os u2 (λb o e=>?_) J.bare (λb hb=>?_)
 ·refine(J.hok b o e).stay (λc v hc q=>?_) (λ_ q=>q) λ_ _ q=>q
  refine(get' c ?_).trans q
  rintro rfl
  rcases hc with hc|hc
  ·rw[<-hc,hC]at e;cases e
  ·rw[hC]at hc;cases hc
 ·obtain⟨f0,f1,f2,f3,f4,f5⟩:=hfp b hb
  exact⟨f3,f1,f4,f5⟩
theorem qly (hc:X.calm=true) (hi:PI X tg iter wi) (S:ui X scope N' nt fr)
  (hs:∀x,ybS iter X.env x=pure x:=by intro _;rfl):PE X (.ListComp elt [⟨tg,iter,ifs,0⟩] scope pos) (qlx X tg ifs elt scope N' wi nt fr):=by
 intro pins s σ H Q I hw
 obtain⟨cl,hcl,cl1,cl2⟩:=qaL (env:=X.env) (scope:=scope) (λy hy hf=>I.ok.has y.1 (.inl (S.frees y hy hf)))
 rw[eval_ListComp]
 refine ydY (use:=none) rfl hs hcl S.kind S.names (thn (hi pins s σ H _ I hw) λv s1 h1=>thn h1 λitv s2 h2=>?_)
 obtain⟨it,fp,tn,J,H2,e,I2,T,st2,f2,hR⟩:=h2
 subst e
 have hacc:H2 s2.heap.objs.size=none:=I2.hok.fresh (yac _)
 refine yaN (yeM S.nocell (by intro y hy;simp at hy) (λh₁ hns1 hsb1=>?_) S.kind)
 dsimp only at hns1 hsb1 |-
 have I3:Inv X pins σ (upd H2 s2.heap.objs.size (.lst [])) {s2 with heap:=s2.heap.push {cls:=.type "list",dict:=none,data:=.seq ([]:List Value).toArray} } :=
  I2.lnew (t':=s2.toks) (its:=[]) .nil (yaD _)
 generalize hs3:({s2 with heap:=s2.heap.push {cls:=.type "list",dict:=none,data:=.seq ([]:List Value).toArray} }:yab)=s3 at I3
 have hh3:s2.heap.push {cls:=.type "list",dict:=none,data:=.seq ([]:List Value).toArray}=s3.heap:=by rw[<-hs3]
 rw[hh3]at hns1 hsb1
 have old:∀b o,s3.heap.get? b=some o->h₁.get? b=some o:=λb o q=>hsb1.extBut b o (yax (yam q)) (Heap.get?_push_of_some _ q)
 have objs2:∀b∈fp,∃o,s2.heap.get? b=some o:=λb hb=>by
  obtain⟨o,q,_⟩:=T.obj 0 _ st2 b hb
  exact⟨o,q⟩
 have keep23:∀b o,s2.heap.get? b=some o->s3.heap.get? b=some o:=λb o q=>by rw[<-hh3];exact Heap.get?_push_of_some _ q
 have fpne:∀b∈fp,b≠s2.heap.objs.size:=λb hb=>by
  obtain⟨o,q⟩:=objs2 b hb
  exact yax (yam q)
 have f3:∀b∈fp,qeN X pins (upd H2 s2.heap.objs.size (.lst [])) b:=λb hb=>⟨by rw[qM (fpne b hb)];exact(f2 b hb).1,(f2 b hb).2⟩
 have J0:Inv (jz X scope N' fp cl s3.heap.objs.size s3 (upd H2 s2.heap.objs.size (.lst [])) (X.pn++pins)) [] (zk nt fr σ) (upd H2 s2.heap.objs.size (.lst [])) {s3 with heap:=h₁,toks:=s3.toks} :=
  qcS S I3 f3 (λb hb=>(objs2 b hb).imp λo q=>keep23 b o q) cl1 cl2 ⟨_,hns1⟩ old
 obtain⟨g,tt,te,hg,hf,he,W,⟨m0,w0⟩,turn⟩:=hR s2.heap.objs.size fp cl s3.heap.objs.size s3 (upd H2 s2.heap.objs.size (.lst [])) (X.pn++pins) hacc
 have T0:tn 0 h₁:=T.keep 0 _ _ st2 λb hb o q=>old b o (keep23 b o q)
 have s3e:∀tk:Nat,({s2 with heap:=h₁,toks:=tk}:yab)={s3 with heap:=h₁,toks:=tk}:=λtk=>by rw[<-hs3]
 have loop:∀tk:Nat,ybW (model X.prog X.w) X.A (.compLoop (.ListComp elt [⟨tg,iter,ifs,0⟩] scope pos) 0 (.ref it) (.ref s2.heap.objs.size) (yeL scope cl s3.heap.objs.size X.env))
   (yfR (model X.prog X.w) X.A X.xe none (EP X pins σ Q) (.ref s2.heap.objs.size) s3.heap.objs.size) {s3 with heap:=h₁,toks:=tk}:=λtk=>by
  have stat:∀{H':Hp},(∀b∈fp,H' b=none)->∀b∈fp,qeN (jz X scope N' fp cl s3.heap.objs.size s3 (upd H2 s2.heap.objs.size (.lst [])) (X.pn++pins)) [] H' b:=λ{H'} hn b hb=>by
   obtain⟨o,q⟩:=objs2 b hb
   have hbC:b≠s3.heap.objs.size:=yax (yam (keep23 b o q))
   refine⟨hn b hb,hbC,λz=>?_,.inl hb,λx c hx=>(f2 b hb).2.2.2.2.1 x c (cl1 x c hx),λp hp=>?_⟩
   ·rcases List.mem_cons.mp (I2.stkSub b z)with z|z
    ·exact(f2 b hb).2.1 z
    ·exact(f2 b hb).2.2.1 z
   ·have hp':p∈X.pn++pins:=by
     rcases mA_.mp (show p∈(X.pn++pins)++[]from hp)with z|z
     ·exact z
     ·cases z
    exact(f2 b hb).2.2.2.2.2 p hp'
  have fr0:∀b∈fp,upd H2 s2.heap.objs.size (.lst []) b=none:=λb hb=>(f3 b hb).1
  refine qca (λn s'=>∃i σ' H',Inv (jz X scope N' fp cl s3.heap.objs.size s3 (upd H2 s2.heap.objs.size (.lst [])) (X.pn++pins)) [] σ' H' s'/\tn i s'.heap/\(∀b∈fp,H' b=none)/\W i n σ' H') ?_ m0
   ⟨0,zk nt fr σ,_,J0.tok tk,T0,fr0,w0⟩
  rintro n s4 ⟨i,σ4,H4,J4,st4,fr4,w4⟩
  rcases turn i n σ4 H4 w4 with⟨stop,qn⟩|⟨go,step⟩
  ·refine thn (T.done (jz X scope N' fp cl s3.heap.objs.size s3 (upd H2 s2.heap.objs.size (.lst [])) (X.pn++pins)) rfl rfl rfl hc i [] s4 σ4 H4 _ J4 (stat fr4) st4 stop) λr s5 ⟨hr,J5⟩=>?_
   subst hr
   obtain⟨m5,n5,_⟩:=J5.loc
   refine⟨m5,n5,λh' sb=>⟨.ref s2.heap.objs.size,H4,qfM I3 f3 J5 sb,rfl,qn⟩⟩
  ·refine thn (T.item (jz X scope N' fp cl s3.heap.objs.size s3 (upd H2 s2.heap.objs.size (.lst [])) (X.pn++pins)) rfl rfl rfl hc i [] s4 σ4 H4 _ J4 (stat fr4) st4 go) λr s5 ⟨u,hr,h5⟩=>?_
   subst hr
   refine thn h5 λ_ s6 ⟨x,H6,J6,r6,y6,st6,fr6⟩=>?_
   have J6':=J6.pinned (stat fr6) (T.obj _ _ st6)
   have again:∀{σ7:St}{H7:Hp}{s7:yab},Inv (jz X scope N' fp cl s3.heap.objs.size s3 (upd H2 s2.heap.objs.size (.lst [])) (X.pn++pins)) ([]++qcO fp s6.heap) σ7 H7 s7->(∃m',m'<n/\W (i+1) m' σ7 H7) ->
     ∃m,m<n/\∃i σ' H',Inv (jz X scope N' fp cl s3.heap.objs.size s3 (upd H2 s2.heap.objs.size (.lst [])) (X.pn++pins)) [] σ' H' s7/\tn i s7.heap/\(∀b∈fp,H' b=none)/\W i m σ' H':=λ{σ7 H7 s7} I7 hm=>by
    obtain⟨m',hm,w7⟩:=hm
    refine⟨m',hm,i+1,σ7,H7,I7.unpinned,T.keep _ _ _ st6 λb hb o q=>(I7.pin (b,o) (mr_ _ (mr_ _ (uH hb q)))).1,λb hb=>?_,w7⟩
    obtain⟨o,q,d⟩:=T.obj _ _ st6 b hb
    exact(I7.pin (b,o) (mr_ _ (mr_ _ (uH hb q)))).2.1
   refine thn (hg _ s6 σ4 H6 x u _ J6' r6 (step x H6 y6)) λ_ s7 ⟨σ7,H7,J7,q7⟩=>?_
   refine thn (hf _ s7 σ7 H7 _ J7 q7) λok s8 ⟨H8,J8,q8⟩=>?_
   cases ok with
   |false=>
    rw[if_neg yap]at q8 |-
    exact again J8 q8
   |true=>
    rw[if_pos rfl]at q8 |-
    refine thn (he _ s8 σ7 H8 _ J8 q8) λz s9 ⟨y,H9,J9,r9,ys,hys,hz,hm⟩=>?_
    refine thn (qb4 _ s9 σ7 H9 (.ref s2.heap.objs.size) [y] (.ref s2.heap.objs.size) [z] (λ_ H'=>H'=upd H9 s2.heap.objs.size (.lst (ys++[y]))) J9 rfl (.cons r9 .nil) ⟨_,ys,y,rfl,rfl,hys,hz,rfl⟩) λ_ s10 ⟨_,H10,J10,_,e10⟩=>?_
    subst e10
    exact again J10 hm
 have jM:∀tk:Nat,ybW (model X.prog X.w) X.A (.compStart (.ListComp elt [⟨tg,iter,ifs,0⟩] scope pos) 0 (.ref it) (.ref s2.heap.objs.size) (yeL scope cl s3.heap.objs.size X.env))
   (yfR (model X.prog X.w) X.A X.xe none (EP X pins σ Q) (.ref s2.heap.objs.size) s3.heap.objs.size) {s3 with heap:=h₁,toks:=tk}:=λtk=>
  yem (loop tk) (T.self X.A 0 _ _ _ T0 (loop tk))
 have fin:=jM (s2.toks+([]:List (Str×Value)).length)
 rw[<-s3e]at fin
 rw[<-hh3]at fin
 rw[hh3]at fin |-
 exact fin
end
structure qkn (K:Fr0) (A:Addr->Prop) (H:Hp) (ds:List D) (J:It):Prop where
 go:∀H' i d,Ext A H H'->ds[i]? = some d->J.go i H'
 yl:∀H' i d x H'',Ext A H H'->ds[i]? = some d->J.yld i H' x H''->yn H' H''/\Is K A H'' d x
 stop:∀H',Ext A H H'->J.stop ds.length H'
def CnT(c:Fc)(σ:St)(H:Hp)(a:Addr):Prop:=Cn c σ a/\(H a).isSome=true
def WpI (K:Fr0) (c:Fc) (σ:St) (H:Hp) (Q:It->Hp->Prop):R (List D×Env)->Prop
 |.ok (ds,Z)=>∀J H',Rep K c Z σ H'->qkn K (CnT c σ H') H' ds J->Gr c.O σ H H'->Q J H'
 |.exc x Z=>∀H',Rep K c Z σ H'->Gr c.O σ H H'->c.E x H'
 |.bad=>False
def DI(X:Cx)(c:Fc)(tg it:Expr)(f:M (List D)):Prop:=∃w,PI X tg it w/\∀Z σ H Q,Rep X.K c Z σ H->WpI X.K c σ H Q (f Z)->w σ H Q
section
variable{X:Cx}{c:Fc}{tg a b e:Expr}{pos:Pos}
def qqS(K:Fr0)(tl:TE):TI:=λσ H R=>tl σ H λx H1=>(∃a,x=.ref a/\(∃xs,SqL K H1 a xs)/\R (Itl K a) H1)\/(∃a,x=.ref a/\(∃xs,SqT K H1 a xs)/\R (Itt K a) H1)
theorem qnF {tl:TE} (hl:PE X e tl):PI X tg e (qqS X.K tl):=by
 intro pins s σ H R I h
 refine thn (hl pins s σ H _ I h) λv s1 ⟨x,H1,I1,r1,q1⟩=>?_
 rcases q1 with⟨a,e,⟨xs,hq⟩,q⟩|⟨a,e,⟨xs,hq⟩,q⟩
 ·subst e
  cases r1
  obtain⟨its,rv,p,hz⟩:=I1.list hq
  refine yfB p.isList ?_
  refine⟨s1.heap.objs.size,[s1.heap.objs.size],_,_,H1,rfl,I1.kept (t':=s1.toks) λb o e=>Heap.get?_push_of_some _ e,qhe a _,⟨_,Heap.get?_push_size _ rfl,rfl,rfl⟩,λb hb=>?_,q⟩
  have e:b=s1.heap.objs.size:=by simpa using hb
  subst e
  exact I1.fpOk (yac _) (I1.hok.fresh (yac _))
 ·subst e
  cases r1
  obtain⟨its,rv,p,hz⟩:=I1.tuple hq
  refine ycD (show s1.heap.IsTuple a its.toArray from p) ?_
  refine⟨s1.heap.objs.size,[s1.heap.objs.size],_,_,H1,rfl,I1.kept (t':=s1.toks) λb o e=>Heap.get?_push_of_some _ e,qgq a _,⟨_,Heap.get?_push_size _ rfl,rfl,rfl⟩,λb hb=>?_,q⟩
  have e:b=s1.heap.objs.size:=by simpa using hb
  subst e
  exact I1.fpOk (yac _) (I1.hok.fresh (yac _))
def qoI:D->Option (List D)
 |.tup ds=>some ds
 |.lst ds=>some ds
 |.fz ns=>some (ns.map .int)
 |_=>none
theorem SqL.inj {K:Fr0} {H:Hp} {a:Addr} {xs ys:List V} (h:H a=some (.lst xs)) (q:SqL K H a ys) (hk:∀o,K.lookup a=some o->False):ys=xs:=by
 rcases q with(q|⟨o,q⟩)|⟨o,_,_,q,_⟩
 ·rw[h]at q;cases q;rfl
 ·rw[h]at q;cases q
 ·exact(hk o q).elim
theorem qdj {K:Fr0} {A:Addr->Prop} {H:Hp}:∀ns:List Int,IsL K A H (ns.map .int) (ns.map V.int)
 | []=>rfl
 |n::ns=>⟨.int n,ns.map V.int,rfl,rfl,qdj ns⟩
theorem qhH {K:Fr0} {A:Addr->Prop} {H:Hp} {ds:List D} {xs:List V} {a:Addr} (hs:∀H',Ext A H H'->SqL K H' a xs) (il:IsL K A H ds xs):qkn K A H ds (Itl K a) where
 go:=λH' i d ex hd=>by
  obtain⟨x,h1,h2⟩:=il.get hd
  exact⟨xs,x,hs H' ex,h1⟩
 yl:=λH' i d x H'' ex hd y=>by
  obtain⟨e,y⟩:=y
  subst e
  obtain⟨x',h1,h2⟩:=il.get hd
  have h3:=y xs (hs _ ex)
  rw[h1]at h3
  cases h3
  exact⟨yn.refl _,Is.ext ex (λ_ h _=>h) h2⟩
 stop:=λH' ex=>⟨xs,hs H' ex,by rw[il.length];exact yac _⟩
theorem qnG {K:Fr0} {A:Addr->Prop} {H:Hp} {ds:List D} {xs:List V} {a:Addr} (hs:qcH K H a xs) (il:IsL K A H ds xs):qkn K A H ds (Itt K a) where
 go:=λH' i d ex hd=>by
  obtain⟨x,h1,h2⟩:=il.get hd
  exact⟨xs,x,(hs.elim (λh => .inl (ex.tup _ _ h)) .inr:qcH K H' a xs).sq,h1⟩
 yl:=λH' i d x H'' ex hd y=>by
  obtain⟨e,y⟩:=y
  subst e
  obtain⟨x',h1,h2⟩:=il.get hd
  have h3:=y xs (hs.elim (λh => .inl (ex.tup _ _ h)) .inr:qcH K _ a xs).sq
  rw[h1]at h3
  cases h3
  exact⟨yn.refl _,Is.ext ex (λ_ h _=>h) h2⟩
 stop:=λH' ex=>⟨xs,(hs.elim (λh => .inl (ex.tup _ _ h)) .inr:qcH K H' a xs).sq,by rw[il.length];exact yac _⟩
def wD(f:M D):M (List D):=bnd f λd=>lift (qoI d)
theorem qdk {K:Fr0} {σ:St} {H:Hp} {Q:It->Hp->Prop} {o:Option (List D)} {Z:Env} (h:WpI K c σ H Q (lift o Z)):∃ds,o=some ds/\∀J H',Rep K c Z σ H'->qkn K (CnT c σ H') H' ds J->Gr c.O σ H H'->Q J H':=by
 cases o with
 |none=>exact h.elim
 |some d=>exact⟨d,rfl,h⟩
theorem WpI.gr {K:Fr0} {σ:St} {H H1:Hp} {Q:It->Hp->Prop}:∀{r:R (List D×Env)},WpI K c σ H Q r->Gr c.O σ H H1->WpI K c σ H1 Q r
 |.ok (d,Z),h,g=>λv H' hr hi hg=>h v H' hr hi (g.trans hg)
 |.exc x Z,h,g=>λH' hr hg=>h H' hr (g.trans hg)
 |.bad,h,_=>h
theorem Wp.bndI {K:Fr0} {σ:St} {H:Hp} {Q:It->Hp->Prop} {f:M D} {k:D->M (List D)} {Z:Env} {Q':VK} (h:WpI K c σ H Q (Sk.bnd f k Z)) (hQ:∀d Z' v H',Rep K c Z' σ H'->Is K (Cn c σ) H' d v->Gr c.O σ H H'->WpI K c σ H' Q (k d Z')->Q' v H'):Wp K c σ H Q' (f Z):=by
 unfold Sk.bnd at h
 cases e:f Z with
 |ok p=>rw[e]at h;exact λv H' hr hi hg=>hQ p.1 p.2 v H' hr hi hg (h.gr hg)
 |exc x Z'=>rw[e]at h;exact h
 |bad=>rw[e]at h;exact h
theorem WpL.bndI {K:Fr0} {σ:St} {H:Hp} {Q:It->Hp->Prop} {f:M (List D)} {k:List D->M (List D)} {Z:Env} {Q':List V->Hp->Prop} (h:WpI K c σ H Q (Sk.bnd f k Z)) (hQ:∀d Z' v H',Rep K c Z' σ H'->IsL K (Cn c σ) H' d v->Gr c.O σ H H'->WpI K c σ H' Q (k d Z')->Q' v H'):WpL K c σ H Q' (f Z):=by
 unfold Sk.bnd at h
 cases e:f Z with
 |ok p=>rw[e]at h;exact λv H' hr hi hg=>hQ p.1 p.2 v H' hr hi hg (h.gr hg)
 |exc x Z'=>rw[e]at h;exact h
 |bad=>rw[e]at h;exact h
theorem Is.tr{K:Fr0}{A:Addr->Prop}{H:Hp}{d:D}{v:V}(h:Is K A H d v):Is K (λa=>A a/\(H a).isSome=true) H d v:=Is.ext Ext.refl (λa h1 h2=>⟨h1,h2⟩) h
theorem wL {f:M D} (h:DE X c e f):DI X c tg e (wD f):=by
 obtain⟨t,p,w⟩:=h
 refine⟨_,qnF p,λZ σ H Q r h=>w Z σ H _ r (Wp.bndI h λd Z1 v H1 r1 i1 g1 h1=>?_)⟩
 obtain⟨ds,e,h2⟩:=qdk h1
 have i2:Is X.K (CnT c σ H1) H1 d v:=i1.tr
 cases d<;>simp only[qoI]at e<;>try (cases e;done)
 ·cases e
  obtain⟨a,xs,rfl,ta,il⟩:=i2
  exact .inr ⟨a,rfl,⟨xs,ta.sq⟩,h2 _ H1 r1 (qnG ta il) .refl⟩
 ·cases e
  obtain⟨a,xs,rfl,hA,ta,il⟩:=i2
  exact .inl ⟨a,rfl,⟨xs,.inl (.inl ta)⟩,h2 _ H1 r1 (qhH (λH' ex => .inl (.inl (ex.at_ _ _ hA ta))) il) .refl⟩
 ·cases e
  obtain⟨a,rfl,ta⟩:=i2
  exact .inl ⟨a,rfl,⟨_,ta.sq⟩,h2 _ H1 r1 (qhH (λH' ex=>(ta.elim (λ⟨o,h⟩ => .inl ⟨o,ex.frz _ _ _ h⟩) .inr:qnv X.K H' a _).sq) (qdj _)) .refl⟩
def qdl(lo:Int)(n:Nat):List D:=(yay n).map λi => .int (lo+(i:Nat))
theorem qnH {K:Fr0} {A:Addr->Prop} {H:Hp} (lo:Int) (n:Nat):qkn K A H (qdl lo n) (Itr lo n) where
 go:=λH' i d ex hd=>by
  have:i<(qdl lo n).length:=(gI_.mp hd).1
  show i<n
  simpa [qdl] using this
 yl := λH' i d x H'' ex hd y=>by
  obtain⟨e,y⟩:=y
  subst e
  subst y
  refine⟨yn.refl _,?_⟩
  unfold qdl at hd
  rw[gM_]at hd
  cases e2:(yay n)[i]? with
  |none=>rw[e2]at hd;cases hd
  | some j=>
   rw[e2]at hd
   have hj:j=i:=by
    have:=(gI_.mp e2).2
    simpa using this.symm
   subst hj
   cases hd
   rfl
 stop:=λH' ex=>by show n<=(qdl lo n).length;simp[qdl]
def qko:List D->Option (List D)
 | [.int j]=>if decide (-(2 ^ 62)<=j)&&decide (j<2 ^ 62)then some (qdl 0 j.toNat)else none
 |_=>none
def jO(f:M (List D)):M (List D):=bnd f λds=>lift (qko ds)
theorem yC {f:M (List D)} {p:Pos} (hg:Gl X "range") (hm:X.mg "range"=none) (ha:DA X c [a] f) (hs:yah [a] X.env=[(false,eval a X.env)]:=by rfl):DI X c tg (.Call (.Name "range" p) [a] [] pos) (jO f):=by
 obtain⟨t,p,w⟩:=ha
 refine⟨_,qhf hg hm p hs,λZ σ H Q r h=>w Z σ H _ r (WpL.bndI h λds Z1 vs H1 r1 i1 g1 h1=>?_)⟩
 obtain⟨es,e,h2⟩:=qdk h1
 unfold qko at e
 split at e
 ·rename_i j
  obtain⟨v,rfl,e2⟩:=IsL.inv1 i1
  cases e2
  by_cases hb:(decide (-(2 ^ 62)<=j)&&decide (j<2 ^ 62))=true
  ·rw[if_pos hb]at e
   cases e
   rw[yal]at hb
   exact⟨j,rfl,of_decide_eq_true hb.1,of_decide_eq_true hb.2,h2 _ H1 r1 (qnH 0 _) .refl⟩
  ·rw[if_neg hb]at e
   cases e
 ·cases e
def yD (g:D->Env->Option Env) (b:MS):List D->MS
 | [],Z => .ok (.nx Z)
 | d::ds,Z=>match g d Z with
  |none => .bad
  |some Z1=>match b Z1 with
   |.ok (.nx Z2)=>yD g b ds Z2
   |.ok (.ct Z2)=>yD g b ds Z2
   |.ok (.bk Z2) => .ok (.nx Z2)
   |.ok (.rt r Z2) => .ok (.rt r Z2)
   |.exc x Z2 => .exc x Z2
   |.bad => .bad
def qak(f:M (List D))(g:D->Env->Option Env)(b:MS):MS:=sbnd f λds=>yD g b ds
theorem WpI.sbnd {K:Fr0} {σ:St} {H:Hp} {D':qhb} {f:M (List D)} {k:List D->MS} {Z:Env} {Q':It->Hp->Prop} (h:WpS K c σ H D' (Sk.sbnd f k Z))
  (hQ:∀ds Z' J H',Rep K c Z' σ H'->qkn K (CnT c σ H') H' ds J->Gr c.O σ H H'->WpS K c σ H' D' (k ds Z')->Q' J H'):WpI K c σ H Q' (f Z):=by
 unfold Sk.sbnd at h
 cases e:f Z with
 |ok p=>rw[e]at h;exact λv H' hr hi hg=>hQ p.1 p.2 v H' hr hi hg (h.gr hg.s)
 |exc x Z'=>rw[e]at h;exact λH' hr hg=>h σ H' hr hg.s
 |bad=>rw[e]at h;exact h
theorem GrS.extT{σ σ':St}{H H':Hp}(g:GrS c.O σ H σ' H'):Ext (CnT c σ H) H H':=⟨g.ext.tup,g.ext.frz,λb o hb h=>g.ext.at_ b o hb.1.2 h⟩
theorem GrS.cnT{σ σ':St}{H H':Hp}(g:GrS c.O σ H σ' H'){a:Addr}(h:CnT c σ H a):Cn c σ' a:=⟨h.1.1,g.cl a h.1.2 h.2⟩
theorem qa8{α:Type}{l:List α}{i:Nat}(h:i<l.length):l.drop i=l[i]::l.drop (i+1):=ydO h
theorem vC {it:Expr} {body:List Stmt} {f:M (List D)} {g:D->Env->Option Env} {b:MS} (hp:ye6 (model X.prog X.w) X.A X.env X.xe) (hc:X.calm=true) (hi:DI X c tg it f) (hg:DG X c tg g) (hb:DSs X c body b)
  (hs:∀x,ybS it X.env x=pure x:=by intro _;rfl):DS X c (.For tg it body [] pos) (qak f g b):=by
 obtain⟨wi,pi,wI⟩:=hi
 obtain⟨tg',pg,wg⟩:=hg
 obtain⟨tb,pb,wb⟩:=hb
 refine⟨_,qm8 hp hc pi pg pb hs,λZ σ H D' r h=>wI Z σ H _ r (WpI.sbnd h λds Z1 J H1 r1 iok g1 h1=>?_)⟩
 refine⟨λi m σ' H'=>m=ds.length-i/\i<=ds.length/\∃Z',Rep X.K c Z' σ' H'/\GrS c.O σ H1 σ' H'/\WpS X.K c σ' H' D' (yD g b (ds.drop i) Z'),⟨ds.length,by simp,yaD _,Z1,r1,.refl,by simpa using h1⟩,?_⟩
 rintro i m σ' H' ⟨rfl,hi,Z',r',gs,w⟩
 by_cases hlt:i<ds.length
 ·refine .inr ⟨iok.go H' i ds[i] gs.extT (by simp[hlt]),λσ2 H2=>∃Z2,Rep X.K c Z2 σ2 H2/\GrS c.O σ H1 σ2 H2/\WpS X.K c σ2 H2 D' (yD g b (ds.drop (i+1)) Z2),λσ2 H2 n=>⟨ds.length-(i+1),by omega,rfl,hlt,n⟩,λx H'' y=>?_⟩
  obtain⟨sm,ix⟩:=iok.yl H' i ds[i] x H'' gs.extT (by simp[hlt]) y
  rw[qa8 hlt]at w
  unfold yD at w
  have gs2:GrS c.O σ H1 σ' H'':=gs.trans (Gr.of_same sm).s
  have ix2:Is X.K (Cn c σ') H'' ds[i] x:=Is.ext Ext.refl (λa ha _=>gs2.cnT ha) ix
  cases e1:g ds[i] Z' with
  |none=>simp only[e1]at w;exact w.elim
  | some Z2=>
   simp only[e1]at w
   refine wg Z' σ' H'' ds[i] x Z2 _ (r'.same sm) ix2 e1 λσ2 r2 g2 _=>wb Z2 σ2 H'' _ r2 ?_
   have w2:=w.gr ((Gr.of_same sm).s.trans g2)
   have gs3:GrS c.O σ H1 σ2 H'':=gs2.trans g2
   cases e2:b Z2 with
   |ok fl=>
    cases fl with
    |nx Z3=>simp only[e2]at w2;exact λσ3 H3 r3 g3=>⟨Z3,r3,gs3.trans g3,w2.gr g3⟩
    |ct Z3=>simp only[e2]at w2;exact λσ3 H3 r3 g3=>⟨Z3,r3,gs3.trans g3,w2.gr g3⟩
    |bk Z3=>simp only[e2]at w2;exact w2
    |rt d Z3=>simp only[e2]at w2;exact w2
   |exc x Z3=>simp only[e2]at w2;exact w2
   |bad=>simp only[e2]at w2;exact w2
 ·have hie:i=ds.length:=by omega
  subst hie
  rw[ycO (yac _)]at w
  exact .inl ⟨iok.stop H' gs.extT,w σ' H' r' .refl⟩
end
def cin (B0:Addr->Prop) (H1:Hp) (O':List Nat) (Io':Addr->Prop) (acc:Addr) (S':Nat->Option (Option V)):Fc where
 O:=O'
 P:=O'
 B:=λa=>B0 a/\a≠acc
 H0:=upd H1 acc (.lst [])
 Io:=λa=>Io' a\/a=acc
 E:=λ_ _=>False
 S:=S'
def jh (g:D->Env->Option Env) (t:M Bool) (e:M D):List D->List D->Env->R (List D×Env)
 | [],acc,Z => .ok (acc,Z)
 | d :: ds,acc,Z=>match g d Z with
  |none => .bad
  | some Z1=>match t Z1 with
   |.ok (true,Z2)=>match e Z2 with
    |.ok (y,Z3)=>if zx (acc.length+1)then jh g t e ds (acc++[y]) Z3 else .bad
    |_ => .bad
   |.ok (false,Z2)=>jh g t e ds acc Z2
   |_ => .bad
def uA(nt:Nat)(fr:List Nat)(Z:Env):Env:=yat nt none++fr.map λj=>(Z[j]?).join
def qlz (fo:Option (Nat×Nat)) (Ze Z:Env):Env:=match fo with
 |none=>Z
 |some (i,j)=>Z.set j (Ze[i]?).join
def jJ (nt:Nat) (fr:List Nat) (fo:Option (Nat×Nat)) (f:M (List D)) (g:D->Env->Option Env) (t:M Bool) (e:M D):M D:=bnd f λds Z=>match jh g t e ds [] (uA nt fr Z) with
 |.ok (ys,Ze) => .ok (.lst ys,qlz fo Ze Z)
 |_ => .bad
def DF(X:Cx)(c:Fc)(ifs:List Expr)(f:M Bool):Prop:=∃t,PF X ifs t/\∀Z σ H Q,Rep X.K c Z σ H->WpB X.K c σ H Q (f Z)->t σ H Q
def foO (fo:Option (Nat×Nat)):List Nat:=match fo with
 |none=>[]
 |some (i,_)=>[i]
section
variable{X:Cx}{c:Fc}{tg a b e:Expr}{pos:Pos}
theorem qeb:DF X c [] (ret true):=⟨_,qnD,λZ σ H Q r h=>h H r .refl⟩
theorem qhI {f:M Bool} (h:DT X c e f):DF X c [e] f:=by
 obtain⟨t,p,w⟩:=h
 exact⟨_,qnE p,w⟩
theorem WpI.bnd {K:Fr0} {σ:St} {H:Hp} {Q:VK} {f:M (List D)} {k:List D->M D} {Z:Env} {Q':It->Hp->Prop} (h:Wp K c σ H Q (Sk.bnd f k Z))
  (hQ:∀ds Z' J H',Rep K c Z' σ H'->qkn K (CnT c σ H') H' ds J->Gr c.O σ H H'->Wp K c σ H' Q (k ds Z')->Q' J H'):WpI K c σ H Q' (f Z):=by
 unfold Sk.bnd at h
 cases e:f Z with
 |ok p=>rw[e]at h;exact λv H' hr hi hg=>hQ p.1 p.2 v H' hr hi hg (h.gr hg)
 |exc x Z'=>rw[e]at h;exact h
 |bad=>rw[e]at h;exact h
theorem Rep.grow {K:Fr0} {B0:Addr->Prop} {H1:Hp} {O':List Nat} {Io':Addr->Prop} {acc:Addr} {S':Nat->Option (Option V)} {Z:Env} {σ:St} {H:Hp} {xs ys:List V} (r:Rep K (cin B0 H1 O' Io' acc S') Z σ H) (h:H acc=some (.lst xs)) (ho:∀j∈O',σ[j]? ≠ some (some (.ref acc))) :
  Rep K (cin B0 H1 O' Io' acc S') Z σ (upd H acc (.lst ys)):=by
 have ext:Ext (λa=>a≠acc) H (upd H acc (.lst ys)):=⟨λb zs hb=>by rw[qM (qbG hb h (by intro z;cases z))];exact hb,λb o u hb=>by rw[qM (qbG hb h (by intro z;cases z))];exact hb,λb o hb hq=>by rw[qM hb];exact hq⟩
 have cnext:Ext (Cn (cin B0 H1 O' Io' acc S') σ) H (upd H acc (.lst ys)):=⟨ext.tup,ext.frz,λb o hb hq=>ext.at_ b o hb.1.2 hq⟩
 refine⟨r.len,λi d hd=>?_,λj hj v hv=>?_,r.inj,r.b0,λb o hb hio=>?_,λb hb=>?_,r.pO,r.ps⟩
 ·obtain ⟨v,h1,h2⟩:=r.val i d hd
  refine⟨v,h1,?_⟩
  rcases h2 with⟨hi,ds,a,zs,h3,h5,h6,h7⟩|⟨hi,h3⟩
  ·subst h5
   have ne:a≠acc:=λe=>ho i hi (by rw[h1,e])
   exact .inl ⟨hi,ds,a,zs,h3,rfl,by rw[qM ne];exact h6,IsL.ext cnext (λ_ h _=>h) h7⟩
  ·exact .inr ⟨hi,Is.ext cnext (λ_ h _=>h) h3⟩
 ·obtain⟨a,zs,h1,h2,h3⟩:=r.own j hj v hv
  subst h1
  have ne:a≠acc:=λe=>ho j hj (by rw[hv,e])
  exact⟨a,zs,rfl,by rw[qM ne];exact h2,h3⟩
 ·have ne:b≠acc:=λe=>hio (.inr e)
  rw[qM ne]
  exact r.kp b o hb hio
 ·by_cases e:b=acc
  ·subst e;rw[qK]at hb;cases hb
  ·rw[qM e]at hb;exact r.dm b hb
theorem qcb {α:Type} {o:Option (Option α)} {a:α} (h:o.join=some a):o=some (some a):=by
 cases o with
 |none=>cases h
 |some x=>have:x=some a:=h;rw[this]
def qlA (c:Fc) (nt:Nat) (fr:List Nat) (fo:Option (Nat×Nat)):Prop:=match fo with
 |none=>∀j∈fr,j ∉ c.O
 |some (i,j)=>j∈c.O/\nt<=i/\fr[i-nt]? = some j/\∀k j',fr[k]? = some j'->nt+k≠i->j' ∉ c.O
def qdS (σ:St) (fo:Option (Nat×Nat)) (a:Addr):Prop:=match fo with
 |none=>False
 |some (_,j)=>σ[j]? = some (some (.ref a))
theorem qa9 {nt:Nat} {fr:List Nat} {σ:St} {k j:Nat} (h:fr[k]? = some j):(zk nt fr σ)[nt+k]? = some (σ[j]?).join:=by
 unfold zk
 rw[List.getElem?_append_right (by simp),ybl,gM_,show nt+k-nt=k by omega,h]
 rfl
theorem qgz {nt:Nat} {fr:List Nat} {Z:Env} {i:Nat} {d:D} (hd:(uA nt fr Z)[i]? = some (some d)):∃k j,i=nt+k/\fr[k]? = some j/\Z[j]? = some (some d):=by
 have hi:nt<=i:=by
  apply ycX
  intro hlt
  unfold uA at hd
  rw[List.getElem?_append_left (by simpa using hlt),List.getElem?_replicate]at hd
  split at hd<;>cases hd
 unfold uA at hd
 rw[List.getElem?_append_right (by simpa using hi),ybl,gM_]at hd
 cases ej:fr[i-nt]? with
 |none=>rw[ej]at hd;cases hd
 |some j=>
  rw[ej]at hd
  exact⟨i-nt,j,by omega,ej,qcb (by simpa using hd)⟩
theorem uI {nt:Nat} {fr:List Nat} {σ:St} {i:Nat} {d:V} (hd:(zk nt fr σ)[i]? = some (some d)):∃k j,i=nt+k/\fr[k]? = some j/\σ[j]? = some (some d):=by
 have hi:nt<=i:=by
  apply ycX
  intro hlt
  unfold zk at hd
  rw[List.getElem?_append_left (by simpa using hlt),List.getElem?_replicate]at hd
  split at hd<;>cases hd
 unfold zk at hd
 rw[List.getElem?_append_right (by simpa using hi),ybl,gM_]at hd
 cases ej:fr[i-nt]? with
 |none=>rw[ej]at hd;cases hd
 |some j=>
  rw[ej]at hd
  exact⟨i-nt,j,by omega,ej,qcb (by simpa using hd)⟩
theorem Rep.entry {K:Fr0} {nt:Nat} {fr:List Nat} {fo:Option (Nat×Nat)} {acc:Addr} {Z:Env} {σ:St} {H:Hp} (r:Rep K c Z σ H) (hn:H acc=none) (hfo:qlA c nt fr fo) :
  Rep K (cin (Cn c σ) H (foO fo) (qdS σ fo) acc λj=>(zk nt fr σ)[j]?) (uA nt fr Z) (zk nt fr σ) (upd H acc (.lst [])):=by
 have sm:yn H (upd H acc (.lst [])):=qG hn _
 have ownI:∀i∈foO fo,∀v,(zk nt fr σ)[i]? = some (some v)->∃j,fo=some (i,j)/\j∈c.O/\σ[j]? = some (some v):=λi hi v hv=>by
  cases fo with
  |none=>cases hi
  |some p=>
   obtain⟨i',j'⟩:=p
   have e:i=i':=by simpa [foO] using hi
   subst e
   obtain⟨h1,h2,h3,h4⟩:=hfo
   obtain⟨k,j,e1,e2,e3⟩:=uI hv
   have hk:k=i-nt:=by omega
   subst hk
   rw[h3]at e2
   cases e2
   exact⟨j',rfl,h1,e3⟩
 have clI:∀a,Cl c.O σ a->Cl (foO fo) (zk nt fr σ) a:=λa ha i hi e=>by
  obtain⟨j,_,hj,e2⟩:=ownI i hi _ e
  exact ha j hj e2
 refine⟨by simp[uA,zk],λi d hd=>?_,λi hi v hv=>?_,λi j a hi hj h1 h2=>?_,⟨λa ha=>?_,λq P pos eP=>?_⟩,λb o hb hio=>?_,λb hb=>?_,λ_ h=>h,λ_ _=>rfl⟩
 ·obtain ⟨k,j,e1,e2,e3⟩:=qgz hd
  subst e1
  by_cases hO:nt+k∈foO fo
  ·obtain ⟨v,hv⟩:∃v,σ[j]? = some (some v):=by
    obtain⟨v,h1,_⟩:=r.val j d e3
    exact⟨v,h1⟩
   have hc:(zk nt fr σ)[nt+k]? = some (some v):=by rw[qa9 e2,hv];rfl
   obtain⟨j',f1,f2,f3⟩:=ownI _ hO v hc
   subst f1
   obtain⟨g1,g2,g3,g4⟩:=hfo
   rw[show nt+k-nt=k by omega,e2]at g3
   cases g3
   obtain⟨ds,a,xs,h1,h3,h4,h5⟩:=r.getO g1 e3
   rw[hv]at h3
   cases h3
   exact⟨.ref a,hc,.inl ⟨hO,ds,a,xs,h1,rfl,sm _ _ h4,IsL.ext (Ext.of_same sm) (λb hb hs=>⟨⟨hb,λe=>by subst e;rw[hn]at hs;cases hs⟩,clI b hb.2⟩) h5⟩⟩
  ·have hj:j ∉ c.O:=by
    cases fo with
    |none=>exact hfo j (yby e2)
    |some p=>
     obtain⟨i',j'⟩:=p
     exact hfo.2.2.2 k j e2 (λe=>hO (by simp[foO,e]))
   obtain⟨v,h1,h2⟩:=r.get hj e3
   refine⟨v,by rw[qa9 e2,h1];rfl,.inr ⟨hO,?_⟩⟩
   refine Is.ext (Ext.of_same sm) (λa ha hs=>⟨⟨ha,λe=>?_⟩,clI a ha.2⟩) h2
   subst e;rw[hn]at hs;cases hs
 ·obtain⟨j,f1,f2,f3⟩:=ownI i hi v hv
  obtain⟨a,xs,h1,h2,h3⟩:=r.own j f2 v f3
  subst h1 f1
  exact⟨a,xs,rfl,sm _ _ h2,.inr ⟨hi,.inl f3⟩⟩
 ·cases fo with
  |none=>cases hi
  |some p=>
   obtain⟨i',j'⟩:=p
   have e:i=i':=by simpa [foO,cin] using hi
   have e2:j=i':=by simpa [foO,cin] using hj
   rw[e,e2]
 ·have ha':upd H acc (.lst []) a=none:=ha
  by_cases e:a=acc
  ·subst e;rw[qK]at ha';cases ha'
  ·rw[qM e]at ha';exact⟨r.new ha',e⟩
 ·have hP:=(r.tb q P pos eP).1
  refine⟨sm _ _ hP,λz=>?_⟩
  rcases z with z|z
  ·cases fo with
   |none=>exact z
   |some p=>
    obtain⟨b,xs,e1,e2,_⟩:=r.own _ hfo.1 _ z
    cases e1
    rw[hP]at e2;cases e2
  ·rw[z,hn]at hP;cases hP
 ·exact hb
 ·exact hb
theorem Rep.leave {K:Fr0} {nt:Nat} {fr:List Nat} {fo:Option (Nat×Nat)} {acc:Addr} {Z Ze:Env} {σ σe:St} {H H':Hp} (r:Rep K c Z σ H) (hn:H acc=none) (hfo:qlA c nt fr fo) (hf:∀i j,fo=some (i,j)->σe[i]? = (zk nt fr σ)[i]?)
  (q:Rep K (cin (Cn c σ) H (foO fo) (qdS σ fo) acc λj=>(zk nt fr σ)[j]?) Ze σe H'):Rep K c (qlz fo Ze Z) σ H'/\Gr c.O σ H H':=by
 have kp:∀b o,H b=some o->¬qdS σ fo b->H' b=some o:=λb o hb hio=>q.kp b o (by show upd H acc (.lst []) b=some o;rw[qM (zl hb hn)];exact hb) λz=>z.elim hio λe=>absurd e (zl hb hn)
 have clean:∀b,Cl c.O σ b->¬qdS σ fo b:=λb hb hio=>by
  cases fo with
  |none=>exact hio
  |some p=>exact hb p.2 hfo.1 hio
 have dom:∀b,H' b=none->H b=none:=λb hb=>by
  have:=q.dm b hb
  by_cases e:b=acc
  ·subst e;exact hn
  ·have this:upd H acc (.lst []) b=none:=this
   rw[qM e]at this;exact this
 have notT:∀b xs,H b=some (.tup xs)->¬qdS σ fo b:=λb xs hb hio=>by
  cases fo with
  |none=>exact hio
  |some p=>
   obtain⟨a,ys,e1,e2,_⟩:=r.own p.2 hfo.1 _ hio
   cases e1;rw[hb]at e2;cases e2
 have notF:∀b o u,H b=some (.frz o u)->¬qdS σ fo b:=λb o u hb hio=>by
  cases fo with
  |none=>exact hio
  |some p=>
   obtain⟨a,ys,e1,e2,_⟩:=r.own p.2 hfo.1 _ hio
   cases e1;rw[hb]at e2;cases e2
 have gr:Gr c.O σ H H':=⟨⟨λb xs hb=>kp b _ hb (notT b xs hb),λb o u hb=>kp b _ hb (notF b o u hb),λb o hc hb=>kp b o hb (clean b hc)⟩,dom⟩
 refine⟨⟨?_,λk d hd=>?_,λj hj v hv=>?_,r.inj,r.b0,λb o hb hio=>?_,λb hb=>r.dm b (dom b hb),r.pO,r.ps⟩,gr⟩
 ·cases fo with
  |none=>exact r.len
  |some p=>show(Z.set _ _).length=_;rw[lS_];exact r.len
 ·-- an old slot,or the one that came qlz
  have oldSlot:Z[k]? = some (some d)->(∀i,fo≠some (i,k))->∃v,σ[k]? = some (some v)/\((k∈c.O/\∃ds a xs,d=.lst ds/\v=.ref a/\H' a=some (.lst xs)/\IsL K (Cn c σ) H' ds xs)\/(k ∉ c.O/\Is K (Cn c σ) H' d v)):=λhk hne=>by
   obtain⟨v,h1,h2⟩:=r.val k d hk
   refine⟨v,h1,?_⟩
   rcases h2 with⟨hi,ds,a,xs,h3,h5,h6,h7⟩|⟨hi,h3⟩
   ·subst h5
    refine .inl ⟨hi,ds,a,xs,h3,rfl,kp a _ h6 (λhio=>?_),gr.isL h7⟩
    cases fo with
    |none=>exact hio
    |some p=>
     obtain⟨i',j'⟩:=p
     have e:=r.inj k j' a hi hfo.1 h1 hio
     exact hne i' (by rw[e])
   ·exact .inr ⟨hi,gr.is h3⟩
  cases fo with
  |none=>exact oldSlot hd (λi e=>by cases e)
  | some p=>
   obtain⟨i',j'⟩:=p
   have hd':(Z.set j' (Ze[i']?).join)[k]? = some (some d):=hd
   by_cases e:k=j'
   ·subst e
    have hl:k<Z.length:=by
     have:=(gI_.mp hd').1
     rwa [lS_]at this
    rw[List.getElem?_set_self hl]at hd'
    have he:Ze[i']? = some (some d):=qcb (yaM hd')
    obtain⟨ds,a,xs,h1,h3,h4,h5⟩:=q.getO (show i'∈foO (some (i',k)) by simp[foO]) he
    have h3':=hf i' k rfl
    rw[h3]at h3'
    obtain⟨k2,j2,e1,e2,e3⟩:=uI h3'.symm
    have hk2:k2=i'-nt:=by omega
    subst hk2
    rw[hfo.2.2.1]at e2
    cases e2
    exact⟨.ref a,e3,.inl ⟨hfo.1,ds,a,xs,h1,rfl,h4,IsL.ext Ext.refl (λb hb _=>hb.1.1) h5⟩⟩
   ·rw[jm e]at hd'
    exact oldSlot hd' (λi e2=>e (by cases e2;rfl))
 ·obtain ⟨a,xs,h1,h2,h3⟩:=r.own j hj v hv
  subst h1
  by_cases hio:qdS σ fo a
  ·cases fo with
   |none=>exact hio.elim
   | some p=>
    obtain⟨i',j'⟩:=p
    have hc:(zk nt fr σ)[i']? = some (some (.ref a)):=by
     have:=qa9 (σ:=σ) (nt:=nt) hfo.2.2.1
     rw[show nt+(i'-nt)=i' by have:=hfo.2.1;omega]at this
     rw[this]
     have hio':σ[j']? = some (some (.ref a)):=hio
     rw[hio'];rfl
    have h3':=hf i' j' rfl
    rw[hc]at h3'
    obtain⟨a',ys,e1,e2,_⟩:=q.own i' (by simp[foO,cin]) _ h3'
    cases e1
    exact⟨a,ys,rfl,e2,h3⟩
  ·exact⟨a,xs,rfl,kp a _ h2 hio,h3⟩
 ·by_cases hio2:qdS σ fo b
  ·cases fo with
   |none=>exact hio2.elim
   |some p=>
    obtain⟨a,ys,e1,e2,e3⟩:=r.own p.2 hfo.1 _ hio2
    cases e1
    rcases e3 with e3|e3
    ·rw[hb]at e3;cases e3
    ·exact absurd e3.2 hio
  ·exact kp b o (r.kp b o hb hio) hio2
theorem qcc {it elt:Expr} {ifs:List Expr} {scope:Scope} {N':List Str} {nt:Nat} {fr:List Nat} {fo:Option (Nat×Nat)} {f:M (List D)} {g:D->Env->Option Env} {t:M Bool} {k:M D} (hc:X.calm=true) (hi:DI X c tg it f) (S:ui X scope N' nt fr)
  (hfo:qlA c nt fr fo)
  (hb:∀fp cl C s₀ H₀ pn B0 H1 Io' acc S',DG (jz X scope N' fp cl C s₀ H₀ pn) (cin B0 H1 (foO fo) Io' acc S') tg g/\DF (jz X scope N' fp cl C s₀ H₀ pn) (cin B0 H1 (foO fo) Io' acc S') ifs t/\DE (jz X scope N' fp cl C s₀ H₀ pn) (cin B0 H1 (foO fo) Io' acc S') elt k)
  (hs:∀x,ybS it X.env x=pure x:=by intro _;rfl):DE X c (.ListComp elt [⟨tg,it,ifs,0⟩] scope pos) (jJ nt fr fo f g t k):=by
 obtain⟨wi,pi,wI⟩:=hi
 refine⟨_,qly hc pi S hs,λZ σ H Q r h=>wI Z σ H _ r (WpI.bnd h λds Z1 J H1 r1 iok g1 h1=>?_)⟩
 intro acc fp cl C s₀ H₀ pn hn
 obtain⟨⟨tg',pg,wg⟩,⟨tt,pt,wt⟩,⟨te,pe,we⟩⟩:=hb fp cl C s₀ H₀ pn (Cn c σ) H1 (qdS σ fo) acc λj=>(zk nt fr σ)[j]?
 refine⟨tg',tt,te,pg,pt,pe,?_⟩
 cases ew:jh g t k ds [] (uA nt fr Z1) with
 |exc x Z'=>rw[ew]at h1;exact h1.elim
 |bad=>rw[ew]at h1;exact h1.elim
 | ok p =>
  rw[ew]at h1
  obtain⟨ys,Ze⟩:=p
  have h1:∀v H',Rep X.K c (qlz fo Ze Z1) σ H'->Is X.K (Cn c σ) H' (.lst ys) v->Gr c.O σ H1 H'->Q v H':=h1
  have accO:∀j∈foO fo,(zk nt fr σ)[j]? ≠ some (some (.ref acc)):=λj hj e=>by
   have r0:=r1.entry (acc:=acc) hn hfo
   cases fo with
   |none=>cases hj
   |some p=>
    obtain⟨i',j'⟩:=p
    have e2:j=i':=by simpa [foO] using hj
    subst e2
    obtain⟨k2,j2,e1,e2,e3⟩:=uI e
    have hk2:k2=j-nt:=by omega
    subst hk2
    rw[hfo.2.2.1]at e2
    cases e2
    obtain⟨a,us,e4,e5,_⟩:=r1.own j' hfo.1 _ e3
    cases e4;rw[hn]at e5;cases e5
  refine ⟨λi m σ' H'=>m=ds.length-i/\i<=ds.length/\∃Z' zs xs,Rep X.K (cin (Cn c σ) H1 (foO fo) (qdS σ fo) acc λj=>(zk nt fr σ)[j]?) Z' σ' H'/\(∀j∈foO fo,σ'[j]? = (zk nt fr σ)[j]?)/\H' acc=some (.lst xs)/\IsL X.K (Cn (cin (Cn c σ) H1 (foO fo) (qdS σ fo) acc λj=>(zk nt fr σ)[j]?) σ') H' zs xs/\jh g t k (ds.drop i) zs Z'=.ok (ys,Ze),
   ⟨ds.length,by simp,yaD _,uA nt fr Z1,[],[],r1.entry hn hfo,λ_ _=>rfl,qK,rfl,by simpa using ew⟩,?_⟩
  rintro i m σ' H' ⟨rfl,hi,Z',zs,xs,r',so,ha,iz,w⟩
  obtain⟨_,gr⟩:=r1.leave hn hfo (λi j e=>so i (by rw[e];simp[foO])) r'
  have ex:Ext (CnT c σ H1) H1 H':=⟨gr.ext.tup,gr.ext.frz,λb o hb hq=>gr.ext.at_ b o hb.1.2 hq⟩
  have accC:∀τ:St,(∀j∈foO fo,τ[j]? = (zk nt fr σ)[j]?)->Cl (foO fo) τ acc:=λτ hτ j hj e=>accO j hj (by rw[<-hτ j hj];exact e)
  by_cases hlt:i<ds.length
  ·refine .inr ⟨iok.go H' i ds[i] ex (by simp[hlt]),λx H'' y=>?_⟩
   obtain⟨sm,ix⟩:=iok.yl H' i ds[i] x H'' ex (by simp[hlt]) y
   rw[qa8 hlt]at w
   unfold jh at w
   have ix2:Is X.K (Cn (cin (Cn c σ) H1 (foO fo) (qdS σ fo) acc λj=>(zk nt fr σ)[j]?) σ') H'' ds[i] x:=Is.ext Ext.refl (λa ha _=>⟨⟨ha.1,λe=>by
    have:=ha.2
    rw [e,hn]at this;cases this⟩,λj hj e=>by
     rw[so j hj]at e
     cases fo with
     |none=>cases hj
     |some p=>
      obtain⟨i',j'⟩:=p
      have e2:j=i':=by simpa [foO,cin] using hj
      subst e2
      obtain⟨k2,j2,e1,e2,e3⟩:=uI e
      have hk2:k2=j-nt:=by omega
      subst hk2
      rw[hfo.2.2.1]at e2
      cases e2
      exact ha.1.2 j' hfo.1 e3⟩) ix
   cases e1:g ds[i] Z' with
   |none=>simp only[e1]at w;cases w
   | some Z2=>
    simp only[e1]at w
    refine wg Z' σ' H'' ds[i] x Z2 _ (r'.same sm) ix2 e1 λσ2 r2 g2 o2=>?_
    have so2:∀j∈foO fo,σ2[j]? = (zk nt fr σ)[j]? := λj hj=>(o2 j hj).trans (so j hj)
    have ha2:H'' acc=some (.lst xs):=sm _ _ ha
    have iz2:=g2.isL (IsL.ext (Ext.of_same sm) (λ_ h _=>h) iz)
    cases e2:t Z2 with
    |exc x Z3=>simp only[e2]at w;cases w
    |bad=>simp only[e2]at w;cases w
    | ok p2=>
     obtain⟨bb,Z3⟩:=p2
     refine wt Z2 σ2 H'' _ r2 ?_
     rw[e2]
     intro H3 r3 g3
     have ha3:H3 acc=some (.lst xs):=g3.ext.at_ _ _ (accC σ2 so2) ha2
     have iz3:=g3.isL iz2
     cases bb with
     |false=>
      rw[if_neg yap]
      simp only[e2]at w
      exact⟨ds.length-(i+1),by omega,rfl,hlt,Z3,zs,xs,r3,so2,ha3,iz3,w⟩
     | true=>
      rw[if_pos rfl]
      simp only[e2]at w
      cases e3:k Z3 with
      |exc x Z4=>simp only[e3]at w;cases w
      |bad=>simp only[e3]at w;cases w
      | ok p3=>
       obtain⟨d4,Z4⟩:=p3
       simp only[e3]at w
       refine we Z3 σ2 H3 _ r3 ?_
       rw[e3]
       intro y4 H4 r4 i4 g4
       have ha4:H4 acc=some (.lst xs):=g4.ext.at_ _ _ (accC σ2 so2) ha3
       have hsz:zx (zs.length+1)=true:=by
        cases e5:zx (zs.length+1) with
        |true=>rfl
        |false=>rw[e5]at w;simp at w
       rw[if_pos hsz]at w
       have hsz':zs.length+1<=yaq:=of_decide_eq_true hsz
       have r5:=r4.grow (ys:=xs++[y4]) ha4 (λj hj e=>accC σ2 so2 j hj e)
       have ext5:Ext (Cn (cin (Cn c σ) H1 (foO fo) (qdS σ fo) acc λj=>(zk nt fr σ)[j]?) σ2) H4 (upd H4 acc (.lst (xs++[y4]))):=⟨λb us hb=>by rw[qM (qbG hb ha4 (by intro z;cases z))];exact hb,λb o u hb=>by rw[qM (qbG hb ha4 (by intro z;cases z))];exact hb,λb o hb hq=>by rw[qM hb.1.2];exact hq⟩
       refine⟨xs,ha4,by rw[iz3.length];omega,ds.length-(i+1),by omega,rfl,hlt,Z4,zs++[d4],xs++[y4],r5,so2,qK,?_,w⟩
       exact IsL.append (IsL.ext ext5 (λ_ h _=>h) (g4.isL iz3)) (IsL.one (Is.ext ext5 (λ_ h _=>h) i4))
  ·have hie:i=ds.length:=by omega
   subst hie
   rw[ycO (yac _)]at w
   unfold jh at w
   cases w
   obtain⟨r6,g6⟩:=r1.leave hn hfo (λi j e=>so i (by rw[e];simp[foO])) r'
   exact .inl ⟨iok.stop H' ex,h1 _ H' r6 ⟨acc,xs,rfl,r1.new hn,ha,IsL.ext Ext.refl (λa ha hs=>ha.1.1) iz⟩ g6⟩
end
theorem Rep.io {K:Fr0} {c:Fc} {Z:Env} {σ:St} {H H':Hp} {i:Nat} {a:Addr} {bs:List D} {xs:List V} (r:Rep K c Z σ H) (hi:i∈c.O) (hs:σ[i]? = some (some (.ref a))) (kp:∀b o,b≠a->H b=some o->H' b=some o)
  (ha:H' a=some (.lst xs)) (him:True) (il:IsL K (Cn c σ) H' bs xs) (dm:∀b,H' b=none->H b=none):Rep K c (Z.set i (some (.lst bs))) σ H'/\Gr c.O σ H H':=by
 obtain⟨a',xs0,e0,h0,hown⟩:=r.own i hi _ hs
 cases e0
 have gr:Gr c.O σ H H':=⟨⟨λb us hb=>kp b _ (qbG hb h0 (by intro z;cases z)) hb,λb o u hb=>kp b _ (qbG hb h0 (by intro z;cases z)) hb,λb o hc hb=>kp b o (λe=>hc i hi (by rw[hs,e])) hb⟩,dm⟩
 refine⟨⟨by rw[lS_];exact r.len,λk d hk=>?_,λj hj v hv=>?_,r.inj,r.b0,λb o hb hio=>?_,λb hb=>r.dm b (dm b hb),r.pO,r.ps⟩,gr⟩
 ·by_cases e:k=i
  ·subst e
   have hl:k<Z.length:=by
    have:=(gI_.mp hk).1
    rwa [lS_]at this
   rw[List.getElem?_set_self hl]at hk
   cases hk
   exact⟨.ref a,hs,.inl ⟨hi,bs,a,xs,rfl,rfl,ha,il⟩⟩
  ·rw [jm e]at hk
   obtain⟨v,h1,h2⟩:=r.val k d hk
   refine⟨v,h1,?_⟩
   rcases h2 with⟨hk2,ds,b,ys,h3,h5,h6,h7⟩|⟨hk2,h3⟩
   ·subst h5
    have ne:b≠a:=λe2=>e (r.inj k i a hk2 hi (by rw[h1,e2]) hs)
    exact .inl ⟨hk2,ds,b,ys,h3,rfl,kp b _ ne h6,gr.isL h7⟩
   ·exact .inr ⟨hk2,gr.is h3⟩
 ·obtain⟨b,ys,h1,h2,h3⟩:=r.own j hj v hv
  subst h1
  by_cases e:b=a
  ·subst e;exact⟨b,xs,rfl,ha,h3⟩
  ·exact⟨b,ys,rfl,kp b _ e h2,h3⟩
 ·have ne:b≠a:=λe=>by
   subst e
   rcases hown with z|z
   ·rw[hb]at z;cases z
   ·exact hio z.2
  exact kp b o ne (r.kp b o hb hio)
def jr (i:Nat) (Z:Env):Option (List D):=match Z[i]? with
 |some (some (.lst ds))=>some ds
 |_=>none
theorem qhJ {i:Nat} {Z:Env} {ds:List D} (h:jr i Z=some ds):Z[i]? = some (some (.lst ds)):=by
 unfold jr at h
 split at h
 ·rename_i e;cases h;exact e
 ·cases h
theorem Rep.getLO {K:Fr0} {c:Fc} {Z:Env} {σ:St} {H:Hp} (r:Rep K c Z σ H) {i:Nat} {ds:List D} (hi:i∈c.O) (h:jr i Z=some ds) :
  ∃a xs,True/\σ[i]? = some (some (.ref a))/\H a=some (.lst xs)/\IsL K (Cn c σ) H ds xs:=by
 obtain⟨ds',a,xs,h1,h3,h4,h5⟩:=r.getO hi (qhJ h)
 cases h1
 exact⟨a,xs,trivial,h3,h4,h5⟩
theorem uj{H:Hp}{a b:Addr}{o u:HO}(h:b≠a)(hb:H b=some o):upd H a u b=some o:=by rw[qM h];exact hb
theorem qhK {H:Hp} {a b:Addr} {u:HO} (h:upd H a u b=none):H b=none:=by
 by_cases e:b=a
 ·subst e;rw[qK]at h;cases h
 ·rw[qM e]at h;exact h
section
variable{X:Cx}{c:Fc}{a b e:Expr}{pos:Pos}
def uY (i:Nat) (f:M D):M D:=λZ=>match jr i Z with
 |none => .bad
 |some _=>(bnd f λd Z=>match jr i Z with
  |some ds=>if imm d&&zx (ds.length+1)then .ok (.non,Z.set i (some (.lst (ds++[d]))))else .bad
  |none => .bad) Z
theorem qec {i:Nat} {x:Str} {p1 apos:Pos} {f:M D} (he:DE X c e f) (ho:i∈c.O:=by exact of_decide_eq_true rfl) (hN:X.N[i]? = some x:=by rfl) (hv:Vis X.env.scope x:=by first|exact ybr rfl|exact ya3 (ybr rfl)|exact ya3 (ya3 rfl)) (hd:(x==("__debug__":Str))=false:=by decide) (hcd:(x==("__classdict__":Str))=false:=by decide)
  (hbase:ycT (.Name x p1) "append" X.env (eval (.Name x p1) X.env)=eval (.Name x p1) X.env:=by rfl)
  (hfew:((yaR pos (yah [e] X.env)).all (λx => !x.1)&&(yeH pos (ydq [] X.env)).all (λx=>x.1.isSome)
   && decide ([e].length+([]:List ycm).length+(if([]:List ycm).isEmpty then 0 else 1)<30))=true:=by rfl)
  (hline:(apos.endLine==pos.line)=true:=by rfl) (hs:yah [e] X.env=(false,eval e X.env)::yah [] X.env:=by rfl) (hplain:(yaR pos (yah [] X.env)).any (·.1)=false:=by rfl) :
  DE X c (.Call (.Attribute (.Name x p1) "append" apos) [e] [] pos) (uY i f):=by
 obtain⟨t,p,w⟩:=he
 refine⟨_,qnq yd6 PySem.F.slot_list_append PySem.F.type_list_append qb4 (qaF hN hv hd hcd) (uu p qby hs) hbase hfew hline hs hplain,λZ σ H Q r h=>?_⟩
 unfold uY at h
 cases e0:jr i Z with
 |none=>rw[e0]at h;exact h.elim
 | some ds0=>
  simp only[e0]at h
  obtain⟨l,xs0,_,hl,hH,_⟩:=r.getLO ho e0
  refine⟨.ref l,hl,.inl ⟨rfl,xs0,.inl (.inl hH)⟩,w Z σ H _ r (Wp.bnd h λd Z1 v H1 r1 i1 g1 h1=>?_)⟩
  cases e1:jr i Z1 with
  |none=>simp only[e1]at h1;exact h1.elim
  | some ds=>
   simp only[e1]at h1
   by_cases hb:(imm d&&zx (ds.length+1))=true
   ·rw [if_pos hb]at h1
    rw[yal]at hb
    obtain⟨l',xs,him,hl',hH',il⟩:=r1.getLO ho e1
    rw[hl]at hl'
    cases hl'
    have hsz:ds.length+1<=yaq:=of_decide_eq_true hb.2
    have ext:Ext (Cn c σ) H1 (upd H1 l (.lst (xs++[v]))):=⟨λb us hb=>uj (qbG hb hH' (by intro z;cases z)) hb,λb o u hb=>uj (qbG hb hH' (by intro z;cases z)) hb,λb o hb hq=>uj (λe=>hb.2 i ho (by rw[hl,e])) hq⟩
    obtain ⟨r2,g2⟩:=r1.io (H':=upd H1 l (.lst (xs++[v]))) (bs:=ds++[d]) ho hl (λb o hb ho=>uj hb ho) qK trivial
     (IsL.append (IsL.ext ext (λ_ h _=>h) il) (IsL.one (Is.ext ext (λ_ h _=>h) i1))) (λb hb=>qhK hb)
    exact⟨l,xs,v,rfl,rfl,hH',by rw[il.length];omega,h1 _ _ r2 rfl g2⟩
   ·rw[if_neg hb]at h1;exact h1.elim
def qjo (i:Nat) (k f:M D):MS:=sbnd f λd Z=>match jr i Z with
 |none => .bad
 | some _=>(sbnd k λj Z=>match j,jr i Z with
  |.int n,some ds=>match ixN ds.length n with
   |some q=>if imm d then .ok (.nx (Z.set i (some (.lst (ds.set q d)))))else .bad
   |none => .bad
  |_,_ => .bad) Z
theorem qlB {i:Nat} {x:Str} {p1 p2:Pos} {ke:Expr} {f k:M D} (he:DE X c e f) (hk:DE X c ke k) (ho:i∈c.O:=by exact of_decide_eq_true rfl) (hN:X.N[i]? = some x:=by rfl) (hv:Vis X.env.scope x:=by first|exact ybr rfl|exact ya3 (ybr rfl)|exact ya3 (ya3 rfl)) (hd:(x==("__debug__":Str))=false:=by decide) (hcd:(x==("__classdict__":Str))=false:=by decide)
  (ha:∀v,ycg (.Subscript (.Name x p1) ke p2) X.env v=(do
   let ov <-ydj [v] (eval (.Name x p1) X.env)
   let iv <-ydj [v,ov] (eval ke X.env)
   standAt p2
   ydj [v,ov,iv] (setItem ov iv v)
   release [v,ov,iv] []):=by intro _;rfl)
  (hs:ycQ [.Subscript (.Name x p1) ke p2] e pos.line X.env=pure false:=by rfl) (hw:ycR [.Subscript (.Name x p1) ke p2] e X.env=pure none:=by rfl) (h1:(ybx [.Subscript (.Name x p1) ke p2] X.env).map (·.2)=[ycg (.Subscript (.Name x p1) ke p2) X.env]:=by rfl) :
  DS X c (.Assign [.Subscript (.Name x p1) ke p2] e pos) (qjo i k f):=by
 obtain⟨t,p,w⟩:=he
 obtain⟨tk,pk,wk⟩:=hk
 refine⟨_,qkc p (qm4 (qaF hN hv hd hcd) pk qjd ha) hs hw h1,λZ σ H D r h=>w Z σ H _ r (Wp.sbnd h λd Z1 v H1 r1 i1 g1 h1=>?_)⟩
 cases e0:jr i Z1 with
 |none=>simp only[e0]at h1;exact h1.elim
 | some ds0=>
  simp only[e0]at h1
  obtain⟨l,xs0,_,hl,hH,_⟩:=r1.getLO ho e0
  refine⟨.ref l,hl,wk Z1 σ H1 _ r1 (Wp.sbnd h1 λj Z2 u H2 r2 i2 g2 h2=>?_)⟩
  cases j with
  | int n=>
   cases e1:jr i Z2 with
   |none=>simp only[e1]at h2;exact h2.elim
   | some ds=>
    simp only[e1]at h2
    cases e2:ixN ds.length n with
    |none=>simp only[e2]at h2;exact h2.elim
    | some q=>
     simp only[e2]at h2
     by_cases hb:imm d=true
     ·rw [if_pos hb]at h2
      obtain⟨l',xs,him,hl',hH',il⟩:=r2.getLO ho e1
      rw[hl]at hl'
      cases hl'
      cases i2
      have i3:=g2.is i1
      have ext:Ext (Cn c σ) H2 (upd H2 l (.lst (xs.set q v))):=⟨λb us hb=>uj (qbG hb hH' (by intro z;cases z)) hb,λb o u hb=>uj (qbG hb hH' (by intro z;cases z)) hb,λb o hb hq=>uj (λe=>hb.2 i ho (by rw[hl,e])) hq⟩
      obtain ⟨r3,g3⟩:=r2.io (H':=upd H2 l (.lst (xs.set q v))) (bs:=ds.set q d) ho hl (λb o hb ho=>uj hb ho) qK trivial
       (IsL.set (Is.ext ext (λ_ h _=>h) i3) q (IsL.ext ext (λ_ h _=>h) il)) (λb hb=>qhK hb)
      exact⟨l,xs,n,q,rfl,rfl,hH',by rw[il.length];exact e2,h2 σ _ r3 g3.s⟩
     ·rw[if_neg hb]at h2;exact h2.elim
  |_=>exact h2.elim
structure qjp (K:Fr0) (c:Fc) (Z:Env) (σ:St) (H:Hp) (a:Addr):Prop where
 val:∀i d v,Z[i]? = some (some d)->i ∉ c.O->σ[i]? = some (some v)->Is K (λb=>Cn c σ b/\b≠a) H d v
 cont:∀i ds b xs,Z[i]? = some (some (.lst ds))->i∈c.O->σ[i]? = some (some (.ref b))->H b=some (.lst xs)->IsL K (Cn c σ) H ds xs->IsL K (λb=>Cn c σ b/\b≠a) H ds xs
 own:∀j∈c.O,σ[j]? ≠ some (some (.ref a))
 new:c.H0 a=none
theorem Is.fresh{K:Fr0}{A:Addr->Prop}{H:Hp}{d:D}{v:V}{a:Addr}(h:Is K A H d v)(hn:H a=none):Is K (λb=>A b/\b≠a) H d v:=Is.ext Ext.refl (λb h1 h2=>⟨h1,λe=>by rw[e,hn]at h2;cases h2⟩) h
theorem Rep.apart {K:Fr0} {Z:Env} {σ:St} {H:Hp} {a:Addr} {o:HO} (r:Rep K c Z σ H) (hn:H a=none):qjp K c Z σ (upd H a o) a where
 val:=λi d v h1 h2 h3=>by
  obtain⟨w,h4,h5⟩:=r.get h2 h1
  rw[h3]at h4
  cases h4
  exact Is.ext (Ext.of_same (qG hn _)) (λ_ h _=>h) (h5.fresh hn)
 cont:=λi ds b xs h1 h2 h3 h4 _=>by
  obtain⟨ds',a',ys,e1,e2,e3,e4⟩:=r.getO h2 h1
  cases e1
  rw[h3]at e2
  cases e2
  have:=qG hn o _ _ e3
  rw[h4]at this
  cases this
  exact IsL.ext (Ext.of_same (qG hn _)) (λb hb hs=>⟨hb,λe=>by rw[e,hn]at hs;cases hs⟩) e4
 own:=λj hj e=>(r.new hn).2 j hj e
 new:=r.dm a hn
theorem Rep.apart_same {K:Fr0} {Z:Env} {σ:St} {H H':Hp} {a:Addr} (r:Rep K c Z σ H) (hn:H a=none) (sm:yn H H'):qjp K c Z σ H' a where
 val:=λi d v h1 h2 h3=>by
  obtain⟨w,h4,h5⟩:=r.get h2 h1
  rw[h3]at h4
  cases h4
  exact Is.ext (Ext.of_same sm) (λ_ h _=>h) (h5.fresh hn)
 cont:=λi ds b xs h1 h2 h3 h4 _=>by
  obtain⟨ds',a',ys,e1,e2,e3,e4⟩:=r.getO h2 h1
  cases e1
  rw[h3]at e2
  cases e2
  have:=sm _ _ e3
  rw[h4]at this
  cases this
  exact IsL.ext (Ext.of_same sm) (λb hb hs=>⟨hb,λe=>by rw[e,hn]at hs;cases hs⟩) e4
 own:=λj hj e=>(r.new hn).2 j hj e
 new:=r.dm a hn
def WpN (K:Fr0) (c:Fc) (σ:St) (H:Hp) (Q:VK):R (List D×Env)->Prop
 |.ok (ds,Z)=>∀a xs H',H a=none->Rep K c Z σ H'->qjp K c Z σ H' a->H' a=some (.lst xs)->True->IsL K (λb=>Cn c σ b/\b≠a) H' ds xs->Gr c.O σ H H'->Q (.ref a) H'
 |.exc x Z=>∀H',Rep K c Z σ H'->Gr c.O σ H H'->c.E x H'
 |.bad=>False
def DN(X:Cx)(c:Fc)(e:Expr)(f:M (List D)):Prop:=∃t,PE X e t/\∀Z σ H Q,Rep X.K c Z σ H->WpN X.K c σ H Q (f Z)->t σ H Q
theorem WpN.gr {K:Fr0} {σ:St} {H H1:Hp} {Q:VK}:∀{r:R (List D×Env)},WpN K c σ H Q r->Gr c.O σ H H1->WpN K c σ H1 Q r
 |.ok (d,Z),h,g=>λa xs H' hn h1 h2 h3 h4 h5 hg=>h a xs H' (g.dom a hn) h1 h2 h3 h4 h5 (g.trans hg)
 |.exc x Z,h,g=>λH' hr hg=>h H' hr (g.trans hg)
 |.bad,h,_=>h
theorem WpL.bndN {K:Fr0} {σ:St} {H:Hp} {Q:VK} {f:M (List D)} {k:List D->M (List D)} {Z:Env} {Q':List V->Hp->Prop} (h:WpN K c σ H Q (Sk.bnd f k Z)) (hQ:∀d Z' v H',Rep K c Z' σ H'->IsL K (Cn c σ) H' d v->Gr c.O σ H H'->WpN K c σ H' Q (k d Z')->Q' v H'):WpL K c σ H Q' (f Z):=by
 unfold Sk.bnd at h
 cases e:f Z with
 |ok p=>rw[e]at h;exact λv H' hr hi hg=>hQ p.1 p.2 v H' hr hi hg (h.gr hg)
 |exc x Z'=>rw[e]at h;exact h
 |bad=>rw[e]at h;exact h
def qmL(f:M (List D)):M (List D):=bnd f λds=>lift (if immL ds&&zx ds.length then some ds else none)
theorem qkp {es:List Expr} {f:M (List D)} (h:DA X c es f):DN X c (.List es pos) (qmL f):=by
 obtain⟨t,p,w⟩:=h
 refine⟨_,qkg p,λZ σ H Q r h=>w Z σ H _ r (WpL.bndN h λds Z1 vs H1 r1 i1 g1 h1=>?_)⟩
 by_cases hb:(immL ds&&zx ds.length)=true
 ·rw[if_pos hb]at h1
  rw[yal]at hb
  refine⟨by rw[i1.length];exact of_decide_eq_true hb.2,λp hp=>?_⟩
  exact h1 p vs _ hp (r1.laid hp _) (r1.apart hp) qK trivial (IsL.ext (Ext.of_same (qG hp _)) (λb h hs=>⟨h,λe=>by rw[e,hp]at hs;cases hs⟩) i1) (.of_same (qG hp _))
 ·rw[if_neg hb]at h1;exact h1.elim
theorem Cl.setO {O:List Nat} {σ:St} {i:Nat} {a b:Addr} (h:Cl O σ b) (hb:b≠a):Cl O (σ.set i (some (.ref a))) b:=λj hj e=>by
 by_cases hji:j=i
 ·subst hji
  have hl:j<σ.length:=by
   have:=(gI_.mp e).1
   rwa [lS_]at this
  rw[List.getElem?_set_self hl]at e
  cases e
  exact hb rfl
 ·rw[jm hji]at e
  exact h j hj e
theorem Rep.setO {K:Fr0} {Z:Env} {σ:St} {H:Hp} {i:Nat} {a:Addr} {ds:List D} {xs:List V} (r:Rep K c Z σ H) (hi:i∈c.O) (hP:i ∉ c.P) (ap:qjp K c Z σ H a) (ha:H a=some (.lst xs)) (him:True) (il:IsL K (λb=>Cn c σ b/\b≠a) H ds xs) :
  Rep K c (Z.set i (some (.lst ds))) (σ.set i (some (.ref a))) H where
 len:=by rw[lS_,lS_];exact r.len
 val := λj e hj=>by
  by_cases e1:j=i
  ·subst e1
   have hl:j<Z.length:=by
    have:=(gI_.mp hj).1
    rwa [lS_]at this
   rw[List.getElem?_set_self hl]at hj
   cases hj
   exact⟨.ref a,List.getElem?_set_self (by rw[<-r.len];exact hl),.inl ⟨hi,ds,a,xs,rfl,rfl,ha,IsL.ext Ext.refl (λb hb _=>⟨hb.1.1,hb.1.2.setO hb.2⟩) il⟩⟩
  ·rw [jm e1]at hj
   obtain⟨w,h1,h2⟩:=r.val j e hj
   refine⟨w,by rw[jm e1];exact h1,?_⟩
   rcases h2 with⟨g1,ds',b',xs',g3,g5,g6,g7⟩|⟨h3,h4⟩
   ·subst g3 g5
    exact .inl ⟨g1,ds',b',xs',rfl,rfl,g6,IsL.ext Ext.refl (λb hb _=>⟨hb.1.1,hb.1.2.setO hb.2⟩) (ap.cont j ds' b' xs' hj g1 h1 g6 g7)⟩
   ·exact .inr ⟨h3,Is.ext Ext.refl (λb hb _=>⟨hb.1.1,hb.1.2.setO hb.2⟩) (ap.val j e w hj h3 h1)⟩
 own := λj hj w h=>by
  by_cases e1:j=i
  ·subst e1
   have hl:j<σ.length:=by
    have:=(gI_.mp h).1
    rwa [lS_]at this
   rw[List.getElem?_set_self hl]at h
   cases h
   exact⟨a,xs,rfl,ha,.inl ap.new⟩
  ·rw[jm e1]at h
   exact r.own j hj w h
 inj := λj k b hj hk h1 h2=>by
  by_cases e1:j=i
  ·by_cases e2:k=i
   ·rw[e1,e2]
   ·subst e1
    have hl:j<σ.length:=by
     have:=(gI_.mp h1).1
     rwa [lS_]at this
    rw[List.getElem?_set_self hl]at h1
    cases h1
    rw[jm e2]at h2
    exact absurd h2 (ap.own k hk)
  ·by_cases e2:k=i
   ·subst e2
    have hl:k<σ.length:=by
     have:=(gI_.mp h2).1
     rwa [lS_]at this
    rw[List.getElem?_set_self hl]at h2
    cases h2
    rw[jm e1]at h1
    exact absurd h1 (ap.own j hj)
   ·rw[jm e1]at h1
    rw[jm e2]at h2
    exact r.inj j k b hj hk h1 h2
 b0:=r.b0
 kp:=r.kp
 dm:=r.dm
 pO:=r.pO
 ps:=λj hj=>by
  have e:j≠i:=λe=>hP (e▸hj)
  rw[jm e];exact r.ps j hj
def qcd(i:Nat)(f:M (List D)):MS:=sbnd f λds Z => .ok (.nx (Z.set i (some (.lst ds))))
theorem qe1 {i:Nat} {x:Str} {pos':Pos} {f:M (List D)} (hN:X.N.Nodup) (he:DN X c e f) (ho:i∈c.O:=by exact of_decide_eq_true rfl) (hP:i ∉ c.P:=by exact of_decide_eq_false rfl) (hi:X.N[i]? = some x:=by rfl) (hx:Loc X.env.scope x:=by first|exact ybr rfl|exact ya3 rfl) (hs:yc0 e (some (.Name x pos')) pos.line X.env=pure false:=by rfl) (hf:X.fn x=true\/X.env.scope.names.lookup x=some .local:=by first|exact .inl rfl|exact .inr rfl|assumption) :
  DS X c (.Assign [.Name x pos'] e pos) (qcd i f):=by
 obtain⟨t,p,w⟩:=he
 refine⟨_,qkd hN hi hx p hs hf,λZ σ H D r h=>w Z σ H _ r ?_⟩
 unfold qcd sbnd at h
 cases ef:f Z with
 |bad=>rw[ef]at h;exact h
 |exc z Z'=>rw[ef]at h;exact λH' hr hg=>h σ H' hr hg.s
 |ok q=>
  rw[ef]at h
  intro a xs H' hn r' ap ha him il g'
  exact h _ H' (r'.setO ho hP ap ha him il) ⟨g'.ext,λb hb hs=>hb.setO (λe=>by rw[e,hn]at hs;exact absurd hs (by simp)),g'.dom⟩
def qed (i:Nat):M D:=λZ=>match jr i Z with
 |some ds => .ok (.int ds.length,Z)
 |none => .bad
theorem qlC {i:Nat} {x:Str} {p p1:Pos} (hg:Gl X "len") (hm:X.mg "len"=none) (ho:i∈c.O:=by exact of_decide_eq_true rfl) (hN:X.N[i]? = some x:=by rfl) (hv:Vis X.env.scope x:=by first|exact ybr rfl|exact ya3 (ybr rfl)|exact ya3 (ya3 rfl)) (hd:(x==("__debug__":Str))=false:=by decide) (hcd:(x==("__classdict__":Str))=false:=by decide) :
  DE X c (.Call (.Name "len" p) [.Name x p1] [] pos) (qed i):=by
 refine⟨_,qaH zj hg hm PySem.boot_len (uu (qaF hN hv hd hcd) qby),λZ σ H Q r h=>?_⟩
 unfold qed at h
 cases e0:jr i Z with
 |none=>simp only[e0]at h;exact h.elim
 |some ds=>
  simp only[e0]at h
  obtain⟨l,xs,him,hl,hH,il⟩:=r.getLO ho e0
  exact⟨.ref l,hl,.inl ⟨l,xs,rfl,.inl (.inl (.inl hH)),by rw[il.length];exact h _ H r rfl .refl⟩⟩
def qgA (i:Nat):M D:=λZ=>match jr i Z with
 |some ds => .ok (.tup ds,Z)
 |none => .bad
theorem qhL {i:Nat} {x:Str} {p p1:Pos} (hg:Gl X "tuple") (hm:X.mg "tuple"=none) (hb:yaz "tuple"=some (.type "tuple"):=by first|rfl|exact PySem.boot_tuple) (ho:i∈c.O:=by exact of_decide_eq_true rfl) (hN:X.N[i]? = some x:=by rfl) (hv:Vis X.env.scope x:=by first|exact ybr rfl|exact ya3 (ybr rfl)|exact ya3 (ya3 rfl)) (hd:(x==("__debug__":Str))=false:=by decide) (hcd:(x==("__classdict__":Str))=false:=by decide) :
  DE X c (.Call (.Name "tuple" p) [.Name x p1] [] pos) (qgA i):=by
 refine⟨_,qdZ qdf hg hm hb (uu (qaF hN hv hd hcd) qby),λZ σ H Q r h=>?_⟩
 unfold qgA at h
 cases e0:jr i Z with
 |none=>simp only[e0]at h;exact h.elim
 |some ds=>
  simp only[e0]at h
  obtain⟨l,xs,him,hl,hH,il⟩:=r.getLO ho e0
  refine⟨.ref l,hl,l,xs,rfl,.inl ⟨.inl (.inl hH),λp hp=>h _ _ (r.laid hp _) ⟨p,xs,rfl,.inl qK,?_⟩ (.of_same (qG hp _))⟩⟩
  exact IsL.ext (Ext.of_same (qG hp _)) (λ_ h _=>h) il
def qjq (i:Nat) (g:M D):M D:=λZ=>match jr i Z with
 |none => .bad
 | some _=>(bnd g λk Z=>match k,jr i Z with
  |.int n,some ds=>match atI ds n with
   |some d => .ok (d,Z)
   |none => .bad
  |_,_ => .bad) Z
theorem qkq {i:Nat} {x:Str} {p1:Pos} {g:M D} (hb:DE X c b g) (hs:qeT b:=by intro _ _;rfl) (ho:i∈c.O:=by exact of_decide_eq_true rfl) (hN:X.N[i]? = some x:=by rfl) (hv:Vis X.env.scope x:=by first|exact ybr rfl|exact ya3 (ybr rfl)|exact ya3 (ya3 rfl)) (hd:(x==("__debug__":Str))=false:=by decide) (hcd:(x==("__classdict__":Str))=false:=by decide) :
  DE X c (.Subscript (.Name x p1) b pos) (qjq i g):=by
 obtain⟨tb,pb,wb⟩:=hb
 refine⟨_,qnm qhu (qaF hN hv hd hcd) pb hs,λZ σ H Q r h=>?_⟩
 unfold qjq at h
 cases e0:jr i Z with
 |none=>simp only[e0]at h;exact h.elim
 | some ds0=>
  simp only[e0]at h
  obtain⟨l,xs0,_,hl,hH,_⟩:=r.getLO ho e0
  refine⟨.ref l,hl,wb Z σ H _ r (Wp.bnd h λk Z1 v H1 r1 i1 g1 h1=>?_)⟩
  cases k with
  | int n=>
   cases e1:jr i Z1 with
   |none=>simp only[e1]at h1;exact h1.elim
   | some ds=>
    simp only[e1]at h1
    cases e2:atI ds n with
    |none=>simp only[e2]at h1;exact h1.elim
    |some d=>
     simp only[e2]at h1
     obtain⟨l',xs,him,hl',hH',il⟩:=r1.getLO ho e1
     rw[hl]at hl'
     cases hl'
     cases i1
     obtain⟨w,h3,h4⟩:=il.atI e2
     exact⟨l,xs,n,w,rfl,rfl,.inl (.inl hH'),h3,h1 w H1 r1 h4 .refl⟩
  |_=>exact h1.elim
end
def cfn (O P:List Nat) (A:Addr->Prop) (H:Hp) (Io:Addr->Prop) (E:Exn->Hp->Prop) (S:Nat->Option (Option V)):Fc where
 O:=O
 P:=P
 B:=λa=>A a\/H a=none
 H0:=H
 Io:=Io
 E:=E
 S:=S
def uv(n:Nat)(ds:List D):Env:=ds.map some++yat (n-ds.length) none
def spD (K:Fr0) (F:List D->R D):Sp:=λvs H Q _=>∃ds A,IsL K A H ds vs/\qd5 K H/\match F ds with
 |.ok d=>∀v H',yn H H'->Is K (λa=>A a\/H a=none) H' d v->Q v H'
 |_=>False
def qba (K:Fr0) (F:List D->List D->R (D×List D)):Sp:=λvs H Q _=>∃(bs ds:List D)(A:Addr->Prop)(a:Addr)(xs vs':List V),vs=.ref a::vs'/\H a=some (.lst xs)/\qd5 K H/\IsL K A H bs xs/\¬A a/\IsL K A H ds vs'/\match F bs ds with
 |.ok (d,bs')=>∀v H' xs',(∀b o,b≠a->H b=some o->H' b=some o)->(∀b,H' b=none->H b=none)->H' a=some (.lst xs')->True->IsL K (λb=>A b\/H b=none) H' bs' xs'->Is K (λb=>A b\/H b=none) H' d v->Q v H'
 |_=>False
def dfn (n p:Nat) (body:MS) (ds:List D):R D:=if ds.length=p then match body (uv n ds) with
 |.ok (.rt d _) => .ok d
 |.ok (.nx _) => .ok .non
 |_ => .bad else .bad
def u9 (n p:Nat) (body:MS) (bs ds:List D):R (D×List D):=if ds.length+1=p then match body (uv n (.lst bs::ds)) with
 |.ok (.rt d Z)=>match jr 0 Z with
  |some bs' => .ok (d,bs')
  |none => .bad
 |.ok (.nx Z)=>match jr 0 Z with
  |some bs' => .ok (.non,bs')
  |none => .bad
 |_ => .bad else .bad
theorem qaM {N:List Str} {vs:List V} {i:Nat} {v:V} (h:(jM N vs)[i]? = some (some v)):vs[i]? = some v:=by
 unfold jM at h
 by_cases hi:i<vs.length
 ·rw[List.getElem?_append_left (by simpa using hi),gM_]at h
  cases e:vs[i]? with
  |none=>rw[e]at h;cases h
  |some w=>rw[e]at h;cases h;rfl
 ·rw[List.getElem?_append_right (by simpa using hi),List.getElem?_replicate]at h
  split at h<;>cases h
theorem qbQ {N:List Str} {vs:List V} {i:Nat} {v:V} (h:vs[i]? = some v):(jM N vs)[i]? = some (some v):=by
 unfold jM
 have hi:i<vs.length:=(gI_.mp h).1
 rw[List.getElem?_append_left (by simpa using hi),gM_,h];rfl
theorem qee {n:Nat} {ds:List D} {i:Nat} {d:D} (h:(uv n ds)[i]? = some (some d)):ds[i]? = some d:=by
 unfold uv at h
 by_cases hi:i<ds.length
 ·rw[List.getElem?_append_left (by simpa using hi),gM_]at h
  cases e:ds[i]? with
  |none=>rw[e]at h;cases h
  |some w=>rw[e]at h;cases h;rfl
 ·rw[List.getElem?_append_right (by simpa using hi),List.getElem?_replicate]at h
  split at h<;>cases h
theorem qce {K:Fr0} {N:List Str} {O:List Nat} {A:Addr->Prop} {H:Hp} {E:Exn->Hp->Prop} {ds:List D} {vs:List V} (il:IsL K A H ds vs) (tb:qd5 K H) (hO:∀i∈O,ds.length<=i) :
  Rep K (cfn O [] A H (λ_=>False) E λ_=>none) (uv N.length ds) (jM N vs) H where
 len:=by unfold uv jM;simp[il.length]
 val:=λi d h=>by
  have h1:=qee h
  obtain⟨v,h2,h3⟩:=il.get h1
  have hi:i ∉ O:=λz=>by
   have:=(gI_.mp h1).1
   have:=hO i z
   omega
  refine⟨v,qbQ h2,.inr ⟨hi,Is.ext Ext.refl (λa ha _=>⟨.inl ha,λj hj e=>?_⟩) h3⟩⟩
  have:=(gI_.mp (qaM e)).1
  have:=hO j hj
  rw[il.length]at *
  omega
 own:=λj hj v h=>by
  have:=(gI_.mp (qaM h)).1
  have:=hO j hj
  rw[il.length]at *
  omega
 inj:=λi j a hi hj h1 h2=>by
  have:=(gI_.mp (qaM h1)).1
  have:=hO i hi
  rw[il.length]at *
  omega
 b0:=⟨λa h => .inr h,tb⟩
 kp:=λb o h _=>h
 dm:=λb h=>h
 pO:=λj hj=>by cases hj
 ps:=λj hj=>by cases hj
section
variable{P:yar}{w:World}{K:yan}{mg:Str->Option Value}{base:Heap}
theorem zc {x qual:Str} {st:Stmt} {f:Addr} {fd:yaP} {N ps:List Str} {k:Nat} {O:List Nat} {body:MS} (F:Fun K x qual st f fd) (S:qv N ps (qe st)) (hO:∀i∈O,ps.length<=i)
  (hb:∀(cdv:Value)(A:yas)(outer:List yaU)(s:yab)(H:Hp)(E:XK)(B:Addr->Prop),vy k (A.deeper (ybi qual (qe st) s.heap.objs.size f cdv)) ->
   DSs (qiT CX0 P w K mg base N qual (qe st) f cdv A outer s H E).nox (cfn O [] B H (λ_=>False) (λ_ _=>False) λ_=>none) (qu st) body) :
  vV P w K mg base CX0 (k+1) f fd ps (spD K (dfn N.length ps.length body)):=by
 refine F.ok S (λvs H Q E h=>?_) (λcdv A outer s H vs Q E hr h=>?_)
 ·obtain⟨ds,B,il,_,h⟩:=h
  unfold dfn at h
  by_cases e:ds.length=ps.length
  ·rw[il.length];exact e
  ·rw[if_neg e]at h;exact h.elim
 ·obtain ⟨ds,B,il,tb,h⟩:=h
  obtain⟨t,p,wt⟩:=hb cdv A outer s H E B hr
  refine⟨t,p,?_⟩
  unfold dfn at h
  by_cases e:ds.length=ps.length
  ·rw [if_pos e]at h
   refine wt (uv N.length ds) (jM N vs) H _ (qce il tb (λi hi=>by rw[e];exact hO i hi)) ?_
   have same:∀{Z:Env}{σ:St}{H':Hp},Rep K (cfn O [] B H (λ_=>False) (λ_ _=>False) λ_=>none) Z σ H'->yn H H':=λr b o hb=>r.kp b o hb λz=>z
   cases eb:body (uv N.length ds) with
   |bad=>rw[eb]at h;exact h.elim
   |exc z Z=>rw[eb]at h;exact h.elim
   |ok fl=>
    rw[eb]at h
    cases fl with
    |nx Z=>exact λσ' H' r' _=>h .non H' (same r') rfl
    |rt d Z=>exact λv σ' H' r' i' _=>h v H' (same r') i'
    |bk Z=>exact h.elim
    |ct Z=>exact h.elim
  ·rw[if_neg e]at h;exact h.elim
theorem qgB {x qual:Str} {st:Stmt} {f:Addr} {fd:yaP} {N ps:List Str} {k:Nat} {O:List Nat} {body:MS} (F:Fun K x qual st f fd) (S:qv N ps (qe st)) (hO:∀i∈O,i=0\/ps.length<=i) (h0:0∈O)
  (hb:∀(cdv:Value)(A:yas)(outer:List yaU)(s:yab)(H:Hp)(E:XK)(B Io:Addr->Prop)(S:Nat->Option (Option V)),vy k (A.deeper (ybi qual (qe st) s.heap.objs.size f cdv)) ->
   DSs (qiT CX0 P w K mg base N qual (qe st) f cdv A outer s H E).nox (cfn O [0] B H Io (λ_ _=>False) S) (qu st) body) :
  vV P w K mg base CX0 (k+1) f fd ps (qba K (u9 N.length ps.length body)):=by
 refine F.ok S (λvs H Q E h=>?_) (λcdv A outer s H vs Q E hr h=>?_)
 ·obtain⟨bs,ds,B,a,xs,vs',rfl,ha,him,ib,nA,il,h⟩:=h
  unfold u9 at h
  by_cases e:ds.length+1=ps.length
  ·rw[lC_,il.length];exact e
  ·rw[if_neg e]at h;exact h.elim
 ·obtain ⟨bs,ds,B,a,xs,vs',rfl,ha,him,ib,nA,il,h⟩:=h
  obtain⟨t,p,wt⟩:=hb cdv A outer s H E B (λb=>b=a) (λj=>(jM N (.ref a::vs'))[j]?) hr
  refine⟨t,p,?_⟩
  unfold u9 at h
  by_cases e:ds.length+1=ps.length
  ·rw [if_pos e]at h
   have only:∀j∈O,∀v,(jM N (.ref a::vs'))[j]? = some (some v)->j=0/\v=.ref a:=λj hj v hv=>by
    have h1:=qaM hv
    rcases hO j hj with z|z
    ·subst z;cases h1;exact⟨rfl,rfl⟩
    ·have:=(gI_.mp h1).1
     rw[lC_,il.length]at this
     omega
   have r0:Rep K (cfn O [0] B H (λb=>b=a) (λ_ _=>False) λj=>(jM N (.ref a::vs'))[j]?) (uv N.length (.lst bs::ds)) (jM N (.ref a::vs')) H:=by
    refine⟨by unfold uv jM;simp[il.length],λi d hd=>?_,λj hj v hv=>?_,λi j b hi hj h1 h2=>?_,⟨λb hb => .inr hb,λq P pos eP=>⟨(him q P pos eP).1,λz=>by have:=(him q P pos eP).1;rw[z,ha]at this;cases this⟩⟩,λb o hb _=>hb,λb hb=>hb,λj hj=>?_,λ_ _=>rfl⟩
    ·have h1:=qee hd
     cases i with
     |zero=>
      cases h1
      exact⟨.ref a,qbQ rfl,.inl ⟨h0,bs,a,xs,rfl,rfl,ha,IsL.ext Ext.refl (λb hb _=>⟨.inl hb,λj hj e2=>by obtain⟨_,e3⟩:=only j hj _ e2;cases e3;exact nA hb⟩) ib⟩⟩
     | succ i=>
      have h1':ds[i]? = some d:=by simpa using h1
      obtain⟨v,h2,h3⟩:=il.get h1'
      have hi:i+1 ∉ O:=λz=>by
       have h4:=(gI_.mp h1').1
       rcases hO _ z with q|q
       ·cases q
       ·omega
      refine⟨v,qbQ (by simpa using h2),.inr ⟨hi,Is.ext Ext.refl (λb hb _=>⟨.inl hb,λj hj e2=>?_⟩) h3⟩⟩
      obtain⟨_,e3⟩:=only j hj _ e2
      cases e3
      exact nA hb
    ·obtain⟨rfl,rfl⟩:=only j hj v hv
     exact⟨a,xs,rfl,ha,.inr ⟨by simp[cfn],rfl⟩⟩
    ·rw[(only i hi _ h1).1,(only j hj _ h2).1]
    ·have:j=0:=by simpa [cfn] using hj
     rw[this];exact h0
   refine wt _ _ H _ r0 ?_
   have fin:∀{Z:Env}{σ:St}{H':Hp}{bs':List D},Rep K (cfn O [0] B H (λb=>b=a) (λ_ _=>False) λj=>(jM N (.ref a::vs'))[j]?) Z σ H'->jr 0 Z=some bs' ->
     ∃xs',H' a=some (.lst xs')/\True/\IsL K (λb=>B b\/H b=none) H' bs' xs':=λ{Z σ H' bs'} r e1=>by
    obtain⟨l,ys,h1,h2,h3,h4⟩:=r.getLO h0 e1
    have h5:=r.ps 0 (by simp[cfn])
    have h6:(cfn O [0] B H (λb=>b=a) (λ_ _=>False) λj=>(jM N (.ref a::vs'))[j]?).S 0=some (some (.ref a)):=qbQ rfl
    rw[h2,h6]at h5
    cases h5
    exact⟨ys,h3,h1,IsL.ext Ext.refl (λb hb _=>hb.1) h4⟩
   have kps:∀{Z:Env}{σ:St}{H':Hp},Rep K (cfn O [0] B H (λb=>b=a) (λ_ _=>False) λj=>(jM N (.ref a::vs'))[j]?) Z σ H'->∀b o,b≠a->H b=some o->H' b=some o:=λr b o hb ho=>r.kp b o ho hb
   cases eb:body (uv N.length (.lst bs::ds)) with
   |bad=>rw[eb]at h;exact h.elim
   |exc z Z=>rw[eb]at h;exact h.elim
   | ok fl=>
    rw[eb]at h
    cases fl with
    | nx Z=>
     cases eg:jr 0 Z with
     |none=>simp only[eg]at h
     | some bs'=>
      simp only[eg]at h
      exact λσ' H' r' _=>by
       obtain⟨xs',h1,h2,h3⟩:=fin r' eg
       exact h .non H' xs' (kps r') (λb hb=>r'.dm b hb) h1 h2 h3 rfl
    | rt d Z=>
     cases eg:jr 0 Z with
     |none=>simp only[eg]at h
     | some bs'=>
      simp only[eg]at h
      exact λv σ' H' r' i' _=>by
       obtain⟨xs',h1,h2,h3⟩:=fin r' eg
       exact h v H' xs' (kps r') (λb hb=>r'.dm b hb) h1 h2 h3 i'
    |bk Z=>exact h.elim
    |ct Z=>exact h.elim
  ·rw[if_neg e]at h;exact h.elim
end
section
variable{X:Cx}{c:Fc}{a b e:Expr}{pos:Pos}
def qj (F:List D->R D) (g:M (List D)):M D:=bnd g λds Z=>match F ds with
 |.ok d => .ok (d,Z)
 |_ => .bad
theorem qlD {k:Nat} {f:Addr} {fd:yaP} {ps:List Str} {F:List D->R D} {x:Str} {p:Pos} {es:List Expr} {g:M (List D)} (G:vV X.prog X.w X.K X.mg X.base CX0 k f fd ps (spD X.K F)) (hr:vy k X.A) (hg:Gl X x) (hm:X.mg x=some (.ref f)) (hk:yae X.K (.ref f)=true) (hb:wE X.K fd ps [])
  (ha:DA X c (e::es) g) (hd:(x==("__debug__":Str))=false:=by decide) (he:yah (e::es) X.env=(false,eval e X.env)::yah es X.env:=by rfl) (hpl:(yaR pos (yah es X.env)).any (·.1)=false:=by rfl):DE X c (.Call (.Name x p) (e::es) [] pos) (qj F g):=by
 obtain⟨t,pa,w⟩:=ha
 refine⟨_,qbZ G hr hg hm hk hb .nil qlo pa hd he hpl,λZ σ H Q r h=>w Z σ H _ r (WpL.bnd h λds Z1 vs H1 r1 i1 g1 h1=>?_)⟩
 rw[ybh]
 refine⟨ds,Cn c σ,i1,r1.tb,?_⟩
 cases ef:F ds with
 |bad=>simp only[ef]at h1;exact h1.elim
 |exc z Z'=>simp only[ef]at h1;exact h1.elim
 |ok d=>
  simp only[ef]at h1
  exact λv H' sm i=>h1 v H' (r1.same sm) (Is.ext Ext.refl (λa ha _=>ha.elim id r1.new) i) (.of_same sm)
def ql (F:List D->List D->R (D×List D)) (i:Nat) (g:M (List D)):M D:=λZ=>match jr i Z with
 |none => .bad
 | some _=>(bnd g λds Z=>match jr i Z with
  |none => .bad
  |some bs=>match F bs ds with
   |.ok (d,bs') => .ok (d,Z.set i (some (.lst bs')))
   |_ => .bad) Z
theorem qhM {k i:Nat} {f:Addr} {fd:yaP} {ps:List Str} {F:List D->List D->R (D×List D)} {x y:Str} {p p1:Pos} {es:List Expr} {g:M (List D)} (G:vV X.prog X.w X.K X.mg X.base CX0 k f fd ps (qba X.K F)) (hr:vy k X.A) (hg:Gl X x) (hm:X.mg x=some (.ref f)) (hk:yae X.K (.ref f)=true) (hb:wE X.K fd ps [])
  (ha:DA X c es g) (ho:i∈c.O:=by exact of_decide_eq_true rfl) (hN:X.N[i]? = some y:=by rfl) (hv:Vis X.env.scope y:=by first|exact ybr rfl|exact ya3 (ybr rfl)|exact ya3 (ya3 rfl)) (hdy:(y==("__debug__":Str))=false:=by decide) (hcd:(y==("__classdict__":Str))=false:=by decide)
  (hd:(x==("__debug__":Str))=false:=by decide) (he:yah (.Name y p1::es) X.env=(false,eval (.Name y p1) X.env)::yah es X.env:=by rfl) (hpl:(yaR pos (yah es X.env)).any (·.1)=false:=by rfl):DE X c (.Call (.Name x p) (.Name y p1::es) [] pos) (ql F i g):=by
 obtain⟨t,pa,w⟩:=ha
 refine⟨_,qbZ G hr hg hm hk hb .nil qlo (uu (qaF hN hv hdy hcd) pa he) hd he hpl,λZ σ H Q r h=>?_⟩
 unfold ql at h
 cases e0:jr i Z with
 |none=>simp only[e0]at h;exact h.elim
 | some ds0=>
  simp only[e0]at h
  obtain⟨l,xs0,_,hl,hH,_⟩:=r.getLO ho e0
  refine⟨.ref l,hl,w Z σ H _ r (WpL.bnd h λds Z1 vs H1 r1 i1 g1 h1=>?_)⟩
  show qba X.K F (.ref l::vs++[]) H1 Q E0
  rw[ybh]
  cases e1:jr i Z1 with
  |none=>simp only[e1]at h1;exact h1.elim
  | some bs=>
   simp only[e1]at h1
   obtain⟨l',xs,him,hl',hH',il⟩:=r1.getLO ho e1
   rw[hl]at hl'
   cases hl'
   refine⟨bs,ds,Cn c σ,l,xs,vs,rfl,hH',r1.tb,il,λhc=>hc.2 i ho hl,i1,?_⟩
   cases ef:F bs ds with
   |bad=>simp only[ef]at h1;exact h1.elim
   |exc z Z'=>simp only[ef]at h1;exact h1.elim
   |ok q=>
    obtain⟨d,bs'⟩:=q
    simp only[ef]at h1
    intro v H' xs' kp dm ha2 him2 il2 i2
    obtain⟨r2,g2⟩:=r1.io (bs:=bs') ho hl kp ha2 him2 (IsL.ext Ext.refl (λa ha _=>ha.elim id r1.new) il2) dm
    exact h1 v H' r2 (Is.ext Ext.refl (λa ha _=>ha.elim id r1.new) i2) g2
end
def qjr:Key->PyData
 |.inl i => .int i
 |.inr x => .str x
mutual
def qX:D->PyData
 |.non => .none
 |.bl b => .bool b
 |.int i => .int i
 |.str x => .str x
 |.tup ds => .tuple (toPDs ds)
 |.lst ds => .list (toPDs ds)
 |.dic kvs => .dict (kvs.map λp=>(qjr p.1,.int p.2))
 |.fz ns => .list (ns.map .int)
 |.exc _ => .dict [(.int (2 ^ 2000),.none)]
def toPDs:List D->List PyData
 | []=>[]
 |d::ds=>qX d::toPDs ds
end
mutual
def noL:D->Bool
 |.tup ds=>noLs ds
 |.lst _=>false
 |.fz _=>false
 |_=>true
def noLs:List D->Bool
 | []=>true
 |d::ds=>noL d&&noLs ds
end
mutual
def noX:D->Bool
 |.tup ds=>noXs ds
 |.lst ds=>noXs ds
 |.exc _=>false
 |_=>true
def noXs:List D->Bool
 | []=>true
 |d::ds=>noX d&&noXs ds
end
mutual
theorem qcT:∀{d:D},(qX d).showable=true->noX d=true
 |.non,_=>rfl
 |.bl _,_=>rfl
 |.int _,_=>rfl
 |.str _,_=>rfl
 |.tup ds,h=>by unfold noX;exact noXs_sh (by simpa [qX,ya6] using h)
 |.lst ds,h=>by unfold noX;exact noXs_sh (by simpa [qX,ya6] using h)
 |.dic _,_=>rfl
 |.fz _,_=>rfl
 |.exc _,h=>by
  have e:(PyData.dict [(.int (2 ^ 2000),.none)]).showable=false:=by decide +kernel
  rw[show qX (.exc _)=PyData.dict [(.int (2 ^ 2000),.none)]from rfl,e]at h
  cases h
theorem noXs_sh:∀{ds:List D},yaI (toPDs ds)=true->noXs ds=true
 | [],_=>rfl
 |d::ds,h=>by
  have h':(qX d).showable=true/\yaI (toPDs ds)=true:=by simpa [toPDs,yaI] using h
  unfold noXs
  rw[qcT h'.1,noXs_sh h'.2];rfl
end
mutual
theorem qhN:∀{d:D},(qX d).canLay0=true->noX d=true
 |.non,_=>rfl
 |.bl _,_=>rfl
 |.int _,_=>rfl
 |.str _,_=>rfl
 |.tup ds,h=>by unfold noX;exact noXs_lay (by simpa [qX,ybt] using h)
 |.lst ds,h=>by unfold noX;exact noXs_lay (by simpa [qX,ybt] using h)
 |.dic _,_=>rfl
 |.fz _,_=>rfl
 |.exc _,h=>by simp[qX,ybt]at h
theorem noXs_lay:∀{ds:List D},ybd (toPDs ds)=true->noXs ds=true
 | [],_=>rfl
 |d::ds,h=>by
  have h':(qX d).canLay0=true/\ybd (toPDs ds)=true:=by simpa [toPDs,ybd] using h
  unfold noXs
  rw[qhN h'.1,noXs_lay h'.2];rfl
end
theorem qaN {h:Heap}:∀{ns:List Int}{us:List Value},zM (ns.map V.int) us->∃as,yfS h us (ns.map .int) as
 | [],us,r=>by
  rw[yca]at r;cases r;exact⟨[],.nil⟩
 | n::ns,us,r=>by
  rw[mC_]at r
  cases r with
  |cons r1 r2=>
   obtain⟨t,e⟩:=r1
   subst e
   obtain⟨as,q⟩:=qaN (ns:=ns) r2
   exact⟨[]++as,.cons (.int n t) q⟩
theorem qe2{α:Type}{x:α}{l l':List α}(h1:x ∉ l)(h2:x ∉ l'):x ∉ l++l':=λh=>(mA_.mp h).elim h1 h2
theorem qcf {P:yar} {w:World} {h:Heap}:∀{kvs:List (Key×Int)}{es:List DictEntry}{vs:List (Key×Value)},KV (kvs.map λp=>(p.1,V.int p.2)) vs->Pairs (qbW P w) es vs ->
  yfS h (es.map (·.key)) ((kvs.map λp=>(qjr p.1,PyData.int p.2)).map (·.1)) []/\yfS h (es.map (·.val)) ((kvs.map λp=>(qjr p.1,PyData.int p.2)).map (·.2)) []
 | [],es,vs,r,p=>by
  have r':KV ([]:List (Key×V)) vs:=r
  unfold KV at r'
  cases r'
  cases p
  exact⟨.nil,.nil⟩
 | (k,i)::kvs,es,vs,r,p=>by
  have r':KV ((k,V.int i)::kvs.map λp=>(p.1,V.int p.2)) vs:=r
  unfold KV at r'
  cases r' with
  | cons r1 r2=>
   cases p with
   | cons p1 p2 p3=>
    obtain⟨q1,q2⟩:=qcf (h:=h) (kvs:=kvs) r2 p3
    obtain⟨e1,t,e2⟩:=r1
    have hk:∀{e:DictEntry}{kv:Key×Value},k=kv.1->(qbW P w).is kv.1 e.key=true->Reads h e.key (qjr k) []:=λ{e kv} hk hi=>by
     subst hk
     rcases z8 hi with⟨i,t,e1,e2⟩|⟨x,t,e1,e2⟩
     ·rw[e1,e2];exact .int i t
     ·rw[e1,e2];exact .str x t
    refine⟨.cons (as:=[]) (bs:=[]) (hk e1 p1) q1,.cons (as:=[]) (bs:=[]) ?_ q2⟩
    show Reads h _ (.int i) []
    dsimp only
    rw[p2,e2]
    exact .int i t
section
variable{X:Cx}{pins:List (Addr×Obj)}{σ:St}{H:Hp}{s:yab}{A:Addr->Prop}
mutual
theorem ju (I:Inv X pins σ H s):∀{d:D}{v:V}{u:Value},noX d=true->Is X.K A H d v->yg v u->∃as,Reads s.heap u (qX d) as/\(noL d=true->ycc ∉ as)
 |.non,_,_,_,h,r=>by cases h;cases r;exact⟨[],.none,by simp⟩
 |.bl b,_,_,_,h,r=>by cases h;cases r;exact⟨[],.bool b,by simp⟩
 |.int i,_,_,_,h,r=>by cases h;obtain⟨t,rfl⟩:=r;exact⟨[],.int i t,by simp⟩
 |.str x,_,_,_,h,r=>by cases h;obtain⟨t,rfl⟩:=r;exact⟨[],.str x t,by simp⟩
 |.tup ds,_,_,nx,⟨a,xs,hv,ta,il⟩,r=>by
  subst hv
  cases r
  obtain⟨its,rv,p,_⟩:=I.tuple ta.sq
  obtain⟨o,h1,h2,n,h3⟩:=p
  obtain⟨as,q,nl⟩:=readsL_of I (by simpa [noX] using nx) il rv
  exact⟨as,.tuple h1 h2 h3 (by simpa using q),λz=>nl (by simpa [noL] using z)⟩
 |.lst ds,_,_,nx,⟨a,xs,hv,_,ta,il⟩,r=>by
  subst hv
  cases r
  obtain⟨its,rv,p,_⟩:=I.list (SqL.of ta)
  obtain⟨o,h1,h2,n,h3⟩:=p.isList
  obtain⟨as,q,nl⟩:=readsL_of I (by simpa [noX] using nx) il rv
  exact⟨a::as,.list h1 h2 h3 (by simpa using q),λz=>by simp[noL]at z⟩
 |.dic kvs,_,_,_,⟨a,hv,_,ta⟩,r=>by
  subst hv
  cases r
  obtain⟨hz,hS,vs,rk,o,es,ep,h1,h2,h3,h4,h5,h6⟩:=(show uB X.prog X.w H s.heap a (.dK _)from I.hok a _ ta)
  obtain⟨q1,q2⟩:=qcf (h:=s.heap) rk h5
  refine⟨_,Reads.dict (as:=[]) (bs:=[]) h1 h2.1 h3 q1 q2,λ_ hm=>?_⟩
  have:ycc=a:=by simpa using hm
  rw[<-this]at hS
  simp at hS
 |.exc _,_,_,nx,_,_=>by simp[noX]at nx
 |.fz ns,_,_,_,⟨a,hv,ta⟩,r=>by
  subst hv
  cases r
  obtain⟨its,rv,p,_⟩:=I.list ta.sq
  obtain⟨o,h1,h2,n,h3⟩:=p.isList
  obtain⟨as,q⟩:=qaN rv
  exact⟨a::as,.list h1 h2 h3 (by simpa using q),λz=>by simp[noL]at z⟩
theorem readsL_of (I:Inv X pins σ H s):∀{ds:List D}{xs:List V}{us:List Value},noXs ds=true->IsL X.K A H ds xs->zM xs us->∃as,yfS s.heap us (toPDs ds) as/\(noLs ds=true->ycc ∉ as)
 | [],_,_,_,h,r=>by cases h;cases r;exact⟨[],.nil,by simp⟩
 | d :: ds,_,_,nx,⟨x,ys,hx,h1,h2⟩,r=>by
  subst hx
  cases r with
  | cons r1 r2=>
   have nx':noX d=true/\noXs ds=true:=by simpa [noXs] using nx
   obtain⟨as,q1,n1⟩:=ju I nx'.1 h1 r1
   obtain⟨bs,q2,n2⟩:=readsL_of I nx'.2 h2 r2
   exact ⟨as++bs,.cons q1 q2,λz=>by
    have z':noL d=true/\noLs ds=true:=by simpa [noLs] using z
    exact qe2 (n1 z'.1) (n2 z'.2)⟩
end
end
def qfN(d:D):Bool:=(qX d).showable&&decide ((qX d).shown.length<=yaq)&&decide ((qX d).depth<=50)&&(!(qX d).hasDict||noL d)
def qpf(K:Fr0):List V->Hp->VK->Prop:=λxs H Q=>∃v d A,xs=[v]/\Is K A H d v/\qfN d=true/\Q (.str (qX d).shown) H
section
variable{X:Cx}
theorem qgC {k:Nat} (hr:vy k X.A):uC X (.builtin "repr") (qpf X.K):=by
 intro pins s σ H xs us Q I r h
 obtain⟨v,d,A,rfl,hi,ok,q⟩:=h
 obtain⟨u,rfl,ru⟩:=zM.one r
 unfold qfN at ok
 simp only[yal,decide_eq_true_eq]at ok
 obtain⟨⟨⟨o1,o2⟩,o3⟩,o4⟩:=ok
 obtain⟨as,rd,nl⟩:=ju I (qcT o1) hi ru
 have hun:=hr.un
 have big:∀a,u=.ref a->wpAny (model X.prog X.w) X.A (call (.builtin "repr") [u]) (EP X pins σ Q) X.xe s:=λa e=>by
  subst e
  refine repr_of_reads' rd o1 (λhd=>nl ?_) hr.gd (by omega) (λ_ _ e=>e) (λh' u tk hk=>⟨.str _,H,I.kept hk,⟨_,rfl⟩,q⟩) o2
  rw[hd]at o4
  simpa using o4
 cases d with
 |non=>cases hi;cases ru;exact PySem.P.repr_of_none ⟨.str _,H,I.tok _,⟨_,rfl⟩,q⟩
 |bl b=>cases hi;cases ru;exact PySem.P.repr_of_bool ⟨.str _,H,I.tok _,⟨s.toks,by cases b<;>rfl⟩,q⟩
 |int i=>
  cases hi;obtain⟨t,rfl⟩:=ru
  exact PySem.P.repr_of_int (of_decide_eq_true o1) ⟨.str _,H,I.tok _,⟨_,rfl⟩,q⟩
 |str x=>cases hi;obtain⟨t,rfl⟩:=ru;exact PySem.P.repr_of_str ⟨.str _,H,I.tok _,⟨_,rfl⟩,q⟩ o2
 |tup ds=>obtain⟨a,zs,rfl,_⟩:=hi;exact big a ru
 |lst ds=>obtain⟨a,zs,rfl,_⟩:=hi;exact big a ru
 |dic kvs=>obtain⟨a,rfl,_⟩:=hi;exact big a ru
 |fz ns=>obtain⟨a,rfl,_⟩:=hi;exact big a ru
 |exc C=>obtain⟨a,rfl,_⟩:=hi;exact big a ru
end
def qqT:List D->OD
 | [d]=>if qfN d then some (.str (qX d).shown)else none
 |_=>none
def qal(d:D):Bool:=(qX d).canLay0&&decide ((qX d).depth<=50)
def qkr(K:Fr0)(neg:Bool):R2:=λx y H Q=>∃d e A,Is K A H d x/\Is K A H e y/\qal d=true/\qal e=true/\Q (.bl (if neg then !ya1 (qX d) (qX e)else ya1 (qX d) (qX e))) H
section
variable{X:Cx}
theorem qdm {d:D} (h:qal d=true):SeqAt.shaped (qX d)=true:=by
 unfold qal at h
 unfold SeqAt.shaped
 simp only[yal,decide_eq_true_eq]at h |-
 exact⟨h.1,by omega⟩
theorem qam {d:D} (h:qal d=true):noX d=true:=by
 unfold qal at h
 rw[yal]at h
 exact qhN h.1
theorem qnI {k:Nat} (hr:vy k X.A):OpR X (yaL .Eq) (qkr X.K false):=by
 intro pins s σ H x y v u Q I rx ry h
 obtain⟨d,e,A,h1,h2,o1,o2,q⟩:=h
 obtain⟨as,r1,_⟩:=ju I (qam o1) h1 rx
 obtain⟨bs,r2,_⟩:=ju I (qam o2) h2 ry
 exact SeqAt.compareEq_shaped r1 r2 (qdm o1) (qdm o2) hr.units ⟨.bl _,H,I,rfl,by simpa using q⟩
theorem qks {k:Nat} (hr:vy k X.A):OpR X (yaL .NotEq) (qkr X.K true):=by
 intro pins s σ H x y v u Q I rx ry h
 obtain⟨d,e,A,h1,h2,o1,o2,q⟩:=h
 obtain⟨as,r1,_⟩:=ju I (qam o1) h1 rx
 obtain⟨bs,r2,_⟩:=ju I (qam o2) h2 ry
 exact SeqAt.compareNe_shaped r1 r2 (qdm o1) (qdm o2) hr.units ⟨.bl _,H,I,rfl,by simpa using q⟩
end
def eqA(x y:D):OD:=if qal x&&qal y then some (.bl (ya1 (qX x) (qX y)))else none
def neA(x y:D):OD:=if qal x&&qal y then some (.bl (!ya1 (qX x) (qX y)))else none
theorem qlE {K:Fr0}:OpS K eqA (qkr K false):=by
 intro A H x y d v u Q hn ix iy e k
 obtain⟨e1,e2⟩:=jt e
 rw[yal]at e1
 subst e2
 exact⟨x,y,A,ix,iy,e1.1,e1.2,k _ H (yn.refl H) rfl⟩
theorem qlF {K:Fr0}:OpS K neA (qkr K true):=by
 intro A H x y d v u Q hn ix iy e k
 obtain⟨e1,e2⟩:=jt e
 rw[yal]at e1
 subst e2
 exact⟨x,y,A,ix,iy,e1.1,e1.2,k _ H (yn.refl H) rfl⟩
section
variable{X:Cx}{c:Fc}{a b e:Expr}{pos:Pos}
def qkt (i:Nat) (g:M D):M D:=λZ=>match jr i Z with
 |none => .bad
 |some _=>(bnd g λy Z=>match jr i Z with
  |none => .bad
  |some ds=>lift (neA (.lst ds) y) Z) Z
theorem qnJ {i k:Nat} {x:Str} {p1:Pos} {g:M D} (hr:vy k X.A) (hb:DE X c b g) (ho:i∈c.O:=by exact of_decide_eq_true rfl) (hN:X.N[i]? = some x:=by rfl) (hv:Vis X.env.scope x:=by first|exact ybr rfl|exact ya3 (ybr rfl)|exact ya3 (ya3 rfl)) (hd:(x==("__debug__":Str))=false:=by decide) (hcd:(x==("__classdict__":Str))=false:=by decide) :
  DT X c (.Compare (.Name x p1) [.NotEq] [b] pos) (tst (qkt i g)):=by
 obtain⟨tb,pb,wb⟩:=hb
 refine⟨_,qhl (qks hr) (qaF hN hv hd hcd) pb (qI _),λZ σ H Q r h=>?_⟩
 unfold tst qkt bnd at h
 cases e0:jr i Z with
 |none=>simp only[e0]at h;exact h.elim
 | some ds0=>
  simp only[e0]at h
  obtain⟨l,xs0,_,hl,hH,_⟩:=r.getLO ho e0
  refine⟨.ref l,hl,wb Z σ H _ r ?_⟩
  cases eg:g Z with
  |bad=>simp only[eg]at h;exact h
  |exc z Z'=>simp only[eg]at h;exact h
  | ok q=>
   obtain⟨y,Z1⟩:=q
   simp only[eg]at h
   intro u H1 r1 i1 g1
   cases e1:jr i Z1 with
   |none=>simp only[e1]at h;exact h.elim
   | some ds=>
    simp only[e1]at h
    cases en:neA (.lst ds) y with
    |none=>simp only[en,lift]at h;exact h.elim
    |some d=>
     simp only[en,lift,ret]at h
     obtain⟨e3,e4⟩:=jt en
     rw[yal]at e3
     subst e4
     obtain⟨l',xs,him,hl',hH',il⟩:=r1.getLO ho e1
     rw[hl]at hl'
     cases hl'
     refine⟨.lst ds,y,λ_=>True,⟨l,xs,rfl,trivial,hH',IsL.ext Ext.refl (λ_ h _=>trivial) il⟩,Is.ext Ext.refl (λ_ _ _=>trivial) i1,e3.1,e3.2,_,rfl,?_⟩
     exact h H1 r1 g1
end
section
variable{prog:yar}{w:World}{A:yas}{E:Value->yab->Prop}{s:yab}
theorem qlG {it tu:Addr} {k:Nat} {arr:Array Value} {x:Value} {Q:Value->yab->Prop} (hI:s.heap.IsTupleIter it tu k) (hT:s.heap.IsTuple tu arr) (hx:arr[k]? = some x)
  (q:∀h',h'.IsTupleIter it tu (k+1)->ybX it s.heap h'->Q x {s with heap:=h' }):wpAny (model prog w) A (yaE (.ref it)) Q E s:=by
 obtain⟨ob,e1,e2,e3⟩:=id hI
 obtain⟨ot,f1,_,m,f2⟩:=hT
 unfold yaE
 refine yaa (wpAny_callSpecial?_slot (name:=ybJ "__next__") hI.typeIs ybR (ybG ybR hI.typeIs ydx ?_ (ydn _)))
 show wpAny (model prog w) _ (field (yaj it) 0 >>= _) _ _ s
 refine yaa (yaC e1 e3 (x:=yaj tu) rfl ?_)
 show wpAny (model prog w) _ (if(yaj tu==yaA)=true then _ else _) _ _ s
 rw[if_neg (show ¬((yaj tu==yaA)=true)from yap)]
 show wpAny (model prog w) _ (field (yaj it) 1 >>= _) _ _ s
 refine yaa (yaC e1 e3 (x:=ybB k 0) rfl ?_)
 show wpAny (model prog w) _ (seqItems? (yaj tu) >>= _) _ _ s
 refine yaa (ybo f1 f2 ?_)
 simp only[yaO,hx]
 refine yaa (ycG e1 e3 (by simp) (yag ⟨x,rfl,yag (q _ ?_ (ycq ..))⟩))
 exact⟨_,Heap.get?_update_self _ e1 (yc3 (ybK e3 _)),(yfC ..).trans e2,by rw[ybK e3];simp[ybI]⟩
theorem qlH {it tu:Addr} {k:Nat} {arr:Array Value} {Q:Value->yab->Prop} (hh:A.handled=none) (hI:s.heap.IsTupleIter it tu k) (hT:s.heap.IsTuple tu arr) (hx:arr[k]? = none)
  (q:∀h' e,Heap.ExtBut it s.heap h'->(∃o,h'.get? e=some o/\o.cls=.type "StopIteration")->E (.ref e) {s with heap:=h' }):wpAny (model prog w) A (yaE (.ref it)) Q E s:=by
 obtain⟨ob,e1,e2,e3⟩:=id hI
 obtain⟨ot,f1,_,m,f2⟩:=hT
 unfold yaE
 refine yaa (wpAny_callSpecial?_slot (name:=ybJ "__next__") hI.typeIs ybR (ybG ybR hI.typeIs ydx ?_ (ydn _)))
 show wpAny (model prog w) _ (field (yaj it) 0 >>= _) _ _ s
 refine yaa (yaC e1 e3 (x:=yaj tu) rfl ?_)
 show wpAny (model prog w) _ (if(yaj tu==yaA)=true then _ else _) _ _ s
 rw[if_neg (show ¬((yaj tu==yaA)=true)from yap)]
 show wpAny (model prog w) _ (field (yaj it) 1 >>= _) _ _ s
 refine yaa (yaC e1 e3 (x:=ybB k 0) rfl ?_)
 show wpAny (model prog w) _ (seqItems? (yaj tu) >>= _) _ _ s
 refine yaa (ybo f1 f2 ?_)
 simp only[yaO,hx]
 refine yaa (yc5 (yaa (ycG e1 e3 (by simp) ?_)))
 show wpAny (model prog w) _ (newExc (yb2 "StopIteration") [] >>= _) _ _ _
 refine yaa ?_
 simp only[newExc,newTuple]
 refine yaa (yaN ?_ (by size_fits))
 refine yaa (m:=firstArgMember _ _) (wpAny_of_eq (a:=yaA) (by first|rfl|(simp only[firstArgMember];rfl)) ?_)
 refine yaN ?_ (by size_fits)
 simp only[raiseNew]
 refine yaa (wpAny_handled ?_)
 first|rw[show A.in1.handled=none from hh]|rw[hh]
 exact yaa (yag (wpAny_throw (q _ _ (((ycq ..).extBut.push _).push _) ⟨_,Heap.get?_push_size _ rfl,rfl⟩)))
end
theorem w8 {prog:yar} {w:World} {A:yas} (hh:A.handled=none) (it tu:Addr) (hne:tu≠it) (arr:Array Value) :
  Draws prog w A it [it,tu] arr.size (λi x=>arr[i]? = some x) (λi h=>h.IsTupleIter it tu i/\h.IsTuple tu arr) where
 live:=λi h st=>by obtain⟨⟨o,e,_⟩,_⟩:=st;exact⟨o,e⟩
 frame:=λi h h' st k=>by
  obtain⟨h1,o,e,r⟩:=st
  exact⟨h1.at λo q=>k it (by simp) o q,o,k tu (by simp) o e,r⟩
 item:=λi s Q E hi st q=>qlG st.1 st.2 (Array.getElem?_eq_getElem hi) λh' h1 sb=>q _ h' s.toks (Array.getElem?_eq_getElem hi) ⟨h1,by
  obtain⟨o,e,r⟩:=st.2
  exact⟨o,sb.extBut _ _ hne e,r⟩⟩ sb
 done:=λs Q E st q=>qlH hh st.1 st.2 (Array.getElem?_eq_none (yac _)) q
structure ZAp (z TI TO i1 i2:Addr) (fp1 fp2:List Addr):Prop where
 zTI:z≠TI
 zTO:z≠TO
 zi1:z≠i1
 zi2:z≠i2
 IO:TI≠TO
 Ii1:TI≠i1
 Ii2:TI≠i2
 Oi1:TO≠i1
 Oi2:TO≠i2
 ii:i1≠i2
 z1:z ∉ fp1
 z2:z ∉ fp2
 O1:TO ∉ fp1
 O2:TO ∉ fp2
 i21:i2 ∉ fp1
 i12:i1 ∉ fp2
section
variable{prog:yar}{w:World}{A:yas}{E:Value->yab->Prop}{s:yab}{z TI TO i1 i2:Addr}{fp1 fp2:List Addr}{n1 n2 k:Nat}{P1 P2:Nat->Value->Prop}{S1 S2:Nat->Heap->Prop}
theorem jv{fp:List Addr}{a:Addr}{h h':Heap}(sb:ybX a h h')(ha:a ∉ fp):∀b∈fp,∀o,h.get? b=some o->h'.get? b=some o:=λb hb o e=>sb.extBut _ _ (λq=>ha (q▸hb)) e
theorem qnK (D1:Draws prog w A i1 fp1 n1 P1 S1) (D2:Draws prog w A i2 fp2 n2 P2 S2) (ap:ZAp z TI TO i1 i2 fp1 fp2) {p q:Value} (zz:IsZip s.heap z TI TO .none) (zI:ybm s.heap TI (.ref i1) (.ref i2)) (zO:ybm s.heap TO p q)
  (t1:S1 k s.heap) (t2:S2 k s.heap) (l1:k<n1) (l2:k<n2) {Q:Value->yab->Prop}
  (fin:∀x y h' tk,P1 k x->P2 k y->IsZip h' z TI TO (ybI s.heap.objs.size)->ybm h' TO x y->S1 (k+1) h'->S2 (k+1) h'->ybm h' s.heap.objs.size x y ->
   (∀c o,c≠z->c≠TO->c≠i1->c≠i2->s.heap.get? c=some o->h'.get? c=some o)->Q (.ref s.heap.objs.size) {s with heap:=h',toks:=tk}) :
  wpAny (model prog w) A (ycn.«zip.__next__» ⟨[.ref z],[]⟩) (λr s'=>∃v,r=.done (.ret v)/\Q v s') E s:=by
 show wpAny (model prog w) A (field (yaj z) 2 >>= _) _ _ _
 refine yaa (yaC zz rfl (x:=yaQ false) rfl ?_)
 show wpAny (model prog w) A (field (yaj z) 3 >>= _) _ _ _
 refine yaa (yaC zz rfl (x:=yaj TI) rfl (yaa (ybo zI rfl ?_)))
 show wpAny (model prog w) A (yaH (yaj z) >>= _) _ _ _
 refine yaa ?_
 unfold yaH
 refine yaa (yaC zz rfl (x:=yaA) rfl (yag ?_))
 simp only[if_true]
 refine yaa (yc5 (yaa (yaC zz rfl (x:=yaj TO) rfl (yaa (ybu zz (by simp) λh1 zz1 b1=>?_)))))
 replace zz1:IsZip h1 z TI TO .ellipsis:=zz1
 refine yaa ?_
 simp only[List.zipIdx_cons,List.zipIdx_nil,ycw,ydo]
 refine yaa (yaa (ydG ?_))
 show wpAny (model prog w) A (yaE (yaj i1) >>= _) _ _ _
 refine yaa (D1.item k _ _ _ l1 (D1.frame _ _ _ t1 (jv b1 ap.z1)) λx h2 tk2 px u1 b2=>yag ?_)
 have zO2:ybm h2 TO p q:=b2.extBut _ _ ap.Oi1 (b1.extBut _ _ ap.zTO.symm zO)
 refine yaa (ybo zO2 rfl (yaa (ydb zO2 λh3 zO3 b3=>?_)))
 replace zO3:ybm h3 TO x q:=zO3
 refine yaa (yen (yag (yaa (yaa (ydG ?_)))))
 show wpAny (model prog w) A (yaE (yaj i2) >>= _) _ _ _
 have t2':S2 k h3:=D2.frame _ _ _ (D2.frame _ _ _ (D2.frame _ _ _ t2 (jv b1 ap.z2)) (jv b2 ap.i12)) (jv b3 ap.O2)
 refine yaa (D2.item k _ _ _ l2 t2' λy h4 tk4 py u2 b4=>yag ?_)
 have zO4:ybm h4 TO x q:=b4.extBut _ _ ap.Oi2 zO3
 refine yaa (ybo zO4 rfl (yaa (ydb zO4 λh5 zO5 b5=>?_)))
 replace zO5:ybm h5 TO x y:=zO5
 refine yaa (yen (yag (yag (yaa (ybo zO5 rfl (yaa (yew ?_)))))))
 have sz:h5.objs.size=s.heap.objs.size:=by rw[b5.1,b4.1,b3.1,b2.1,b1.1]
 have zz5:IsZip h5 z TI TO .ellipsis:=b5.extBut _ _ ap.zTO (b4.extBut _ _ ap.zi2 (b3.extBut _ _ ap.zTO (b2.extBut _ _ ap.zi1 zz1)))
 have keep5:∀c o,c≠z->c≠TO->c≠i1->c≠i2->s.heap.get? c=some o->h5.get? c=some o:=λc o c1 c2 c3 c4 e=>b5.extBut _ _ c2 (b4.extBut _ _ c4 (b3.extBut _ _ c2 (b2.extBut _ _ c3 (b1.extBut _ _ c1 e))))
 have v1:S1 (k+1) h5:=D1.frame _ _ _ (D1.frame _ _ _ (D1.frame _ _ _ u1 (jv b3 ap.O1)) (jv b4 ap.i21)) (jv b5 ap.O1)
 have v2:S2 (k+1) h5:=D2.frame _ _ _ u2 (jv b5 ap.O2)
 have lz:z<h5.objs.size:=yam zz5
 show wpAny (model prog w) A (ycE (yaj z) (yaj h5.objs.size) >>= _) _ _ _
 refine yaa ?_
 unfold ycE
 have zz6:IsZip (h5.push {cls:=.type "tuple",data:=.seq #[x,y]}) z TI TO .ellipsis:=Heap.get?_push_of_some _ zz5
 refine yaa (ybu zz6 (by simp) λh7 zz7 b7=>?_)
 replace zz7:IsZip h7 z TI TO (ybI h5.objs.size):=zz7
 refine ybu zz7 (by simp) λh8 zz8 b8=>?_
 replace zz8:IsZip h8 z TI TO (ybI h5.objs.size):=zz8
 have up:∀c o,c≠z->h5.get? c=some o->h8.get? c=some o:=λc o c1 e=>b8.extBut _ _ c1 (b7.extBut _ _ c1 (Heap.get?_push_of_some _ e))
 have new8:ybm h8 h5.objs.size x y:=b8.extBut _ _ (ycy lz) (b7.extBut _ _ (ycy lz) (Heap.get?_push_size _ rfl))
 rw[sz]at zz8 new8
 refine yag ⟨_,rfl,?_⟩
 show Q (yaj h5.objs.size) _
 rw[sz]
 exact fin x y h8 tk4 px py zz8 (up _ _ ap.zTO.symm zO5) (D1.frame _ _ _ v1 λb hb o e=>up b o (λq=>ap.z1 (q▸hb)) e) (D2.frame _ _ _ v2 λb hb o e=>up b o (λq=>ap.z2 (q▸hb)) e) new8 λc o c1 c2 c3 c4 e=>up c o c1 (keep5 c o c1 c2 c3 c4 e)
theorem qjs (hh:A.handled=none) (D1:Draws prog w A i1 fp1 n1 P1 S1) (D2:Draws prog w A i2 fp2 n2 P2 S2) (ap:ZAp z TI TO i1 i2 fp1 fp2) {p q:Value} (zz:IsZip s.heap z TI TO .none) (zI:ybm s.heap TI (.ref i1) (.ref i2)) (zO:ybm s.heap TO p q)
  (t1:S1 k s.heap) (t2:S2 k s.heap) (hk:k=min n1 n2) {Q:Fin->yab->Prop}
  (fin:∀h' tk e,(∀c o,c≠z->c≠TO->c≠i1->c≠i2->s.heap.get? c=some o->h'.get? c=some o)->(∃o,h'.get? e=some o/\o.cls=.type "StopIteration")->E (.ref e) {s with heap:=h',toks:=tk}) :
  wpAny (model prog w) A (ycn.«zip.__next__» ⟨[.ref z],[]⟩) Q E s:=by
 show wpAny (model prog w) A (field (yaj z) 2 >>= _) _ _ _
 refine yaa (yaC zz rfl (x:=yaQ false) rfl ?_)
 show wpAny (model prog w) A (field (yaj z) 3 >>= _) _ _ _
 refine yaa (yaC zz rfl (x:=yaj TI) rfl (yaa (ybo zI rfl ?_)))
 show wpAny (model prog w) A (yaH (yaj z) >>= _) _ _ _
 refine yaa ?_
 unfold yaH
 refine yaa (yaC zz rfl (x:=yaA) rfl (yag ?_))
 simp only[if_true]
 refine yaa (yc5 (yaa (yaC zz rfl (x:=yaj TO) rfl (yaa (ybu zz (by simp) λh1 zz1 b1=>?_)))))
 replace zz1:IsZip h1 z TI TO .ellipsis:=zz1
 refine yaa ?_
 simp only[List.zipIdx_cons,List.zipIdx_nil,ycw,ydo]
 refine yaa (yaa (ydG ?_))
 show wpAny (model prog w) A (yaE (yaj i1) >>= _) _ _ _
 have t1':S1 k h1:=D1.frame _ _ _ t1 (jv b1 ap.z1)
 by_cases h12:n1<=n2
 ·have e1:k=n1:=by rw[hk];exact ydc h12
  rw[e1]at t1'
  refine yaa (D1.done _ _ _ t1' λh2 e b2 he=>?_)
  obtain⟨oe,f1,f2⟩:=he
  have zz2:IsZip h2 z TI TO .ellipsis:=b2 _ _ ap.zi1 zz1
  have ez:e≠z:=λx=>by subst x;rw[zz2]at f1;cases f1;simp at f2
  refine ybu zz2 (by simp) λh3 _ b3=>?_
  exact fin h3 s.toks e (λc o c1 _ c3 _ x=>b3.extBut _ _ c1 (b2 _ _ c3 (b1.extBut _ _ c1 x))) ⟨oe,b3.extBut _ _ ez f1,f2⟩
 ·have e1:k=n2:=by rw[hk];exact Nat.min_eq_right (by omega)
  refine yaa (D1.item k _ _ _ (by omega) t1' λx h2 tk2 px u1 b2=>yag ?_)
  have zO2:ybm h2 TO p q:=b2.extBut _ _ ap.Oi1 (b1.extBut _ _ ap.zTO.symm zO)
  refine yaa (ybo zO2 rfl (yaa (ydb zO2 λh3 zO3 b3=>?_)))
  refine yaa (yen (yag (yaa (yaa (ydG ?_)))))
  show wpAny (model prog w) A (yaE (yaj i2) >>= _) _ _ _
  have t2':S2 k h3:=D2.frame _ _ _ (D2.frame _ _ _ (D2.frame _ _ _ t2 (jv b1 ap.z2)) (jv b2 ap.i12)) (jv b3 ap.O2)
  rw[e1]at t2'
  refine yaa (D2.done _ _ _ t2' λh4 e b4 he=>?_)
  obtain⟨oe,f1,f2⟩:=he
  have zz4:IsZip h4 z TI TO .ellipsis:=b4 _ _ ap.zi2 (b3.extBut _ _ ap.zTO (b2.extBut _ _ ap.zi1 zz1))
  have ez:e≠z:=λx=>by subst x;rw[zz4]at f1;cases f1;simp at f2
  refine ybu zz4 (by simp) λh5 _ b5=>?_
  exact fin h5 tk2 e (λc o c1 c2 c3 c4 x=>b5.extBut _ _ c1 (b4 _ _ c4 (b3.extBut _ _ c2 (b2.extBut _ _ c3 (b1.extBut _ _ c1 x))))) ⟨oe,b5.extBut _ _ ez f1,f2⟩
end
section
variable{X:Cx}{pins:List (Addr×Obj)}{σ:St}{H:Hp}{s:yab}{h':Heap}
theorem qlI {ch:List Addr} {T:Addr} {o:HO} {t':Nat} (I:Inv X pins σ H s) (k:∀b u,b ∉ ch->s.heap.get? b=some u->h'.get? b=some u) (hf:∀b∈ch,qeN X pins H b) (hT:s.heap.objs.size<=T) (new:uB X.prog X.w (upd H T o) h' T o) :
  Inv X pins σ (upd H T o) {s with heap:=h',toks:=t' }:=by
 have hn:H T=none:=I.hok.fresh hT
 have nch:∀b u,H b=some u->b ∉ ch:=λb u e z=>by rw[(hf b z).1]at e;cases e
 refine I.step (g':=s.gens) (d':=s.drawn) (ch:=ch) (λb hb=>⟨(hf b hb).2.2.2.1,(hf b hb).2.1,(hf b hb).2.2.2.2.1,(hf b hb).2.2.2.2.2⟩) (λb u _ _ hc e _=>k b u hc e) (λb u _ _ hc e _=>⟨u.slots,k b u hc e⟩) (λb u hc e n=>?_)
  (λb u hc e=>⟨u,k b u hc e⟩) (λb xs e=>by rw[qM (zl e hn)];exact e) (λb u xs e=>by rw[qM (zl e hn)];exact e) (λb ps y e=>by rw[qM (zl e hn)];exact e) (λm hm=>?_) (λb u e=>?_) I.bare
 ·rw[qM (yax (yaw (yam e) hT))];exact n
 ·obtain⟨ob,es,ep,ho,r⟩:=hm
  exact⟨ob,es,ep,k _ ob (λz=>(hf _ z).2.1 rfl) ho,r⟩
 ·by_cases hb:b=T
  ·subst hb;rw[qK]at e;cases e;exact new
  ·rw[qM hb]at e
   refine(I.hok b u e).stay (λc v hc q=>k c v ?_ q) (λc q=>by rw[qM (zl q hn)];exact q) (λc xs q=>by rw[qM (zl q hn)];exact q) λc ob y q=>by rw[qM (zl q hn)];exact q
   rcases hc with z|z
   ·rw[z];exact nch b u e
   ·exact nch c _ z
theorem qlJ {ch:List Addr} {t':Nat} (I:Inv X pins σ H s) (k:∀b u,b ∉ ch->s.heap.get? b=some u->h'.get? b=some u) (hf:∀b∈ch,qeN X pins H b):Inv X pins σ H {s with heap:=h',toks:=t' }:=by
 have nch:∀b u,H b=some u->b ∉ ch:=λb u e z=>by rw[(hf b z).1]at e;cases e
 refine I.step (g':=s.gens) (d':=s.drawn) (ch:=ch) (λb hb=>⟨(hf b hb).2.2.2.1,(hf b hb).2.1,(hf b hb).2.2.2.2.1,(hf b hb).2.2.2.2.2⟩) (λb u _ _ hc e _=>k b u hc e) (λb u _ _ hc e _=>⟨u.slots,k b u hc e⟩) (λb u hc e n=>n)
  (λb u hc e=>⟨u,k b u hc e⟩) (λb xs e=>e) (λb u xs e=>e) (λ_ _ _ e=>e) (λm hm=>?_) (λb u e=>?_) I.bare
 ·obtain⟨ob,es,ep,ho,r⟩:=hm
  exact⟨ob,es,ep,k _ ob (λz=>(hf _ z).2.1 rfl) ho,r⟩
 ·refine(I.hok b u e).stay (λc v hc q=>k c v ?_ q) (λc q=>q) λc xs q=>q
  rcases hc with z|z
  ·rw[z];exact nch b u e
  ·exact nch c _ z
end
section
variable{X:Cx}{c:Fc}{a b e:Expr}{pos:Pos}{es:List Expr}{kk:Nat}{tp:Pos}
def qp6:List D->List D->List D
 |x::xs,y::ys => .tup [x,y]::qp6 xs ys
 |_,_=>[]
def qpg:List D->Option (List D)
 | [.tup xs,.tup ys]=>some (qp6 xs ys)
 |_=>none
def qp7(f:M (List D)):M (List D):=bnd f λds=>lift (qpg ds)
end
theorem qdn:fillsNumberSlot (.type "tuple") "mul"=pure false:=by
 first|kernel_rfl|(unfold fillsNumberSlot;kernel_rfl)|decide +kernel
theorem qgD:seqRepeat? (.type "tuple")=pure (some (.builtin "tuple.__mul__")):=by
 first|kernel_rfl|(unfold seqRepeat?;kernel_rfl)|decide +kernel
theorem qef (a:Int) (t:Tok) (l:Addr) (dd:Option Addr) (items:Array Value) (n:Nat) (sl:Array (Option Value)) :
  Meets (ycn.«int.__rmul__» ⟨[.int a t,.ref l],[]⟩) (λ_ R s=>s.heap.get? l=some {cls:=.type "tuple",dict:=dd,data:=.seq items n,slots:=sl}/\R (.ok (.ret .notImplemented)) s) :=
 .of_wp λprog w A R s h=>by
  obtain⟨hp,g,d,tk,os⟩:=s
  obtain⟨hl,h⟩:=h
  wp_walk using yb5 hl
  exact⟨_,rfl,h⟩
theorem qnL (l:Addr) (dd:Option Addr) (items:Array Value) (n:Nat) (sl:Array (Option Value)) (k:Int) (t:Tok) (h0:¬items.isEmpty=true) (h1:¬(k==1)=true) (h2:¬k<=0) (h3:¬(decide (k < -(2 ^ 63))||decide (k >= 2 ^ 63))=true)
  (h4:¬(items.size:Int)*k>(2 ^ 63-1)/8) (h5:¬Builtin.Tuple.tupleTooMany ((items.size:Int)*k)=true) (h6:((yat k.toNat items).foldl (·++·) #[]).size<=yaq) :
  Meets (ycn.«tuple.__mul__» ⟨[.ref l,.int k t],[]⟩) (λ_ R s=>s.heap.get? l=some {cls:=.type "tuple",dict:=dd,data:=.seq items n,slots:=sl} /\
   R (.ok (.ret (.ref s.heap.objs.size))) {s with heap:=s.heap.push {cls:=.type "tuple",data:=.seq ((yat k.toNat items).foldl (·++·) #[])} }) :=
 .of_wp λprog w A R s h=>by
  obtain⟨hp,g,d,tk,os⟩:=s
  obtain⟨hl,h⟩:=h
  have f1:=AutoSeq1.idx_int
  have f2:=ydV
  have h01:¬(items.isEmpty||k==1)=true:=by simp only[yda,not_or];exact⟨h0,h1⟩
  have h02:¬(decide (k<=0)||items.isEmpty)=true:=by simp only[yda,decide_eq_true_eq,not_or];exact⟨h2,h0⟩
  wp_walk using yb5 hl
  rw[if_neg h3]
  wp_walk using yb5 hl
  rw[if_neg h4]
  wp_walk using yb5 hl
  exact⟨_,rfl,h⟩
section
variable{X:Cx}
def qnM(K:Fr0):R2:=λx y H Q=>∃a xs k,x=.ref a/\y=.int k/\SqT K H a xs/\xs≠[]/\2<=k/\xs.length*k.toNat<=yaq/\∀p,H p=none->Q (.ref p) (upd H p (.tup (yat k.toNat xs).flatten))
theorem qlK:OpR X (ybp .Mult) (qnM X.K):=by
 intro pins s σ H x y v u Q I rx ry h
 obtain⟨a,xs,k,rfl,rfl,hx,hne,hk,hz,q⟩:=h
 cases rx
 obtain⟨t,rfl⟩:=ry
 obtain⟨its,r,p1,_⟩:=I.tuple hx
 obtain⟨⟨cls,dd,data,sl⟩,ho,hc,n,hd⟩:=id p1
 simp only at hc hd
 subst hc hd
 have hl:=r.length
 have hnew:yeJ (λx1 x2=>x1++x2) #[] (yat k.toNat its.toArray)=(yat k.toNat its).flatten.toArray:=by
  have:=qb3 its k.toNat []
  rw[ybz]at this
  exact this
 have hlen:(yat k.toNat its).flatten.length=k.toNat*its.length:=qeV its k.toNat
 have hsl:(yaq:Nat)=16777216:=ybH
 have e0:¬its.toArray.isEmpty=true:=by
  intro e
  have:its=[]:=by simpa using e
  rw[this]at hl
  exact hne (List.length_eq_zero_iff.mp hl)
 have pos1:1<=its.length:=by
  cases its with
  |nil=>simp at e0
  |cons z zs=>simp
 have kk:((k.toNat:Nat):Int)=k:=ybq (by omega)
 have mm:(its.toArray.size:Int)*k=((its.length*k.toNat:Nat):Int):=by rw[sT_,Int.natCast_mul,kk]
 have zz:its.length*k.toNat<=yaq:=by rw[<-hl];exact hz
 have kle:k.toNat<=its.length*k.toNat:=Nat.le_mul_of_pos_left _ pos1
 have T1:s.TypeIs (.ref a) "tuple":=⟨_,ho,rfl⟩
 refine ydN (T:="tuple") (U:="int") (by decide) T1 (λs'=>ydM s' k t) qdn F.fills_int_mul yc9 qgD F.slot_int_index.lookup
  (ybU yc9 (ydM s k t) F.entry_int_rmul (yfA _ _) (qef k t a dd its.toArray n sl)
   ⟨ho,rfl,T1,ybU F.slot_tuple_mul T1 F.entry_tuple_mul (F.args_tuple_mul_2 _ _) (qnL a dd its.toArray n sl k t e0 (by simp;omega) (by omega) (by simp;omega) (by rw[mm];omega) ?_ (by rw[hnew,sT_,hlen,yfh];exact zz)) ⟨ho,?_⟩⟩)
 ·rw[mm]
  show ¬decide (((its.length*k.toNat:Nat):Int)>(yaq:Int))=true
  rw[decide_eq_true_eq]
  omega
 ·rw[hnew]
  refine⟨.ref s.heap.objs.size,_,I.laid (t':=s.toks) (o:=.tup (yat k.toNat xs).flatten) (λb ob q=>Heap.get?_push_of_some _ q) (yac _) ?_,rfl,q _ (I.hok.fresh (yac _))⟩
  exact⟨by rw[qeV,yfh];exact hz,_,r.rep k.toNat,ydt _ _⟩
def qnN(K:Fr0):R2:=λx y H Q=>(rI qna (λi j => .int (i*j))) x y H Q\/(qnM K x y H Q\/qp1 x y H Q)
theorem zv:OpR X (ybp .Mult) (qnN X.K):=OpR.or qnc (OpR.or qlK qnt)
end
def zE:D->D->OD
 |.int i,.int j=>if qeY i j then some (.int (i*j))else none
 |.tup ds,.int k=>if(!ds.isEmpty&&decide (2<=k))&&zx (ds.length*k.toNat)then some (.tup (yat k.toNat ds).flatten)else none
 |.lst ds,.int k=>if(decide (-(2 ^ 62)<=k)&&decide (k<2 ^ 62))&&zx (ds.length*k.toNat)then some (.lst (yat k.toNat ds).flatten)else none
 |_,_=>none
theorem IsL.rep {K:Fr0} {A:Addr->Prop} {H:Hp} {ds:List D} {xs:List V} (h:IsL K A H ds xs):∀k:Nat,IsL K A H (yat k ds).flatten (yat k xs).flatten
 |0=>by simp[IsL]
 |k+1=>by
  rw[rS_,rS_,ybT,ybT]
  exact IsL.append h (IsL.rep h k)
theorem zb {K:Fr0}:OpS K zE (qnN K):=by
 intro A H x y d v u Q hn ix iy e k
 cases x<;>cases y<;>simp only[zE]at e<;>try (cases e;done)
 ·rename_i i j
  obtain⟨e1,e2⟩:=jt e
  subst e2
  cases ix;cases iy
  exact .inl ⟨i,j,rfl,rfl,qjf e1,k _ H (yn.refl H) rfl⟩
 ·rename_i ds j
  obtain⟨a,xs,rfl,ta,il⟩:=ix
  cases iy
  obtain⟨e1,e2⟩:=jt e
  subst e2
  rw[yal,yal]at e1
  obtain⟨⟨e3,e4⟩,e5⟩:=e1
  refine .inr (.inl ⟨a,xs,j,rfl,rfl,ta.sq,λz=>?_,of_decide_eq_true e4,by rw[il.length];exact of_decide_eq_true e5,λp hp=>k _ _ (qG hp _) ⟨p,_,rfl,.inl qK,IsL.ext (Ext.of_same (qG hp _)) (λ_ h _=>h) (IsL.rep il _)⟩⟩)
  have:=il.length
  rw[z]at this
  have:ds=[]:=List.length_eq_zero_iff.mp this.symm
  rw[this]at e3
  simp at e3
 ·rename_i ds j
  obtain⟨a,xs,rfl,_,ta,il⟩:=ix
  cases iy
  obtain⟨e1,e2⟩:=jt e
  subst e2
  rw[yal,yal]at e1
  obtain⟨⟨e3,e4⟩,e5⟩:=e1
  have e3':=of_decide_eq_true e3
  have e4':=of_decide_eq_true e4
  refine .inr (.inr ⟨a,j,xs,rfl,rfl,ta,by omega,by omega,by rw[il.length];exact of_decide_eq_true e5,λp hp=>k _ _ (qG hp _) ⟨p,_,rfl,hn p hp,qK,IsL.ext (Ext.of_same (qG hp _)) (λ_ h _=>h) (IsL.rep il _)⟩⟩)
def qbA:D->OD
 |.int i=>some (.int (-i))
 |_=>none
def d1(F:D->OD)(f:M D):M D:=bnd f λx=>lift (F x)
def qlL(i j:Int):Bool:=decide (0<=j)&&decide (j<=1000000)&&decide (i.natAbs<2 ^ 64)
def qoJ:D->D->OD:=qkj qlL λi j => .int (i ^ j.toNat)
theorem qlM {K:Fr0}:OpS K qoJ (rI qpX λi j => .int (i ^ j.toNat)):=qhA (λi j h=>by
 unfold qlL at h
 rw[yal,yal]at h
 exact⟨of_decide_eq_true h.1.1,of_decide_eq_true h.1.2,of_decide_eq_true h.2⟩) λ_ _ _ _=>rfl
section
variable{X:Cx}{c:Fc}{a b e:Expr}{pos:Pos}
theorem qbB {f:M D} (h:DE X c a f):DE X c (.UnaryOp .USub a pos) (d1 qbA f):=by
 obtain⟨t,p,w⟩:=h
 refine⟨_,qo3 qne p,λZ σ H Q r h=>w Z σ H _ r (Wp.bnd h λd Z1 v H1 r1 i1 g1 h1=>?_)⟩
 obtain⟨d',e,h2⟩:=h1.lift
 cases d<;>simp only[qbA]at e<;>try (cases e;done)
 rename_i i
 cases e
 cases i1
 exact⟨i,rfl,h2 _ H1 r1 rfl .refl⟩
def qlN(X:Cx)(key:Key)(n:Int):TE:=λ_ H Q=>∀p,H p=none->Q (.ref p) (upd H p (.dK [(key,.int n)]))
theorem qnO {pins:List (Addr×Obj)} {σ:St} {H:Hp} {s:yab} (I:Inv X pins σ H s):ycc<s.heap.objs.size:=by
 obtain⟨mb,h1,_⟩:=I.ok.mod.blt
 have hlt:yb3<X.base.objs.size:=h1.lt
 have hle:X.base.objs.size<=s.heap.objs.size:=yau I.ok.bsz I.sz
 have hd:ycc<yb3\/ycc<yad:=by decide
 have hg:yad<X.base.objs.size:=I.ok.mod.glob.lt
 rcases hd with z|z
 ·exact yaw (yfi z hlt) hle
 ·exact yaw (yfi z hg) hle
theorem qjt {key:Key} {n:Int} {ke:Expr} {j:Nat} {p1:Pos} (hk:∀(s:yab)(Q:Value->yab->Prop)(E:Value->yab->Prop),(∀u tk,qdT key u=true->Q u {s with toks:=tk})->wpAny (model X.prog X.w) X.A (eval ke X.env) Q E s) :
  PE X (.Dict [some ke] [.Constant (.int n) j p1] pos) (qlN X key n):=by
 intro pins s σ H Q I h
 have hf:H s.heap.objs.size=none:=I.hok.fresh (yac _)
 refine wpAny_Dict_walk (knd:=qbW X.prog X.w) rfl rfl (by simp) (by show 1<=15;decide) ?_
 refine evalPairs_cons (hk _ _ _ λu tk hu=>?_)
 refine yaa (ydr (yaa (ycP (yag (evalPairs_nil ?_)))))
 refine⟨[(key,.int n tk)],⟨hu,rfl,trivial⟩,Heap.DictOf.new _,λh' hd sb=>?_⟩
 have e:merged [] [(key,ybB n tk)]=[(key,ybB n tk)]:=by simp[merged,stored]
 rw[e]at hd
 refine⟨.ref s.heap.objs.size,upd H s.heap.objs.size (.dK [(key,.int n)]),I.laid (λb o q=>sb.extBut _ _ (yax (yam q)) (Heap.get?_push_of_some _ q)) (yac _) ?_,rfl,h _ hf⟩
 exact⟨by show 1<=yaq;decide,beq_eq_false_iff_ne.mpr (ybk (yax (qnO I))),[(key,.int n tk)],.cons ⟨rfl,tk,rfl⟩ .nil,hd⟩
theorem qfO {key:Key} {n:Int} {ke:Expr} {j:Nat} {p1:Pos} (hk:∀(s:yab)(Q:Value->yab->Prop)(E:Value->yab->Prop),(∀u tk,qdT key u=true->Q u {s with toks:=tk})->wpAny (model X.prog X.w) X.A (eval ke X.env) Q E s) :
  DE X c (.Dict [some ke] [.Constant (.int n) j p1] pos) (ret (.dic [(key,n)])):=by
 refine⟨_,qjt hk,λZ σ H Q r h p hp=>h _ _ (r.laid hp _) ⟨p,rfl,r.new hp,qK⟩ (.of_same (qG hp _))⟩
theorem qju {i n:Int} {j j2:Nat} {p1 p2:Pos}:DE X c (.Dict [some (.Constant (.int i) j2 p2)] [.Constant (.int n) j p1] pos) (ret (.dic [(.inl i,n)])) :=
 qfO λs Q E h=>ydr (h _ _ (qg8 _ _))
theorem qjv {x:Str} {n:Int} {j j2:Nat} {p1 p2:Pos}:DE X c (.Dict [some (.Constant (.str x) j2 p2)] [.Constant (.int n) j p1] pos) (ret (.dic [(.inr x,n)])) :=
 qfO λs Q E h=>ye5 (h _ _ (qg9 _ _))
def qiW (i j:Nat) (f:M (List D)):MS:=sbnd f λds Z=>match ds with
 | [d,e] => .ok (.nx ((Z.set i (some d)).set j (some e)))
 |_ => .bad
theorem qhO {i j:Nat} {x y:Str} {f:M (List D)} {px py pt:Pos} {kt k2 pt2} (hN:X.N.Nodup) (ha:DA X c [a,b] f) (hw:ycR [.Tuple [.Name x px,.Name y py] kt pt] (.Tuple [a,b] k2 pt2) X.env=pure (some [x,y])) (hc:X.calm=true:=by rfl) (hi:X.N[i]? = some x:=by rfl) (hj:X.N[j]? = some y:=by rfl) (hij:i≠j:=by decide)
  (hx:X.env.scope.names.lookup x=some .local:=by rfl) (hy:X.env.scope.names.lookup y=some .local:=by rfl) (ho:i ∉ c.O:=by exact of_decide_eq_false rfl) (hp:j ∉ c.O:=by exact of_decide_eq_false rfl)
  (hs:ycQ [.Tuple [.Name x px,.Name y py] kt pt] (.Tuple [a,b] k2 pt2) pos.line X.env=pure false:=by rfl) :
  DS X c (.Assign [.Tuple [.Name x px,.Name y py] kt pt] (.Tuple [a,b] k2 pt2) pos) (qiW i j f):=by
 obtain⟨t,p,w⟩:=ha
 refine⟨_,qm5 hc hN hi hj hij hx hy p hw hs,λZ σ H D r h=>w Z σ H _ r (WpL.sbnd h λds Z1 vs H1 r1 i1 g1 h1=>?_)⟩
 match ds,i1,h1 with
 | [],_,h1=>exact h1.elim
 | [_],_,h1=>exact h1.elim
 | [d,e],i1,h1=>
  obtain⟨v,u,rfl,j1,j2⟩:=IsL.inv2 i1
  refine⟨v,u,rfl,h1 _ H1 ((r1.set ho j1).set hp ?_) ((GrS.set ho).trans (GrS.set hp))⟩
  exact(GrS.set (H:=H1) ho).is j2
 |_::_::_::_,_,h1=>exact h1.elim
mutual
def immF:D->Bool
 |.tup ds=>immFs ds
 |.lst _=>false
 |.dic _=>false
 |_=>true
def immFs:List D->Bool
 | []=>true
 |d::ds=>immF d&&immFs ds
end
mutual
theorem Is.immF {K:Fr0} {A B:Addr->Prop} {H:Hp}:∀{d:D}{v:V},immF d=true->Is K A H d v->Is K B H d v
 |.non,_,_,h=>h
 |.bl _,_,_,h=>h
 |.int _,_,_,h=>h
 |.str _,_,_,h=>h
 |.tup ds,_,i,⟨a,xs,hv,h,r⟩=>⟨a,xs,hv,h,IsL.immF (by simpa [Sk.immF] using i) r⟩
 |.lst _,_,i,_=>by simp[Sk.immF]at i
 |.dic _,_,i,_=>by simp[Sk.immF]at i
 |.fz _,_,_,h=>h
 |.exc _,_,_,h=>h
theorem IsL.immF {K:Fr0} {A B:Addr->Prop} {H:Hp}:∀{ds:List D}{xs:List V},immFs ds=true->IsL K A H ds xs->IsL K B H ds xs
 | [],_,_,h=>h
 |d::ds,_,i,⟨x,ys,hx,h,r⟩=>by
  have i':Sk.immF d=true/\immFs ds=true:=by simpa [immFs] using i
  exact⟨x,ys,hx,Is.immF i'.1 h,IsL.immF i'.2 r⟩
end
def qeg (F:List D->R D) (g:M (List D)):M (List D):=bnd g λds Z=>if immFs ds then match F ds with
 |.ok (.lst bs)=>if immL bs then .ok (bs,Z)else .bad
 |_ => .bad else .bad
theorem qlO {k:Nat} {f:Addr} {fd:yaP} {ps:List Str} {F:List D->R D} {x:Str} {p:Pos} {es:List Expr} {g:M (List D)} (G:vV X.prog X.w X.K X.mg X.base CX0 k f fd ps (spD X.K F)) (hr:vy k X.A) (hg:Gl X x) (hm:X.mg x=some (.ref f)) (hk:yae X.K (.ref f)=true) (hb:wE X.K fd ps [])
  (ha:DA X c (e::es) g) (hd:(x==("__debug__":Str))=false:=by decide) (he:yah (e::es) X.env=(false,eval e X.env)::yah es X.env:=by rfl) (hpl:(yaR pos (yah es X.env)).any (·.1)=false:=by rfl):DN X c (.Call (.Name x p) (e::es) [] pos) (qeg F g):=by
 obtain⟨t,pa,w⟩:=ha
 refine⟨_,qbZ G hr hg hm hk hb .nil qlo pa hd he hpl,λZ σ H Q r h=>w Z σ H _ r (WpL.bndN h λds Z1 vs H1 r1 i1 g1 h1=>?_)⟩
 rw[ybh]
 by_cases him:immFs ds=true
 ·rw [if_pos him]at h1
  refine⟨ds,λ_=>False,IsL.immF him i1,r1.tb,?_⟩
  cases ef:F ds with
  |bad=>simp only[ef]at h1;exact h1.elim
  |exc z Z'=>simp only[ef]at h1;exact h1.elim
  | ok d=>
   cases d with
   | lst bs=>
    simp only[ef]at h1
    by_cases hb2:immL bs=true
    ·rw[if_pos hb2]at h1
     intro v H' sm i
     obtain⟨a,xs,rfl,hA,ha2,il⟩:=i
     have hn:H1 a=none:=hA.elim ya5 id
     exact h1 a xs H' hn (r1.same sm) (r1.apart_same hn sm) ha2 trivial (IsL.imm hb2 il) (.of_same sm)
    ·rw[if_neg hb2]at h1;exact h1.elim
   |_=>simp only[ef]at h1;exact h1.elim
 ·rw[if_neg him]at h1;exact h1.elim
end
structure qlP (outer:Scope) (N:List Str) (scope:Scope) (N':List Str) (nt:Nat) (fr:List Nat):Prop where
 kind:scope.kind=.function
 nocell:∀y∈scope.names,y.2 ≠ .cell
 names:∀y∈scope.names,y.2=.local->scope.names.lookup y.1=some .local
 frees:∀y∈scope.names,y.2=.free->outer.names.lookup y.1=some .cell
 len:N'.length=nt+fr.length
 slots:∀p∈fr.zipIdx,N'[nt+p.2]? = N[p.1]? /\ ((N[p.1]?).bind λx=>scope.names.lookup x)=some .free
theorem qlP.ok {X:Cx} {outer:Scope} {N:List Str} {scope:Scope} {N':List Str} {nt:Nat} {fr:List Nat} (S:qlP outer N scope N' nt fr) (h1:X.env.scope=outer) (h2:X.N=N):ui X scope N' nt fr:=by
 subst h1 h2
 refine⟨S.kind,S.nocell,S.names,S.frees,S.len,λi j h=>?_⟩
 have hm:(j,i)∈fr.zipIdx:=by
  rw[yex]
  refine⟨i,?_⟩
  rw[List.getElem?_zipIdx,h]
  simp
 obtain⟨h3,h4⟩:=S.slots (j,i) hm
 cases e:X.N[j]? with
 |none=>
  have h4':((X.N[j]?).bind λx=>scope.names.lookup x)=some .free:=h4
  rw[e]at h4';cases h4'
 | some x=>
  have h4':((X.N[j]?).bind λx=>scope.names.lookup x)=some .free:=h4
  rw[e]at h4'
  exact ⟨x,by
    have h3':N'[nt+i]? = X.N[j]? := h3
    rw[h3',e],rfl,h4'⟩
structure qB (P:yar) (w:World) (K:yan) (mg:Str->Option Value) (base:Heap) (k:Nat) (x:Str) (ps:List Str) (sp:Sp):Prop where
 ex:∃f fd,vV P w K mg base CX0 k f fd ps sp/\mg x=some (.ref f)/\yae K (.ref f)=true/\wE K fd ps []
theorem yq:yaz "len"=some (.builtin "len"):=by decide +kernel
theorem qnP:yaz "abs"=some (.builtin "abs"):=by decide +kernel
theorem qfP:yaz "max"=some (.builtin "max"):=by decide +kernel
theorem qfQ:yaz "min"=some (.builtin "min"):=by decide +kernel
theorem qnQ:yaz "all"=some (.builtin "all"):=by decide +kernel
theorem qhP:yaz "divmod"=some (.builtin "divmod"):=by decide +kernel
theorem qhQ:yaz "repr"=some (.builtin "repr"):=by decide +kernel
theorem qku:yaz "int"=some (.type "int"):=by decide +kernel
theorem qe3:yaz "bool"=some (.type "bool"):=by decide +kernel
theorem qnR:yaz "str"=some (.type "str"):=by decide +kernel
theorem y9:yaz "tuple"=some (.type "tuple"):=by decide +kernel
theorem qhR:yaz "list"=some (.type "list"):=by decide +kernel
theorem qx:yaz "isinstance"=some (.builtin "isinstance"):=by decide +kernel
def z9:MS:=λZ => .ok (.nx Z)
theorem qA{X:Cx}{c:Fc}:DSs X c [] z9:=qlq
theorem qq{X:Cx}:IxR X (λx y H Q=>qo9 X.K x y H Q\/qpa X.K x y H Q):=qhu.or qnn
theorem qlQ {c:Fc} {nt:Nat} {fr:List Nat} {i j:Nat} (h1:j∈c.O) (h2:nt<=i) (h3:fr[i-nt]? = some j) (h4:∀p∈fr.zipIdx,nt+p.2≠i->p.1 ∉ c.O):qlA c nt fr (some (i,j)) :=
 ⟨h1,h2,h3,λk j' h hk=>h4 (j',k) (by rw[yex];exact⟨k,by rw[List.getElem?_zipIdx,h];simp⟩) hk⟩
def eqB (x y:D):OD:=match sc2 x y with
 |some b=>some (.bl b)
 |none=>eqA x y
def neB (x y:D):OD:=match sc2 x y with
 |some b=>some (.bl (!b))
 |none=>neA x y
theorem uk{X:Cx}{k:Nat}(hr:vy k X.A):OpR X (yaL .Eq) (λx y H Q=>rEq x y H Q\/qkr X.K false x y H Q):=OpR.or qo4 (qnI hr)
theorem yE{X:Cx}{k:Nat}(hr:vy k X.A):OpR X (yaL .NotEq) (λx y H Q=>rNe x y H Q\/qkr X.K true x y H Q):=OpR.or qnf (qks hr)
theorem jQ {K:Fr0}:OpS K eqB (λx y H Q=>rEq x y H Q\/qkr K false x y H Q):=by
 intro A H x y d v u Q hn ix iy e k
 unfold eqB at e
 cases e1:sc2 x y with
 |some b=>simp only[e1]at e;exact .inl (qlr A H x y d v u Q hn ix iy (by unfold eqS;rw[e1];exact e) k)
 |none=>simp only[e1]at e;exact .inr (qlE A H x y d v u Q hn ix iy e k)
theorem jw {K:Fr0}:OpS K neB (λx y H Q=>rNe x y H Q\/qkr K true x y H Q):=by
 intro A H x y d v u Q hn ix iy e k
 unfold neB at e
 cases e1:sc2 x y with
 |some b=>simp only[e1]at e;exact .inl (qhC A H x y d v u Q hn ix iy (by unfold neS;rw[e1];exact e) k)
 |none=>simp only[e1]at e;exact .inr (qlF A H x y d v u Q hn ix iy e k)
end L2.Sk
namespace L2.Sk
section
variable{α β:Type}{Z:Env}{f g k:M D}{t u:M Bool}{l m:M (List D)}{p q r:MS}
theorem vE(a:α):ret a Z=.ok (a,Z):=rfl
theorem qhS(o:Option α):lift o Z=match o with|some a => .ok (a,Z)|none => .bad:=by cases o<;>rfl
theorem qph{f:M α}{k:α->M β}:bnd f k Z=match f Z with|.ok (a,Z')=>k a Z'|.exc x Z' => .exc x Z'|.bad => .bad:=rfl
theorem qnS(i:Nat):dv i Z=match Z[i]? with|some (some d) => .ok (d,Z)|_ => .bad:=rfl
theorem zg:qa f l Z=match f Z with|.ok (d,Z1)=>(match l Z1 with|.ok (ds,Z2) => .ok (d::ds,Z2)|.exc x Z' => .exc x Z'|.bad => .bad)|.exc x Z' => .exc x Z'|.bad => .bad:=by
 simp only[qa,bnd,sbnd]
 cases f Z with
 |ok z=>
  obtain⟨z1,Z1⟩:=z
  simp only[ret]
  cases l Z1 with
  |ok z=>obtain⟨z2,Z2⟩:=z;rfl
  |exc x Z'=>rfl
  |bad=>rfl
 |exc x Z'=>rfl
 |bad=>rfl
theorem wM:qF l Z=match l Z with|.ok (ds,Z1)=>(if zx ds.length then .ok (.tup ds,Z1)else .bad)|.exc x Z' => .exc x Z'|.bad => .bad:=by
 simp only[qF,bnd,sbnd]
 cases l Z with
 |ok z=>
  obtain⟨z1,Z1⟩:=z
  cases h:zx z1.length<;>simp[h,lift,ret]
 |exc x Z'=>rfl
 |bad=>rfl
theorem vc:jI l Z=match l Z with|.ok (ds,Z1)=>(if zx ds.length then .ok (.lst ds,Z1)else .bad)|.exc x Z' => .exc x Z'|.bad => .bad:=by
 simp only[jI,bnd,sbnd]
 cases l Z with
 |ok z=>
  obtain⟨z1,Z1⟩:=z
  cases h:zx z1.length<;>simp[h,lift,ret]
 |exc x Z'=>rfl
 |bad=>rfl
theorem qhT:qmL l Z=match l Z with|.ok (ds,Z1)=>(if immL ds&&zx ds.length then .ok (ds,Z1)else .bad)|.exc x Z' => .exc x Z'|.bad => .bad:=by
 simp only[qmL,bnd,sbnd]
 cases l Z with
 |ok z=>
  obtain⟨z1,Z1⟩:=z
  cases h:(immL z1&&zx z1.length)<;>simp[h,lift,ret]
 |exc x Z'=>rfl
 |bad=>rfl
theorem qnT (F:D->D->OD):d2 F f g Z=match f Z with|.ok (x,Z1)=>(match g Z1 with|.ok (y,Z2)=>(match F x y with|some d => .ok (d,Z2)|none => .bad)|.exc x Z' => .exc x Z'|.bad => .bad)|.exc x Z' => .exc x Z'|.bad => .bad:=by
 simp only[d2,bnd,sbnd]
 cases f Z with
 |ok z=>
  obtain⟨z1,Z1⟩:=z
  dsimp only <;>
  cases g Z1 with
  |ok z=>obtain⟨z2,Z2⟩:=z;(dsimp only;cases F z1 z2<;>rfl)
  |exc x Z'=>rfl
  |bad=>rfl
 |exc x Z'=>rfl
 |bad=>rfl
theorem qp8 (F:D->OD):d1 F f Z=match f Z with|.ok (x,Z1)=>(match F x with|some d => .ok (d,Z1)|none => .bad)|.exc x Z' => .exc x Z'|.bad => .bad:=by
 simp only[d1,bnd,sbnd]
 cases f Z with
 |ok z=>
  obtain⟨z1,Z1⟩:=z
  (dsimp only;cases F z1<;>rfl)
 |exc x Z'=>rfl
 |bad=>rfl
theorem qau (F:List D->OD):qw F l Z=match l Z with|.ok (xs,Z1)=>(match F xs with|some d => .ok (d,Z1)|none => .bad)|.exc x Z' => .exc x Z'|.bad => .bad:=by
 simp only[qw,bnd,sbnd]
 cases l Z with
 |ok z=>
  obtain⟨z1,Z1⟩:=z
  (dsimp only;cases F z1<;>rfl)
 |exc x Z'=>rfl
 |bad=>rfl
theorem w9 (F:List D->R D):qj F l Z=match l Z with|.ok (xs,Z1)=>(match F xs with|.ok d => .ok (d,Z1)|_ => .bad)|.exc x Z' => .exc x Z'|.bad => .bad:=by
 simp only[qj,bnd,sbnd]
 cases l Z with
 |ok z=>
  obtain⟨z1,Z1⟩:=z
  cases F z1<;>rfl
 |exc x Z'=>rfl
 |bad=>rfl
theorem qhU (T:String):qaC T f Z=match f Z with|.ok (d,Z1) => .ok (.bl (vB (tyD d) T),Z1)|.exc x Z' => .exc x Z'|.bad => .bad:=by
 simp only[qaC,bnd,sbnd]
 cases f Z with
 |ok z=>
  obtain⟨z1,Z1⟩:=z
  rfl
 |exc x Z'=>rfl
 |bad=>rfl
theorem qjw:tst f Z=match f Z with|.ok (d,Z1)=>(match asB d with|some b => .ok (b,Z1)|none => .bad)|.exc x Z' => .exc x Z'|.bad => .bad:=by
 simp only[tst,bnd,sbnd]
 cases f Z with
 |ok z=>
  obtain⟨z1,Z1⟩:=z
  (dsimp only;cases asB z1<;>rfl)
 |exc x Z'=>rfl
 |bad=>rfl
theorem qan(b:Bool):asB (.bl b)=some b:=rfl
theorem qhV:js t Z=match t Z with|.ok (b,Z1) => .ok (!b,Z1)|.exc x Z' => .exc x Z'|.bad => .bad:=by
 simp only[js,bnd,sbnd]
 cases t Z with
 |ok z=>
  obtain⟨z1,Z1⟩:=z
  rfl
 |exc x Z'=>rfl
 |bad=>rfl
theorem qeh:qeW t u Z=match t Z with|.ok (b,Z1)=>(bif b then u Z1 else .ok (false,Z1))|.exc x Z' => .exc x Z'|.bad => .bad:=by
 simp only[qeW,bnd,sbnd]
 cases t Z with
 |ok z=>
  obtain⟨z1,Z1⟩:=z
  cases z1<;>rfl
 |exc x Z'=>rfl
 |bad=>rfl
theorem qbL:tor t u Z=match t Z with|.ok (b,Z1)=>(bif b then .ok (true,Z1)else u Z1)|.exc x Z' => .exc x Z'|.bad => .bad:=by
 simp only[tor,bnd,sbnd]
 cases t Z with
 |ok z=>
  obtain⟨z1,Z1⟩:=z
  cases z1<;>rfl
 |exc x Z'=>rfl
 |bad=>rfl
theorem qfR:qd6 f g Z=match f Z with|.ok (d,Z1)=>(match asB d with|some b=>(bif b then g Z1 else .ok (.bl false,Z1))|none => .bad)|.exc x Z' => .exc x Z'|.bad => .bad:=by
 simp only[qd6,bnd,sbnd]
 cases f Z with
 |ok z=>
  obtain⟨z1,Z1⟩:=z
  simp only[qhS]
  cases asB z1 with
  |none=>rfl
  |some b=>cases b<;>rfl
 |exc x Z'=>rfl
 |bad=>rfl
theorem qjx:dor f g Z=match f Z with|.ok (d,Z1)=>(match asB d with|some b=>(bif b then .ok (.bl true,Z1)else g Z1)|none => .bad)|.exc x Z' => .exc x Z'|.bad => .bad:=by
 simp only[dor,bnd,sbnd]
 cases f Z with
 |ok z=>
  obtain⟨z1,Z1⟩:=z
  simp only[qhS]
  cases asB z1 with
  |none=>rfl
  |some b=>cases b<;>rfl
 |exc x Z'=>rfl
 |bad=>rfl
theorem qkv:qnw f Z=match f Z with|.ok (d,Z1)=>(match asB d with|some b => .ok (.bl (!b),Z1)|none => .bad)|.exc x Z' => .exc x Z'|.bad => .bad:=by
 simp only[qnw,bnd,sbnd]
 cases f Z with
 |ok z=>
  obtain⟨z1,Z1⟩:=z
  simp only[qhS]
  cases asB z1 with
  |none=>rfl
  |some b=>cases b<;>rfl
 |exc x Z'=>rfl
 |bad=>rfl
theorem qhW:dif t f g Z=match t Z with|.ok (b,Z1)=>(bif b then f Z1 else g Z1)|.exc x Z' => .exc x Z'|.bad => .bad:=by
 simp only[dif,bnd,sbnd]
 cases t Z with
 |ok z=>
  obtain⟨z1,Z1⟩:=z
  cases z1<;>rfl
 |exc x Z'=>rfl
 |bad=>rfl
theorem qgE:sif t p q Z=match t Z with|.ok (b,Z1)=>(bif b then p Z1 else q Z1)|.exc x Z' => .exc x Z'|.bad => .bad:=by
 simp only[sif,bnd,sbnd]
 cases t Z with
 |ok z=>
  obtain⟨z1,Z1⟩:=z
  cases z1<;>rfl
 |exc x Z'=>rfl
 |bad=>rfl
theorem qkw:qE p q Z=match p Z with|.ok (.nx Z')=>q Z'|z=>z:=by
 unfold qE
 cases p Z with
 |ok z=>cases z<;>rfl
 |exc x Z'=>rfl
 |bad=>rfl
theorem qaO:zu f Z=match f Z with|.ok (d,Z1) => .ok (.rt d Z1)|.exc x Z' => .exc x Z'|.bad => .bad:=by
 simp only[zu,bnd,sbnd]
 cases f Z with
 |ok z=>
  obtain⟨z1,Z1⟩:=z
  rfl
 |exc x Z'=>rfl
 |bad=>rfl
theorem vF (i:Nat):qN i f Z=match f Z with|.ok (d,Z1) => .ok (.nx (Z1.set i (some d)))|.exc x Z' => .exc x Z'|.bad => .bad:=by
 simp only[qN,bnd,sbnd]
 cases f Z with
 |ok z=>
  obtain⟨z1,Z1⟩:=z
  rfl
 |exc x Z'=>rfl
 |bad=>rfl
theorem qe4 (i:Nat):qcd i l Z=match l Z with|.ok (ds,Z1) => .ok (.nx (Z1.set i (some (.lst ds))))|.exc x Z' => .exc x Z'|.bad => .bad:=by
 simp only[qcd,bnd,sbnd]
 cases l Z with
 |ok z=>
  obtain⟨z1,Z1⟩:=z
  rfl
 |exc x Z'=>rfl
 |bad=>rfl
theorem qbb:vW f Z=match f Z with|.ok (_,Z1) => .ok (.nx Z1)|.exc x Z' => .exc x Z'|.bad => .bad:=by
 simp only[vW,bnd,sbnd]
 cases f Z with
 |ok z=>
  obtain⟨z1,Z1⟩:=z
  rfl
 |exc x Z'=>rfl
 |bad=>rfl
theorem qhX:z9 Z=.ok (.nx Z):=rfl
theorem qhY (i j:Nat):qiW i j l Z=match l Z with|.ok ([d,e],Z1) => .ok (.nx ((Z1.set i (some d)).set j (some e)))|.ok _ => .bad|.exc x Z' => .exc x Z'|.bad => .bad:=by
 simp only[qiW,bnd,sbnd]
 cases l Z with
 |ok z=>
  obtain⟨z1,Z1⟩:=z
  match z1 with
  | []=>rfl
  | [_]=>rfl
  | [_,_]=>rfl
  |_::_::_::_=>rfl
 |exc x Z'=>rfl
 |bad=>rfl
theorem qhZ (G:D->Env->Option Env):qiV f G Z=match f Z with|.ok (d,Z1)=>(match G d Z1 with|some Z2 => .ok (.nx Z2)|none => .bad)|.exc x Z' => .exc x Z'|.bad => .bad:=by
 simp only[qiV,bnd,sbnd]
 cases f Z with
 |ok z=>
  obtain⟨z1,Z1⟩:=z
  dsimp only <;>
  cases G z1 Z1<;>rfl
 |exc x Z'=>rfl
 |bad=>rfl
theorem vG (G:D->Env->Option Env) (b:MS):qak l G b Z=match l Z with|.ok (ds,Z1)=>yD G b ds Z1|.exc x Z' => .exc x Z'|.bad => .bad:=by
 simp only[qak,bnd,sbnd]
 cases l Z with
 |ok z=>
  obtain⟨z1,Z1⟩:=z
  rfl
 |exc x Z'=>rfl
 |bad=>rfl
theorem qfS:wD f Z=match f Z with|.ok (d,Z1)=>(match qoI d with|some ds => .ok (ds,Z1)|none => .bad)|.exc x Z' => .exc x Z'|.bad => .bad:=by
 simp only[wD,bnd,sbnd]
 cases f Z with
 |ok z=>
  obtain⟨z1,Z1⟩:=z
  (dsimp only;cases qoI z1<;>rfl)
 |exc x Z'=>rfl
 |bad=>rfl
theorem qh0:jO l Z=match l Z with|.ok (d,Z1)=>(match qko d with|some ds => .ok (ds,Z1)|none => .bad)|.exc x Z' => .exc x Z'|.bad => .bad:=by
 simp only[jO,bnd,sbnd]
 cases l Z with
 |ok z=>
  obtain⟨z1,Z1⟩:=z
  (dsimp only;cases qko z1<;>rfl)
 |exc x Z'=>rfl
 |bad=>rfl
theorem qkx:qp7 l Z=match l Z with|.ok (d,Z1)=>(match qpg d with|some ds => .ok (ds,Z1)|none => .bad)|.exc x Z' => .exc x Z'|.bad => .bad:=by
 simp only[qp7,bnd,sbnd]
 cases l Z with
 |ok z=>
  obtain⟨z1,Z1⟩:=z
  (dsimp only;cases qpg z1<;>rfl)
 |exc x Z'=>rfl
 |bad=>rfl
theorem qdo {nt:Nat} {fr:List Nat} {fo:Option (Nat×Nat)} {G:D->Env->Option Env} {e:M D}:jJ nt fr fo l G t e Z=match l Z with
  |.ok (ds,Z1)=>(match jh G t e ds [] (uA nt fr Z1) with|.ok (ys,Ze) => .ok (.lst ys,qlz fo Ze Z1)|_ => .bad)|.exc x Z' => .exc x Z'|.bad => .bad:=by
 simp only[jJ,bnd,sbnd]
 cases l Z with
 |ok z=>
  obtain⟨z1,Z1⟩:=z
  dsimp only <;>
  cases jh G t e z1 [] (uA nt fr Z1) with
  |ok z=>obtain⟨z2,Z2⟩:=z;rfl
  |exc x Z'=>rfl
  |bad=>rfl
 |exc x Z'=>rfl
 |bad=>rfl
theorem wN (F:List D->List D->R (D×List D)) (i:Nat):ql F i l Z=match jr i Z with
  |none => .bad
  | some _=>(match l Z with
   |.ok (ds,Z1)=>(match jr i Z1 with
    |none => .bad
    |some bs=>(match F bs ds with|.ok (d,bs') => .ok (d,Z1.set i (some (.lst bs')))|_ => .bad))
   |.exc x Z' => .exc x Z'|.bad => .bad):=by
 simp only[ql,bnd]
 cases jr i Z with
 |none=>rfl
 | some _=>
  dsimp only <;>
  cases l Z with
  | ok z=>
   obtain⟨z1,Z1⟩:=z
   dsimp only <;>
   cases jr i Z1 with
   |none=>rfl
   |some bs=>
    dsimp only <;>
    cases F bs z1 with
    |ok z=>obtain⟨z2,z3⟩:=z;rfl
    |exc x Z'=>rfl
    |bad=>rfl
  |exc x Z'=>rfl
  |bad=>rfl
theorem qh1 (F:List D->R D):qeg F l Z=match l Z with
  |.ok (ds,Z1)=>(if immFs ds then(match F ds with|.ok (.lst bs)=>(if immL bs then .ok (bs,Z1)else .bad)|_ => .bad)else .bad)|.exc x Z' => .exc x Z'|.bad => .bad:=by
 simp only[qeg,bnd,sbnd]
 cases l Z with
 | ok z=>
  obtain⟨z1,Z1⟩:=z
  dsimp only <;>
  cases immFs z1 with
  |false=>rfl
  |true=>
   simp only[if_true]
   cases F z1 with
   |ok z=>cases z<;>rfl
   |exc x Z'=>rfl
   |bad=>rfl
 |exc x Z'=>rfl
 |bad=>rfl
theorem qky (i:Nat):qjq i f Z=match jr i Z with
  |none => .bad
  | some _=>(match f Z with
   |.ok (k,Z1)=>(match k,jr i Z1 with
    |.int n,some ds=>(match atI ds n with|some d => .ok (d,Z1)|none => .bad)
    |_,_ => .bad)
   |.exc x Z' => .exc x Z'|.bad => .bad):=by
 simp only[qjq,bnd]
 cases jr i Z with
 |none=>rfl
 | some _=>
  dsimp only <;>
  cases f Z with
  |ok z=>
   obtain⟨z1,Z1⟩:=z
   dsimp only <;>
   cases z1<;>cases jr i Z1<;>try rfl
  |exc x Z'=>rfl
  |bad=>rfl
theorem qh2 (i:Nat):qjo i k f Z=match f Z with
  | .ok (d,Z1)=>(match jr i Z1 with
   |none => .bad
   | some _=>(match k Z1 with
    | .ok (j,Z2)=>(match j,jr i Z2 with
     |.int n,some ds=>(match ixN ds.length n with
      |some q=>if imm d then .ok (.nx (Z2.set i (some (.lst (ds.set q d)))))else .bad
      |none => .bad)
     |_,_ => .bad)
    |.exc x Z' => .exc x Z'|.bad => .bad))
  |.exc x Z' => .exc x Z'|.bad => .bad:=by
 simp only[qjo,bnd,sbnd]
 cases f Z with
 | ok z=>
  obtain⟨z1,Z1⟩:=z
  dsimp only <;>
  cases jr i Z1 with
  |none=>rfl
  | some _=>
   dsimp only <;>
   cases k Z1 with
   |ok z=>
    obtain⟨z2,Z2⟩:=z
    dsimp only <;>
    cases z2<;>cases jr i Z2<;>try rfl
   |exc x Z'=>rfl
   |bad=>rfl
 |exc x Z'=>rfl
 |bad=>rfl
theorem qh3 (i:Nat):qed i Z=match jr i Z with|some ds => .ok (.int ds.length,Z)|none => .bad:=by
 unfold qed
 cases jr i Z<;>rfl
theorem qe5 (i:Nat):qgA i Z=match jr i Z with|some ds => .ok (.tup ds,Z)|none => .bad:=by
 unfold qgA
 cases jr i Z<;>rfl
theorem qkz (i:Nat):qkt i f Z=match jr i Z with
  |none => .bad
  | some _=>(match f Z with
   |.ok (y,Z1)=>(match jr i Z1 with
    |none => .bad
    |some ds=>(match neA (.lst ds) y with|some d => .ok (d,Z1)|none => .bad))
   |.exc x Z' => .exc x Z'|.bad => .bad):=by
 simp only[qkt,bnd]
 cases jr i Z with
 |none=>rfl
 | some _=>
  dsimp only <;>
  cases f Z with
  |ok z=>
   obtain⟨z1,Z1⟩:=z
   dsimp only <;>
   cases jr i Z1 with
   |none=>rfl
   |some ds=>(dsimp only;cases neA (.lst ds) z1<;>rfl)
  |exc x Z'=>rfl
  |bad=>rfl
theorem qcg (i:Nat):uY i f Z=match jr i Z with
  |none => .bad
  | some _=>(match f Z with
   |.ok (d,Z1)=>(match jr i Z1 with
    |some ds=>if imm d&&zx (ds.length+1)then .ok (.non,Z1.set i (some (.lst (ds++[d]))))else .bad
    |none => .bad)
   |.exc x Z' => .exc x Z'|.bad => .bad):=by
 simp only[uY,bnd]
 cases jr i Z with
 |none=>rfl
 | some _=>
  dsimp only <;>
  cases f Z with
  |ok z=>
   obtain⟨z1,Z1⟩:=z
   dsimp only <;>
   cases jr i Z1<;>rfl
  |exc x Z'=>rfl
  |bad=>rfl
theorem qnU {g k:M (Option Int)}:dsl f g k Z=match f Z with
  | .ok (d,Z1)=>(match g Z1 with
   |.ok (lo,Z2)=>(match k Z2 with
    |.ok (hi,Z3)=>(match slD d lo hi with|some x => .ok (x,Z3)|none => .bad)
    |.exc x Z' => .exc x Z'|.bad => .bad)
   |.exc x Z' => .exc x Z'|.bad => .bad)
  |.exc x Z' => .exc x Z'|.bad => .bad:=by
 simp only[dsl,bnd,sbnd]
 cases f Z with
 | ok z=>
  obtain⟨z1,Z1⟩:=z
  dsimp only <;>
  cases g Z1 with
  |ok z=>
   obtain⟨z2,Z2⟩:=z
   dsimp only <;>
   cases k Z2 with
   |ok z=>obtain⟨z3,Z3⟩:=z;(dsimp only;cases slD z1 z2 z3<;>rfl)
   |exc x Z'=>rfl
   |bad=>rfl
  |exc x Z'=>rfl
  |bad=>rfl
 |exc x Z'=>rfl
 |bad=>rfl
theorem qe6:jN f Z=match f Z with|.ok (.int i,Z1) => .ok (some i,Z1)|.ok _ => .bad|.exc x Z' => .exc x Z'|.bad => .bad:=by
 simp only[jN,bnd,sbnd]
 cases f Z with
 |ok z=>
  obtain⟨z1,Z1⟩:=z
  cases z1<;>rfl
 |exc x Z'=>rfl
 |bad=>rfl
end
theorem zA {n:Nat} (h:n<=1000000):zx n=true:=by
 unfold zx
 exact decide_eq_true (yau h (by rw[yfD];decide))
theorem qlR {n p:Nat} {body:MS} {ds:List D} {d:D} {Z:Env} (h:ds.length=p) (e:body (uv n ds)=.ok (.rt d Z)):dfn n p body ds=.ok d:=by
 unfold dfn;rw[if_pos h,e]
theorem qaP {n p:Nat} {body:MS} {bs ds bs':List D} {d:D} {Z:Env} (h:ds.length+1=p) (e:body (uv n (.lst bs::ds))=.ok (.rt d Z)) (g:jr 0 Z=some bs'):u9 n p body bs ds=.ok (d,bs'):=by
 unfold u9;rw[if_pos h,e];simp only[g]
end L2.Sk
namespace L2.Sk
open PySem PySem.Spec PyProof.Rows
section
variable{prog:yar}{w:World}{A:yas}{E:Value->yab->Prop}{s:yab}
theorem qh4 {l:Addr} {xs:Array Value} {Q:Value->yab->Prop} (t1:s.heap.IsTuple l xs)
  (fin:∀h',IsEnum h' (s.heap.objs.size+1) s.heap.objs.size 0 .none->h'.IsTupleIter s.heap.objs.size l 0->(∀c o,s.heap.get? c=some o->h'.get? c=some o)->Q (.ref (s.heap.objs.size+1)) {s with heap:=h' }) :
  wpAny (model prog w) A (call (.type "enumerate") [.ref l]) Q E s:=by
 have meets:Meets (ycn.«enumerate.__new__» ⟨[.type "enumerate",.ref l],[]⟩) (λ_ R s=>s.heap.IsTuple l xs /\
   R (.ok (.ret (.ref (s.heap.objs.size+1)))) {s with heap:=(s.heap.push {cls:=.type "tuple_iterator",data:=.fields #[.ref l,.int 0 0]}).push {cls:=.type "enumerate",data:=.fields #[.none,.bool false,.ref s.heap.objs.size,ybI 0,.none,.none]} }) :=
  .of_wp λprog w A R s h=>by
   obtain⟨hp,g,d,tk,os⟩:=s
   obtain⟨ha,h⟩:=h
   have hsub:=sub_enumerate
   have hA:Heap.IsTuple (Shared.heap ⟨hp,g,d,tk,os⟩) l xs:=ha
   obtain⟨o,ho,_⟩:=id ha
   have ho':hp.get? l=some o:=ho
   wp_walk using ybZ ho'
   refine wpAny_stack_any λst=>yag ?_
   split
   ·rename_i c _ _ _ _ _
    cases (c==yb2 "enumerate")
    ·wp_walk using ybZ ho',ycD hA
     simp only[ydp]at *
     exact⟨_,rfl,h⟩
    ·wp_walk using ybZ ho',ycD hA
     simp only[ydp]at *
     exact⟨_,rfl,h⟩
   ·wp_walk using ybZ ho',ycD hA
    simp only[ydp]at *
    exact⟨_,rfl,h⟩
 refine callType_new F.called_enumerate (by decide) (F.typeCall_enumerate_1 _) (F.newCall_enumerate_1 _) (λobj=>F.args_object_init_2 obj _) F.entry_enumerate_new meets ⟨t1,?_⟩
 generalize e1:s.heap.push {cls:=.type "tuple_iterator",data:=.fields #[.ref l,.int 0 0]}=m1
 have s1:m1.objs.size=s.heap.objs.size+1:=by rw[<-e1,ydp]
 have q1:m1.get? s.heap.objs.size=some {cls:=.type "tuple_iterator",data:=.fields #[.ref l,.int 0 0]}:=by rw[<-e1];exact Heap.get?_push_size _ rfl
 have k1:∀c o,s.heap.get? c=some o->m1.get? c=some o:=λc o x=>by rw[<-e1];exact Heap.get?_push_of_some _ x
 generalize e2:m1.push {cls:=.type "enumerate",data:=.fields #[.none,.bool false,.ref s.heap.objs.size,ybI 0,.none,.none]}=m2
 have q2:m2.get? (s.heap.objs.size+1)=some {cls:=.type "enumerate",data:=.fields #[.none,.bool false,.ref s.heap.objs.size,ybI 0,.none,.none]}:=by rw[<-e2,<-s1];exact Heap.get?_push_size _ rfl
 have k2:∀c o,m1.get? c=some o->m2.get? c=some o:=λc o x=>by rw[<-e2];exact Heap.get?_push_of_some _ x
 show _/\_
 exact⟨⟨_,q2,rfl⟩,fin m2 q2 ⟨_,k2 _ _ q1,rfl,rfl⟩ λc o x=>k2 _ _ (k1 _ _ x)⟩
end
def Ite (K:Fr0) (a:Addr) (xs:List V):It :=
 ⟨λi H=>i<xs.length/\SqT K H a xs,λi H x H'=>∃p u,H p=none/\xs[i]? = some u/\x=.ref p/\H'=upd H p (.tup [.int i,u]),λi H=>i=xs.length/\SqT K H a xs⟩
def ESt(z i1 a1:Addr)(i:Nat)(h:Heap):Prop:=(∃old,IsEnum h z i1 i old)/\h.IsTupleIter i1 a1 i
theorem qh5 {P:yar} {w:World} {K:Fr0} {es:List Expr} {kk:Nat} {pos:Pos} {z i1 a1:Addr} {xs:List V} (zi:z≠i1) (za:z≠a1) (n1:a1≠i1) :
  qm7 P w K (.Tuple es kk pos) (Ite K a1 xs) [z,i1] z (ESt z i1 a1) where
 mem:=by simp
 obj:=λi h st b hb=>by
  obtain⟨⟨old,h1⟩,⟨o4,h4,c4,d4⟩⟩:=st
  simp only[yav,nN_,or_false]at hb
  rcases hb with rfl|rfl
  ·exact⟨_,h1,λv e=>by cases (show yfL _=Data.cell v from e)⟩
  ·exact⟨_,h4,λv e=>by rw[d4]at e;cases e⟩
 keep:=λi h h' st k=>by
  obtain⟨⟨old,h1⟩,h4⟩:=st
  exact⟨⟨old,k z (by simp) _ h1⟩,h4.at λo e=>k i1 (by simp) o e⟩
 item:=by
  intro X hP hw hK hc i pins s σ H E I hf st hg
  subst hP hw hK
  obtain⟨hlt,hx⟩:=hg
  obtain⟨⟨old,h1⟩,h4⟩:=st
  obtain⟨it1,r1,p1,z1⟩:=I.tuple hx
  have l1:i<it1.toArray.size:=by rw[sT_,<-r1.length];omega
  have hh:X.A.in1.handled=none:=I.ok.hd hc
  refine wpAny_pyNext_enum_itemD (w8 hh i1 a1 n1 it1.toArray) h1 ⟨h4,p1⟩ l1 zi (by simp[zi,za]) λx h' tk px ho u1 new hsz kp=>?_
  refine⟨.ref s.heap.objs.size,rfl,wpAny_letOwnedTupleGo_enum ho λh2' zz2 sb=>?_⟩
  obtain⟨xv,hxv⟩:∃v,xs[i]? = some v:=⟨xs[i]'(by omega),gG (by omega)⟩
  obtain⟨x',ex,rx⟩:=r1.get hxv
  have exx:x'=x:=by
   have:it1.toArray[i]? = some x:=px
   rw[List.getElem?_toArray,ex]at this
   exact yaM this
  subst exx
  have lz:z<s.heap.objs.size:=yam h1
  have keep:∀b u,b ∉ [z,i1]->s.heap.get? b=some u->h2'.get? b=some u:=λb u hb e=>by
   simp only[yav,nN_,or_false,not_or]at hb
   exact(sb.2 b hb.1).trans (kp b u hb.1 hb.2 e)
  have I2:Inv X pins σ (upd H s.heap.objs.size (.tup [.int i,xv])) {s with heap:=h2',toks:=tk+1} :=
   qlI I keep hf (yac _) ⟨by show 2<=yaq;decide,[.int i tk,x'],.cons ⟨tk,rfl⟩ (.cons rx .nil),⟨_,(sb.2 _ (ycy lz)).trans new,rfl,_,rfl⟩⟩
  refine⟨.ref s.heap.objs.size,upd H s.heap.objs.size (.tup [.int i,xv]),I2,rfl,⟨s.heap.objs.size,xv,I.hok.fresh (yac _),hxv,rfl,rfl⟩,?_,λb hb=>?_⟩
  ·exact⟨⟨_,by simpa using zz2⟩,u1.1.at λo e=>(sb.2 i1 zi.symm).trans e⟩
  ·have hb1:b≠s.heap.objs.size:=by
    simp only[yav,nN_,or_false]at hb
    obtain⟨o4,g4,_⟩:=h4
    rcases hb with rfl|rfl
    ·exact yax (yam h1)
    ·exact yax (yam g4)
   rw[qM hb1]
   exact(hf b hb).1
 done:=by
  intro X hP hw hK hc i pins s σ H E I hf st hg
  subst hP hw hK
  obtain⟨hlt,hx⟩:=hg
  obtain⟨⟨old,h1⟩,h4⟩:=st
  obtain⟨it1,r1,p1,z1⟩:=I.tuple hx
  have hh:X.A.in1.handled=none:=I.ok.hd hc
  have e:i=it1.toArray.size:=by rw[sT_,<-r1.length];exact hlt
  subst e
  refine wpAny_pyNext_enum_endD (w8 hh i1 a1 n1 it1.toArray) h1 ⟨h4,p1⟩ λh' kp=>⟨rfl,qlJ (t':=s.toks) I (λb u hb e=>?_) hf⟩
  simp only[yav,nN_,or_false,not_or]at hb
  exact kp b u hb.2 e
 self:=λA i s Q E st h=>by
  obtain⟨⟨old,h1⟩,_⟩:=st
  exact yfE h1 h
section
variable{X:Cx}{c:Fc}{a b e:Expr}{pos:Pos}{es:List Expr}{kk:Nat}{tp:Pos}
def qpi(K:Fr0)(ta:TA):TI:=λσ H R=>ta σ H λvs H1=>∃a1 xs,vs=[.ref a1]/\SqT K H1 a1 xs/\R (Ite K a1 xs) H1
theorem qlS {ta:TA} {p:Pos} (hg:Gl X "enumerate") (hm:X.mg "enumerate"=none) (ha:PA X [a] ta) (hs:yah [a] X.env=[(false,eval a X.env)]:=by rfl) :
  PI X (.Tuple es kk tp) (.Call (.Name "enumerate" p) [a] [] pos) (qpi X.K ta):=by
 intro pins s σ H R I h
 refine Call_ (qdV I hg hm PyProof.Rows.boot_enumerate (ycb (thn (ha pos pins s σ H _ I h) λus s1 ⟨vs,H1,I1,r1,q1⟩=>?_) (by rw[hs];rfl) (by rfl)))
 obtain⟨a1,xs,e1,hx,q⟩:=q1
 subst e1
 obtain⟨u1,rfl,ru1⟩:=zM.one r1
 cases (show u1=yaj a1 from ru1)
 obtain⟨it1,v1,p1,z1⟩:=I1.tuple hx
 refine qh4 (show s1.heap.IsTuple a1 it1.toArray from p1) λh' zz g1 kp=>?_
 refine yfE zz ?_
 have la1:a1<s1.heap.objs.size:=by obtain⟨o,e,_⟩:=p1;exact yam e
 refine⟨s1.heap.objs.size+1,[s1.heap.objs.size+1,s1.heap.objs.size],_,_,H1,rfl,I1.kept (t':=s1.toks) kp,qh5 (xs:=xs) (Nat.succ_ne_self _) (ycy (Nat.lt_succ_of_lt la1)) (yax la1),⟨⟨_,zz⟩,g1⟩,λb hb=>?_,q⟩
 simp only[yav,nN_,or_false]at hb
 have hb2:s1.heap.objs.size<=b:=by
  rcases hb with e|e<;>rw[e]
  ·exact ydZ _ _
  ·exact yac _
 exact I1.fpOk hb2 (I1.hok.fresh hb2)
def qag (k:Nat):List D->List D
 | []=>[]
 |x::xs => .tup [.int (k:Nat),x]::qag (k+1) xs
theorem qch:∀(k:Nat)(xs:List D),(qag k xs).length=xs.length
 |_,[]=>rfl
 |k,x::xs=>by simp[qag,qch (k+1) xs]
theorem qei:∀{xs:List D}{k i:Nat}{d:D},(qag k xs)[i]? = some d->∃x,xs[i]? = some x/\d=.tup [.int ((k+i:Nat):Int),x]
 | [],_,_,_,h=>by simp[qag]at h
 |x::xs,k,0,d,h=>by
  have:D.tup [.int (k:Nat),x]=d:=by simpa [qag] using h
  exact⟨x,rfl,this.symm⟩
 |x::xs,k,i+1,d,h=>by
  obtain⟨y,h1,h2⟩:=qei (xs:=xs) (k:=k+1) (i:=i) (d:=d) (by simpa [qag] using h)
  exact⟨y,by simpa using h1,by rw[h2];congr 4;omega⟩
theorem qlT {K:Fr0} {A:Addr->Prop} {H:Hp} {ds:List D} {xs:List V} {a1:Addr} (t1:qcH K H a1 xs) (i1:IsL K A H ds xs):qkn K A H (qag 0 ds) (Ite K a1 xs) where
 go:=λH' i d ex hd=>by
  have hl:i<(qag 0 ds).length:=(gI_.mp hd).1
  rw[qch,<-i1.length]at hl
  exact⟨hl,(t1.elim (λh => .inl (ex.tup _ _ h)) .inr:qcH K H' a1 xs).sq⟩
 yl:=λH' i d x H'' ex hd y=>by
  obtain⟨p,u,hp,hu,rfl,rfl⟩:=y
  obtain⟨dx,h1,rfl⟩:=qei hd
  obtain⟨u',g1,g2⟩:=i1.get h1
  rw[hu]at g1
  cases g1
  have sm:=qG hp (.tup [.int i,u])
  exact⟨sm,p,[.int i,u],rfl,.inl qK,.int i,[u],rfl,by rw[yaV];rfl,u,[],rfl,Is.ext (Ext.of_same sm) (λ_ h _=>h) (Is.ext ex (λ_ h _=>h) g2),rfl⟩
 stop:=λH' ex=>⟨by rw[qch,i1.length],(t1.elim (λh => .inl (ex.tup _ _ h)) .inr:qcH K H' a1 xs).sq⟩
def qjy:List D->Option (List D)
 | [.tup xs]=>some (qag 0 xs)
 |_=>none
def qej(f:M (List D)):M (List D):=bnd f λds=>lift (qjy ds)
theorem qlU {f:M (List D)} {p:Pos} (hg:Gl X "enumerate") (hm:X.mg "enumerate"=none) (ha:DA X c [a] f) (hs:yah [a] X.env=[(false,eval a X.env)]:=by rfl) :
  DI X c (.Tuple es kk tp) (.Call (.Name "enumerate" p) [a] [] pos) (qej f):=by
 obtain⟨t,pa,w⟩:=ha
 refine⟨_,qlS hg hm pa hs,λZ σ H Q r h=>w Z σ H _ r (WpL.bndI h λds Z1 vs H1 r1 i1 g1 h1=>?_)⟩
 obtain⟨es',e,h2⟩:=qdk h1
 unfold qjy at e
 split at e
 ·obtain⟨v,rfl,j1⟩:=IsL.inv1 i1
  cases e
  obtain⟨a1,xs,rfl,t1,il1⟩:=Is.tr j1
  exact⟨a1,xs,rfl,t1.sq,h2 _ H1 r1 (qlT t1 il1) .refl⟩
 ·cases e
end
def vD:D->V
 |.bl b => .bl b
 |.int i => .int i
 |.str x => .str x
 |_ => .non
def flD:D->Bool
 |.non=>true
 |.bl _=>true
 |.int _=>true
 |.str _=>true
 |_=>false
def sqD:D->Option (List D)
 |.tup ds=>some ds
 |.lst ds=>some ds
 |_=>none
def inD (x y:D):OD:=match sqD y with
 |some ds=>if flD x&&ds.all flD then some (.bl (ds.any λd=>eqV (vD d) (vD x)))else none
 |none=>none
def qnV (x y:D):OD:=match sqD y with
 |some ds=>if flD x&&ds.all flD then some (.bl (!ds.any λd=>eqV (vD d) (vD x)))else none
 |none=>none
theorem qkA {K:Fr0} {A:Addr->Prop} {H:Hp} {d:D} {v:V} (h:Is K A H d v) (f:flD d=true):v=vD d/\qbH v=true:=by
 cases d<;>first|(cases h;exact⟨rfl,rfl⟩)|cases f
theorem qe7 {K:Fr0} {A:Addr->Prop} {H:Hp}:∀{ds:List D}{vs:List V},IsL K A H ds vs->ds.all flD=true->vs=ds.map vD/\vs.all qbH=true
 | [],_,h,_=>by cases h;exact⟨rfl,rfl⟩
 |d::ds,_,⟨x,ys,hx,h1,h2⟩,f=>by
  rw[yci,yal]at f
  obtain⟨e1,e2⟩:=qkA h1 f.1
  obtain⟨e3,e4⟩:=qe7 h2 f.2
  subst hx
  rw[mC_,<-e1,<-e3,yci,e2,e4]
  exact⟨rfl,rfl⟩
theorem qnW {K:Fr0} {A:Addr->Prop} {H:Hp} {x y:D} {ds:List D} {v u:V} (ix:Is K A H x v) (iy:Is K A H y u) (e:sqD y=some ds) (f:(flD x&&ds.all flD)=true) :
  ∃p xs,u=.ref p/\(SqL K H p xs\/SqT K H p xs)/\qbH v=true/\xs.all qbH=true/\inV v xs=ds.any λd=>eqV (vD d) (vD x):=by
 rw[yal]at f
 obtain⟨e1,e2⟩:=qkA ix f.1
 cases y<;>simp only[sqD]at e<;>try (cases e;done)
 ·cases e
  obtain⟨a,zs,rfl,ta,il⟩:=iy
  obtain⟨e3,e4⟩:=qe7 il f.2
  exact⟨a,zs,rfl,.inr ta.sq,e2,e4,by rw[e3,e1];unfold inV;rw[List.any_map];rfl⟩
 ·cases e
  obtain⟨a,zs,rfl,_,ta,il⟩:=iy
  obtain⟨e3,e4⟩:=qe7 il f.2
  exact⟨a,zs,rfl,.inl (SqL.of ta),e2,e4,by rw[e3,e1];unfold inV;rw[List.any_map];rfl⟩
theorem qlV {K:Fr0}:OpS K qnV (rIn K true):=by
 intro A H x y d v u Q hn ix iy e k
 unfold qnV at e
 split at e
 ·rename_i ds es
  obtain⟨e1,e2⟩:=jt e
  subst e2
  obtain⟨p,xs,h1,h2,h3,h4,h5⟩:=qnW ix iy es e1
  exact⟨p,xs,h1,h2,h3,h4,by rw[<-h5]at k;exact k _ H (yn.refl H) rfl⟩
 ·cases e
theorem qe8 {l:M (List D)} {Z:Env}:qej l Z=match l Z with|.ok (d,Z1)=>(match qjy d with|some ds => .ok (ds,Z1)|none => .bad)|.exc x Z' => .exc x Z'|.bad => .bad:=by
 simp only[qej,bnd]
 cases l Z with
 |ok z=>obtain⟨z1,Z1⟩:=z;(dsimp only;cases qjy z1<;>rfl)
 |exc x Z'=>rfl
 |bad=>rfl
section
variable{X:Cx}{tg iter elt:Expr}{ifs:List Expr}{scope:Scope}{pos:Pos}{wi:TI}{N':List Str}{nt:Nat}{fr:List Nat}
theorem qlW {i:Nat} {x:Str} {pos' spos:Pos} (hN:X.N.Nodup) (hix:X.N[i]? = some x) (hx:Loc X.env.scope x) (hfx:X.fn x=true\/X.env.scope.names.lookup x=some .local) (hc:X.calm=true) (hi:PI X tg iter wi) (S:ui X scope N' nt fr)
  (hsw:yc0 (.ListComp elt [⟨tg,iter,ifs,0⟩] scope pos) (some (.Name x pos')) spos.line X.env=pure true)
  (hs:∀x,ybS iter X.env x=pure x:=by intro _;rfl):PS X (.Assign [.Name x pos'] (.ListComp elt [⟨tg,iter,ifs,0⟩] scope pos) spos) (λD σ H=>qlx X tg ifs elt scope N' wi nt fr σ H λv H'=>D.nx (σ.set i (some v)) H'):=by
 intro pins s σ H D I hw
 obtain⟨cl,hcl,cl1,cl2⟩:=qaL (env:=X.env) (scope:=scope) (λy hy hf=>I.ok.has y.1 (.inl (S.frees y hy hf)))
 rw[exec_Assign_Name_used _ _ _ _ hsw]
 refine yaa (ycP (yaa ?_))
 show wpAny (model X.prog X.w) X.A (comprehension (.ListComp elt [⟨tg,iter,ifs,0⟩] scope pos) scope X.env _ (newList []) false (eval iter X.env) (some (ycg (.Name x pos') X.env)) >>= λ_=>pure ()) _ _ s
 refine yaa (thn (Q:=λ_ s'=>SP X pins D .next s') ?_ λ_ s' q=>yag (yag q))
 refine ydY (use:=some (ycg (.Name x pos') X.env)) rfl hs hcl S.kind S.names (thn (hi pins s σ H _ I hw) λv s1 h1=>thn h1 λitv s2 h2=>?_)
 obtain⟨it,fp,tn,J,H2,e,I2,T,st2,f2,hR⟩:=h2
 subst e
 have hacc:H2 s2.heap.objs.size=none:=I2.hok.fresh (yac _)
 refine yaN (yeM S.nocell (by intro y hy;simp at hy) (λh₁ hns1 hsb1=>?_) S.kind)
 dsimp only at hns1 hsb1 |-
 have I3:Inv X pins σ (upd H2 s2.heap.objs.size (.lst [])) {s2 with heap:=s2.heap.push {cls:=.type "list",dict:=none,data:=.seq ([]:List Value).toArray} } :=
  I2.lnew (t':=s2.toks) (its:=[]) .nil (yaD _)
 generalize hs3:({s2 with heap:=s2.heap.push {cls:=.type "list",dict:=none,data:=.seq ([]:List Value).toArray} }:yab)=s3 at I3
 have hh3:s2.heap.push {cls:=.type "list",dict:=none,data:=.seq ([]:List Value).toArray}=s3.heap:=by rw[<-hs3]
 rw[hh3]at hns1 hsb1
 have old:∀b o,s3.heap.get? b=some o->h₁.get? b=some o:=λb o q=>hsb1.extBut b o (yax (yam q)) (Heap.get?_push_of_some _ q)
 have objs2:∀b∈fp,∃o,s2.heap.get? b=some o:=λb hb=>by
  obtain⟨o,q,_⟩:=T.obj 0 _ st2 b hb
  exact⟨o,q⟩
 have keep23:∀b o,s2.heap.get? b=some o->s3.heap.get? b=some o:=λb o q=>by rw[<-hh3];exact Heap.get?_push_of_some _ q
 have fpne:∀b∈fp,b≠s2.heap.objs.size:=λb hb=>by
  obtain⟨o,q⟩:=objs2 b hb
  exact yax (yam q)
 have f3:∀b∈fp,qeN X pins (upd H2 s2.heap.objs.size (.lst [])) b:=λb hb=>⟨by rw[qM (fpne b hb)];exact(f2 b hb).1,(f2 b hb).2⟩
 have J0:Inv (jz X scope N' fp cl s3.heap.objs.size s3 (upd H2 s2.heap.objs.size (.lst [])) (X.pn++pins)) [] (zk nt fr σ) (upd H2 s2.heap.objs.size (.lst [])) {s3 with heap:=h₁,toks:=s3.toks} :=
  qcS S I3 f3 (λb hb=>(objs2 b hb).imp λo q=>keep23 b o q) cl1 cl2 ⟨_,hns1⟩ old
 obtain⟨g,tt,te,hg,hf,he,W,⟨m0,w0⟩,turn⟩:=hR s2.heap.objs.size fp cl s3.heap.objs.size s3 (upd H2 s2.heap.objs.size (.lst [])) (X.pn++pins) hacc
 have T0:tn 0 h₁:=T.keep 0 _ _ st2 λb hb o q=>old b o (keep23 b o q)
 have s3e:∀tk:Nat,({s2 with heap:=h₁,toks:=tk}:yab)={s3 with heap:=h₁,toks:=tk}:=λtk=>by rw[<-hs3]
 have loop:∀tk:Nat,ybW (model X.prog X.w) X.A (.compLoop (.ListComp elt [⟨tg,iter,ifs,0⟩] scope pos) 0 (.ref it) (.ref s2.heap.objs.size) (yeL scope cl s3.heap.objs.size X.env))
   (yfR (model X.prog X.w) X.A X.xe (some (ycg (.Name x pos') X.env)) (λ_ s'=>SP X pins D .next s') (.ref s2.heap.objs.size) s3.heap.objs.size) {s3 with heap:=h₁,toks:=tk}:=λtk=>by
  have stat:∀{H':Hp},(∀b∈fp,H' b=none)->∀b∈fp,qeN (jz X scope N' fp cl s3.heap.objs.size s3 (upd H2 s2.heap.objs.size (.lst [])) (X.pn++pins)) [] H' b:=λ{H'} hn b hb=>by
   obtain⟨o,q⟩:=objs2 b hb
   have hbC:b≠s3.heap.objs.size:=yax (yam (keep23 b o q))
   refine⟨hn b hb,hbC,λz=>?_,.inl hb,λx c hx=>(f2 b hb).2.2.2.2.1 x c (cl1 x c hx),λp hp=>?_⟩
   ·rcases List.mem_cons.mp (I2.stkSub b z)with z|z
    ·exact(f2 b hb).2.1 z
    ·exact(f2 b hb).2.2.1 z
   ·have hp':p∈X.pn++pins:=by
     rcases mA_.mp (show p∈(X.pn++pins)++[]from hp)with z|z
     ·exact z
     ·cases z
    exact(f2 b hb).2.2.2.2.2 p hp'
  have fr0:∀b∈fp,upd H2 s2.heap.objs.size (.lst []) b=none:=λb hb=>(f3 b hb).1
  refine qca (λn s'=>∃i σ' H',Inv (jz X scope N' fp cl s3.heap.objs.size s3 (upd H2 s2.heap.objs.size (.lst [])) (X.pn++pins)) [] σ' H' s'/\tn i s'.heap/\(∀b∈fp,H' b=none)/\W i n σ' H') ?_ m0
   ⟨0,zk nt fr σ,_,J0.tok tk,T0,fr0,w0⟩
  rintro n s4 ⟨i,σ4,H4,J4,st4,fr4,w4⟩
  rcases turn i n σ4 H4 w4 with⟨stop,qn⟩|⟨go,step⟩
  ·refine thn (T.done (jz X scope N' fp cl s3.heap.objs.size s3 (upd H2 s2.heap.objs.size (.lst [])) (X.pn++pins)) rfl rfl rfl hc i [] s4 σ4 H4 _ J4 (stat fr4) st4 stop) λr s5 ⟨hr,J5⟩=>?_
   subst hr
   obtain⟨m5,n5,_⟩:=J5.loc
   have I5:Inv X pins σ H4 s5:=qfM I3 f3 J5 (yfF ..)
   have lC:X.env.locals≠s3.heap.objs.size:=yax I3.lt
   have cC:∀y c,X.env.cells.lookup y=some c->c≠s3.heap.objs.size:=λy c hy=>by
    obtain⟨v,o,ho,_⟩:=I3.cell y c hy
    exact yax (yam ho)
   have pC:∀p∈X.pn++pins,p.1≠s3.heap.objs.size:=λp hp=>yax (yam (I3.pin p hp).1)
   refine yfv (qdU (v:=.ref s2.heap.objs.size) I5 hN hix hx rfl (λs'' I6 ⟨a,sb,ha⟩=>?_) hfx)
   have aC:s3.heap.objs.size≠a:=by
    rcases ha with rfl|ha
    ·exact lC.symm
    ·exact(cC _ _ ha).symm
   exact⟨m5,n5.sameBut sb aC,λh' sb'=>⟨_,H4,I6.turned (t':=s''.toks) (λb o hb q=>(sb'.2 b hb).trans q) J5.free lC.symm (.inr I3.sz) cC pC,qn⟩⟩
  ·refine thn (T.item (jz X scope N' fp cl s3.heap.objs.size s3 (upd H2 s2.heap.objs.size (.lst [])) (X.pn++pins)) rfl rfl rfl hc i [] s4 σ4 H4 _ J4 (stat fr4) st4 go) λr s5 ⟨u,hr,h5⟩=>?_
   subst hr
   refine thn h5 λ_ s6 ⟨x,H6,J6,r6,y6,st6,fr6⟩=>?_
   have J6':=J6.pinned (stat fr6) (T.obj _ _ st6)
   have again:∀{σ7:St}{H7:Hp}{s7:yab},Inv (jz X scope N' fp cl s3.heap.objs.size s3 (upd H2 s2.heap.objs.size (.lst [])) (X.pn++pins)) ([]++qcO fp s6.heap) σ7 H7 s7->(∃m',m'<n/\W (i+1) m' σ7 H7) ->
     ∃m,m<n/\∃i σ' H',Inv (jz X scope N' fp cl s3.heap.objs.size s3 (upd H2 s2.heap.objs.size (.lst [])) (X.pn++pins)) [] σ' H' s7/\tn i s7.heap/\(∀b∈fp,H' b=none)/\W i m σ' H':=λ{σ7 H7 s7} I7 hm=>by
    obtain⟨m',hm,w7⟩:=hm
    refine⟨m',hm,i+1,σ7,H7,I7.unpinned,T.keep _ _ _ st6 λb hb o q=>(I7.pin (b,o) (mr_ _ (mr_ _ (uH hb q)))).1,λb hb=>?_,w7⟩
    obtain⟨o,q,d⟩:=T.obj _ _ st6 b hb
    exact(I7.pin (b,o) (mr_ _ (mr_ _ (uH hb q)))).2.1
   refine thn (hg _ s6 σ4 H6 x u _ J6' r6 (step x H6 y6)) λ_ s7 ⟨σ7,H7,J7,q7⟩=>?_
   refine thn (hf _ s7 σ7 H7 _ J7 q7) λok s8 ⟨H8,J8,q8⟩=>?_
   cases ok with
   |false=>
    rw[if_neg yap]at q8 |-
    exact again J8 q8
   |true=>
    rw[if_pos rfl]at q8 |-
    refine thn (he _ s8 σ7 H8 _ J8 q8) λz s9 ⟨y,H9,J9,r9,ys,hys,hz,hm⟩=>?_
    refine thn (qb4 _ s9 σ7 H9 (.ref s2.heap.objs.size) [y] (.ref s2.heap.objs.size) [z] (λ_ H'=>H'=upd H9 s2.heap.objs.size (.lst (ys++[y]))) J9 rfl (.cons r9 .nil) ⟨_,ys,y,rfl,rfl,hys,hz,rfl⟩) λ_ s10 ⟨_,H10,J10,_,e10⟩=>?_
    subst e10
    exact again J10 hm
 have jM:∀tk:Nat,ybW (model X.prog X.w) X.A (.compStart (.ListComp elt [⟨tg,iter,ifs,0⟩] scope pos) 0 (.ref it) (.ref s2.heap.objs.size) (yeL scope cl s3.heap.objs.size X.env))
   (yfR (model X.prog X.w) X.A X.xe (some (ycg (.Name x pos') X.env)) (λ_ s'=>SP X pins D .next s') (.ref s2.heap.objs.size) s3.heap.objs.size) {s3 with heap:=h₁,toks:=tk}:=λtk=>
  yem (loop tk) (T.self X.A 0 _ _ _ T0 (loop tk))
 have fin:=jM (s2.toks+([]:List (Str×Value)).length)
 rw[<-s3e]at fin
 rw[<-hh3]at fin
 rw[hh3]at fin |-
 exact fin
end
section
variable{X:Cx}{c:Fc}
def DC(X:Cx)(c:Fc)(tg it elt:Expr)(ifs:List Expr)(scope:Scope)(N':List Str)(nt:Nat)(fr:List Nat)(f:M D):Prop:=∃wi,PI X tg it wi/\∀Z σ H Q,Rep X.K c Z σ H->Wp X.K c σ H Q (f Z)->qlx X tg ifs elt scope N' wi nt fr σ H Q
theorem qe9 {it elt tg:Expr} {ifs:List Expr} {scope:Scope} {N':List Str} {nt:Nat} {fr:List Nat} {fo:Option (Nat×Nat)} {f:M (List D)} {g:D->Env->Option Env} {t:M Bool} {k:M D} (hc:X.calm=true) (hi:DI X c tg it f) (S:ui X scope N' nt fr)
  (hfo:qlA c nt fr fo)
  (hb:∀fp cl C s₀ H₀ pn B0 H1 Io' acc S',DG (jz X scope N' fp cl C s₀ H₀ pn) (cin B0 H1 (foO fo) Io' acc S') tg g/\DF (jz X scope N' fp cl C s₀ H₀ pn) (cin B0 H1 (foO fo) Io' acc S') ifs t/\DE (jz X scope N' fp cl C s₀ H₀ pn) (cin B0 H1 (foO fo) Io' acc S') elt k)
  : DC X c tg it elt ifs scope N' nt fr (jJ nt fr fo f g t k):=by
 obtain⟨wi,pi,wI⟩:=hi
 refine⟨wi,pi,λZ σ H Q r h=>wI Z σ H _ r (WpI.bnd h λds Z1 J H1 r1 iok g1 h1=>?_)⟩
 intro acc fp cl C s₀ H₀ pn hn
 obtain⟨⟨tg',pg,wg⟩,⟨tt,pt,wt⟩,⟨te,pe,we⟩⟩:=hb fp cl C s₀ H₀ pn (Cn c σ) H1 (qdS σ fo) acc λj=>(zk nt fr σ)[j]?
 refine⟨tg',tt,te,pg,pt,pe,?_⟩
 cases ew:jh g t k ds [] (uA nt fr Z1) with
 |exc x Z'=>rw[ew]at h1;exact h1.elim
 |bad=>rw[ew]at h1;exact h1.elim
 | ok p =>
  rw[ew]at h1
  obtain⟨ys,Ze⟩:=p
  have h1:∀v H',Rep X.K c (qlz fo Ze Z1) σ H'->Is X.K (Cn c σ) H' (.lst ys) v->Gr c.O σ H1 H'->Q v H':=h1
  have accO:∀j∈foO fo,(zk nt fr σ)[j]? ≠ some (some (.ref acc)):=λj hj e=>by
   have r0:=r1.entry (acc:=acc) hn hfo
   cases fo with
   |none=>cases hj
   |some p=>
    obtain⟨i',j'⟩:=p
    have e2:j=i':=by simpa [foO] using hj
    subst e2
    obtain⟨k2,j2,e1,e2,e3⟩:=uI e
    have hk2:k2=j-nt:=by omega
    subst hk2
    rw[hfo.2.2.1]at e2
    cases e2
    obtain⟨a,us,e4,e5,_⟩:=r1.own j' hfo.1 _ e3
    cases e4;rw[hn]at e5;cases e5
  refine ⟨λi m σ' H'=>m=ds.length-i/\i<=ds.length/\∃Z' zs xs,Rep X.K (cin (Cn c σ) H1 (foO fo) (qdS σ fo) acc λj=>(zk nt fr σ)[j]?) Z' σ' H'/\(∀j∈foO fo,σ'[j]? = (zk nt fr σ)[j]?)/\H' acc=some (.lst xs)/\IsL X.K (Cn (cin (Cn c σ) H1 (foO fo) (qdS σ fo) acc λj=>(zk nt fr σ)[j]?) σ') H' zs xs/\jh g t k (ds.drop i) zs Z'=.ok (ys,Ze),
   ⟨ds.length,by simp,yaD _,uA nt fr Z1,[],[],r1.entry hn hfo,λ_ _=>rfl,qK,rfl,by simpa using ew⟩,?_⟩
  rintro i m σ' H' ⟨rfl,hi,Z',zs,xs,r',so,ha,iz,w⟩
  obtain⟨_,gr⟩:=r1.leave hn hfo (λi j e=>so i (by rw[e];simp[foO])) r'
  have ex:Ext (CnT c σ H1) H1 H':=⟨gr.ext.tup,gr.ext.frz,λb o hb hq=>gr.ext.at_ b o hb.1.2 hq⟩
  have accC:∀τ:St,(∀j∈foO fo,τ[j]? = (zk nt fr σ)[j]?)->Cl (foO fo) τ acc:=λτ hτ j hj e=>accO j hj (by rw[<-hτ j hj];exact e)
  by_cases hlt:i<ds.length
  ·refine .inr ⟨iok.go H' i ds[i] ex (by simp[hlt]),λx H'' y=>?_⟩
   obtain⟨sm,ix⟩:=iok.yl H' i ds[i] x H'' ex (by simp[hlt]) y
   rw[qa8 hlt]at w
   unfold jh at w
   have ix2:Is X.K (Cn (cin (Cn c σ) H1 (foO fo) (qdS σ fo) acc λj=>(zk nt fr σ)[j]?) σ') H'' ds[i] x:=Is.ext Ext.refl (λa ha _=>⟨⟨ha.1,λe=>by
    have:=ha.2
    rw [e,hn]at this;cases this⟩,λj hj e=>by
     rw[so j hj]at e
     cases fo with
     |none=>cases hj
     |some p=>
      obtain⟨i',j'⟩:=p
      have e2:j=i':=by simpa [foO,cin] using hj
      subst e2
      obtain⟨k2,j2,e1,e2,e3⟩:=uI e
      have hk2:k2=j-nt:=by omega
      subst hk2
      rw[hfo.2.2.1]at e2
      cases e2
      exact ha.1.2 j' hfo.1 e3⟩) ix
   cases e1:g ds[i] Z' with
   |none=>simp only[e1]at w;cases w
   | some Z2=>
    simp only[e1]at w
    refine wg Z' σ' H'' ds[i] x Z2 _ (r'.same sm) ix2 e1 λσ2 r2 g2 o2=>?_
    have so2:∀j∈foO fo,σ2[j]? = (zk nt fr σ)[j]? := λj hj=>(o2 j hj).trans (so j hj)
    have ha2:H'' acc=some (.lst xs):=sm _ _ ha
    have iz2:=g2.isL (IsL.ext (Ext.of_same sm) (λ_ h _=>h) iz)
    cases e2:t Z2 with
    |exc x Z3=>simp only[e2]at w;cases w
    |bad=>simp only[e2]at w;cases w
    | ok p2=>
     obtain⟨bb,Z3⟩:=p2
     refine wt Z2 σ2 H'' _ r2 ?_
     rw[e2]
     intro H3 r3 g3
     have ha3:H3 acc=some (.lst xs):=g3.ext.at_ _ _ (accC σ2 so2) ha2
     have iz3:=g3.isL iz2
     cases bb with
     |false=>
      rw[if_neg yap]
      simp only[e2]at w
      exact⟨ds.length-(i+1),by omega,rfl,hlt,Z3,zs,xs,r3,so2,ha3,iz3,w⟩
     | true=>
      rw[if_pos rfl]
      simp only[e2]at w
      cases e3:k Z3 with
      |exc x Z4=>simp only[e3]at w;cases w
      |bad=>simp only[e3]at w;cases w
      | ok p3=>
       obtain⟨d4,Z4⟩:=p3
       simp only[e3]at w
       refine we Z3 σ2 H3 _ r3 ?_
       rw[e3]
       intro y4 H4 r4 i4 g4
       have ha4:H4 acc=some (.lst xs):=g4.ext.at_ _ _ (accC σ2 so2) ha3
       have hsz:zx (zs.length+1)=true:=by
        cases e5:zx (zs.length+1) with
        |true=>rfl
        |false=>rw[e5]at w;simp at w
       rw[if_pos hsz]at w
       have hsz':zs.length+1<=yaq:=of_decide_eq_true hsz
       have r5:=r4.grow (ys:=xs++[y4]) ha4 (λj hj e=>accC σ2 so2 j hj e)
       have ext5:Ext (Cn (cin (Cn c σ) H1 (foO fo) (qdS σ fo) acc λj=>(zk nt fr σ)[j]?) σ2) H4 (upd H4 acc (.lst (xs++[y4]))):=⟨λb us hb=>by rw[qM (qbG hb ha4 (by intro z;cases z))];exact hb,λb o u hb=>by rw[qM (qbG hb ha4 (by intro z;cases z))];exact hb,λb o hb hq=>by rw[qM hb.1.2];exact hq⟩
       refine⟨xs,ha4,by rw[iz3.length];omega,ds.length-(i+1),by omega,rfl,hlt,Z4,zs++[d4],xs++[y4],r5,so2,qK,?_,w⟩
       exact IsL.append (IsL.ext ext5 (λ_ h _=>h) (g4.isL iz3)) (IsL.one (Is.ext ext5 (λ_ h _=>h) i4))
  ·have hie:i=ds.length:=by omega
   subst hie
   rw[ycO (yac _)]at w
   unfold jh at w
   cases w
   obtain⟨r6,g6⟩:=r1.leave hn hfo (λi j e=>so i (by rw[e];simp[foO])) r'
   exact .inl ⟨iok.stop H' ex,h1 _ H' r6 ⟨acc,xs,rfl,r1.new hn,ha,IsL.ext Ext.refl (λa ha hs=>ha.1.1) iz⟩ g6⟩
theorem qfa {i:Nat} {x:Str} {pos' spos pos:Pos} {tg it elt:Expr} {ifs:List Expr} {scope:Scope} {N':List Str} {nt:Nat} {fr:List Nat} {f:M D} (hN:X.N.Nodup) (h:DC X c tg it elt ifs scope N' nt fr f) (hc:X.calm=true) (S:ui X scope N' nt fr)
  (ho:i ∉ c.O:=by exact of_decide_eq_false rfl) (hix:X.N[i]? = some x:=by rfl) (hx:Loc X.env.scope x:=by first|exact ybr rfl|exact ya3 rfl) (hfx:X.fn x=true\/X.env.scope.names.lookup x=some .local:=by first|exact .inl rfl|exact .inr rfl|assumption)
  (hsw:yc0 (.ListComp elt [⟨tg,it,ifs,0⟩] scope pos) (some (.Name x pos')) spos.line X.env=pure true:=by rfl) (hs:∀x,ybS it X.env x=pure x:=by intro _;rfl) :
  DS X c (.Assign [.Name x pos'] (.ListComp elt [⟨tg,it,ifs,0⟩] scope pos) spos) (qN i f):=by
 obtain⟨wi,pi,w⟩:=h
 refine⟨_,qlW hN hix hx hfx hc pi S hsw hs,λZ σ H D r h=>w Z σ H _ r (Wp.sbnd h λd Z1 v H1 r1 i1 g1 h1=>?_)⟩
 exact h1 _ H1 (r1.set ho i1) (.set ho)
end
def qcU:List Int->Int
 | []=>0
 | [n]=>n
 |n::m::ns=>max n (qcU (m::ns))
def qp9:List Int->Int
 | []=>0
 | [n]=>n
 |n::m::ns=>min n (qp9 (m::ns))
theorem qdp:∀(n:Int)(ns:List Int),qcU (n::ns)∈n::ns
 |n,[]=>mS_
 |n,m::ns=>by
  have h:=qdp m ns
  show max n (qcU (m::ns))∈_
  rw[Int.max_def]
  split
  ·exact mM _ h
  ·exact mS_
theorem qh6:∀(n:Int)(ns:List Int),∀k∈n::ns,k<=qcU (n::ns)
 |n,[]=>λk hk=>by
  have:k=n:=by simpa using hk
  rw[this];exact Int.le_refl _
 |n,m::ns=>λk hk=>by
  have h:=qh6 m ns
  show k<=max n (qcU (m::ns))
  rcases List.mem_cons.mp hk with rfl|hk
  ·exact Int.le_max_left ..
  ·exact Int.le_trans (h k hk) (Int.le_max_right ..)
theorem qlX {ns:List Int} {z:Int} (h1:z∈ns) (h2:∀n∈ns,n<=z):qcU ns=z:=by
 cases ns with
 |nil=>cases h1
 |cons n ns=>exact Int.le_antisymm (h2 _ (qdp n ns)) (qh6 n ns z h1)
theorem qek {zs:Array (Int×Tok)} {i:Nat} (h:i<zs.size):(zs.toList.map (·.1))[i]? = some (numAt zs i):=by
 have h':i<zs.toList.length:=by simpa using h
 rw[gM_,gG h']
 simp[numAt,h]
section
variable{X:Cx}
theorem qci (hc:X.calm=true):uC X (.builtin "max") (λxs H Q=>∃(p:Addr)(ns:List Int),xs=[.ref p]/\H p=some (.lst (ns.map V.int))/\ns≠[]/\Q (.int (qcU ns)) H):=by
 intro pins s σ H xs us Q I r h
 obtain⟨p,ns,rfl,hp,hne,q⟩:=h
 obtain⟨u,rfl,ru⟩:=zM.one r
 cases ru
 obtain⟨its,rv,pl,hz⟩:=I.list (SqL.of hp)
 have hl:=pl.isList
 have hi:ybP its ns:=qgv rv
 obtain⟨zs,hx⟩:=hi.allInts.items
 have hl':s.heap.IsList p (intItems zs):=hx▸hl
 have e1:ns=zs.toList.map (·.1):=by
  rw[<-nums_intItems,<-hx]
  exact(show numsOf its.toArray.toList=ns from hi.numsOf).symm
 have hsz:0<zs.size:=by
  cases hzz:zs.toList with
  |nil=>rw[hzz]at e1;exact absurd e1 hne
  |cons a b=>
   have:zs.size=zs.toList.length:=by simp
   rw[this,hzz];simp
 refine max_intList (I.ok.hd hc) hl' hsz λv h' tk hv hk=>?_
 obtain⟨t,rfl⟩:=intItems_at hv
 obtain⟨b1,b2⟩:=argBest_gt (numAt zs) (zs.size-1)
 have e2:qcU ns=numAt zs (argBest (λi j=>decide (numAt zs i>numAt zs j)) (zs.size-1)):=by
  refine qlX ?_ λn hn=>?_
  ·rw[e1]
   exact yby (qek (by omega))
  ·rw [e1]at hn
   obtain⟨j,hj⟩:=List.mem_iff_getElem?.mp hn
   have hj2:j<zs.size:=by
    have:=(gI_.mp hj).1
    simpa using this
   rw[qek hj2]at hj
   cases hj
   exact b2 j (by omega)
 rw[<-e2]
 exact⟨.int _,H,I.kept hk,⟨_,rfl⟩,q⟩
end
def qcI:List D->OD
 | [.lst ds]=>match wH ds with
  |some (n::ns)=>some (.int (qcU (n::ns)))
  |_=>none
 |_=>none
theorem qbc {K:Fr0}:qbI K qcI (λxs H Q=>∃(p:Addr)(ns:List Int),xs=[.ref p]/\H p=some (.lst (ns.map V.int))/\ns≠[]/\Q (.int (qcU ns)) H):=by
 intro A H xs d vs Q hn h e k
 unfold qcI at e
 split at e
 ·obtain ⟨v,rfl,a,zs,rfl,_,ta,il⟩:=IsL.inv1 h
  split at e
  ·rename_i n ns hi
   cases e
   rw[qa6 il hi]at ta
   exact⟨a,n::ns,rfl,ta,by simp,k _ H (yn.refl H) rfl⟩
  ·cases e
 ·cases e
def uw (t:M Bool) (b:MS):Nat->MS
 |0,_ => .bad
 | n+1,Z=>match t Z with
  |.ok (true,Z1)=>match b Z1 with
   |.ok (.nx Z2)=>uw t b n Z2
   |.ok (.ct Z2)=>uw t b n Z2
   |.ok (.bk Z2) => .ok (.nx Z2)
   |.ok (.rt d Z2) => .ok (.rt d Z2)
   |.exc x Z2 => .exc x Z2
   |.bad => .bad
  |.ok (false,Z1) => .ok (.nx Z1)
  |.exc x Z1 => .exc x Z1
  |.bad => .bad
open Classical in
noncomputable def qcj(t:M Bool)(b:MS):MS:=λZ=>if h:∃n,uw t b n Z ≠ .bad then uw t b h.choose Z else .bad
theorem qaa {t:M Bool} {b:MS}:∀{n:Nat}{Z:Env}(k:Nat),uw t b n Z ≠ .bad->uw t b (n+k) Z=uw t b n Z
 |0,Z,k,h=>absurd rfl h
 | n + 1,Z,k,h=>by
  have e:n+1+k=(n+k)+1:=by omega
  rw[e]
  unfold uw at h |-
  cases et:t Z with
  | ok p=>
   obtain⟨v,Z1⟩:=p
   rw[et]at h
   cases v with
   |false=>rfl
   | true=>
    dsimp only at h |-
    cases eb:b Z1 with
    |ok fl=>
     rw[eb]at h
     cases fl with
     |nx Z2=>exact qaa k h
     |ct Z2=>exact qaa k h
     |bk Z2=>rfl
     |rt d Z2=>rfl
    |exc x Z2=>rfl
    |bad=>rfl
  |exc x Z1=>rfl
  |bad=>rfl
theorem qel {t:M Bool} {b:MS} {n:Nat} {Z:Env} {r:R Fl} (h:uw t b n Z=r) (hb:r ≠ .bad):qcj t b Z=r:=by
 have hx:∃n,uw t b n Z ≠ .bad:=⟨n,by rw[h];exact hb⟩
 unfold qcj
 rw[dif_pos hx]
 have hc:=hx.choose_spec
 generalize hx.choose=m at hc
 rcases Nat.le_total m n with hl|hl
 ·obtain⟨k,rfl⟩:=yd7 hl
  rw[<-qaa k hc];exact h
 ·obtain⟨k,rfl⟩:=yd7 hl
  rw[qaa k (by rw[h];exact hb)];exact h
theorem qgF {t:M Bool} {b:MS} {Z:Env}:∃n,qcj t b Z=uw t b n Z:=by
 unfold qcj
 split
 ·exact⟨_,rfl⟩
 ·exact⟨0,rfl⟩
section
variable{X:Cx}{c:Fc}{pos:Pos}
theorem qfT {e:Expr} {body:List Stmt} {t:M Bool} {b:MS} (hp:ye6 (model X.prog X.w) X.A X.env X.xe) (ht:DT X c e t) (hb:DSs X c body b):DS X c (.While e body [] pos) (qcj t b):=by
 obtain⟨tc,pc,wc⟩:=ht
 obtain⟨tb,pb,wb⟩:=hb
 refine⟨_,qi5 hp pc pb,λZ σ H D' r h=>?_⟩
 obtain⟨n,en⟩:=qgF (t:=t) (b:=b) (Z:=Z)
 rw[en]at h
 refine⟨λm σ' H'=>∃Z',Rep X.K c Z' σ' H'/\WpS X.K c σ' H' D' (uw t b m Z'),⟨n,Z,r,h⟩,?_⟩
 rintro m σ' H' ⟨Z',r',w⟩
 cases m with
 |zero=>exact w.elim
 | succ m=>
  unfold uw at w
  refine wc Z' σ' H' _ r' ?_
  cases et:t Z' with
  |bad=>rw[et]at w;exact w
  |exc x Z1=>rw[et]at w;exact λH1 r1 g1=>w σ' H1 r1 g1.s
  | ok p=>
   obtain⟨v,Z1⟩:=p
   rw[et]at w
   intro H1 r1 g1
   cases v with
   |false=>
    rw[if_neg yap]
    exact w σ' H1 r1 g1.s
   | true=>
    rw[if_pos rfl]
    dsimp only at w
    refine⟨λσ2 H2=>∃Z2,Rep X.K c Z2 σ2 H2/\WpS X.K c σ2 H2 D' (uw t b m Z2),λσ2 H2 q=>⟨m,Nat.lt_succ_self m,q⟩,wb Z1 σ' H1 _ r1 ?_⟩
    have w2:=w.gr g1.s
    cases e2:b Z1 with
    |ok fl=>
     cases fl with
     |nx Z3=>simp only[e2]at w2;exact λσ3 H3 r3 g3=>⟨Z3,r3,w2.gr g3⟩
     |ct Z3=>simp only[e2]at w2;exact λσ3 H3 r3 g3=>⟨Z3,r3,w2.gr g3⟩
     |bk Z3=>simp only[e2]at w2;exact w2
     |rt d Z3=>simp only[e2]at w2;exact w2
    |exc x Z3=>simp only[e2]at w2;exact w2
    |bad=>simp only[e2]at w2;exact w2
end
def qoK(K:Fr0)(a:Addr)(ns:List Int):Prop:=∃(o:Obj)(its:Array Value)(n:Nat),K.lookup a=some o/\o.cls=.type "tuple"/\o.data=.seq its n/\its.size<=yaq/\zM (ns.map V.int) its.toList
theorem qoK.is{K:Fr0}{a:Addr}{ns:List Int}(h:qoK K a ns)(H:Hp)(A:Addr->Prop):Is K A H (.tup (ns.map .int)) (.ref a):=⟨a,_,rfl,.inr h,qdj ns⟩
theorem qjz {X:Cx} {c:Fc} {x:Str} {a:Addr} {ns:List Int} {pos:Pos} (hg:Gl X x) (hm:X.mg x=some (.ref a)) (ht:qoK X.K a ns) (hdb:(x==("__debug__":Str))=false:=by decide):DE X c (.Name x pos) (ret (.tup (ns.map .int))) :=
 qhx (v:=.ref a) hg hm rfl (λH A=>ht.is H A) hdb
def qdq (h:Heap) (e T:Addr) (cls:Value):Prop :=
 ∃oe vs oT ts a0,h.get? e=some oe/\(oe.cls=cls/\vs[2]? = some .none/\vs[0]? = some a0)/\oe.data=.fields vs/\vs[1]? = some (.ref T)/\T≠e/\h.get? T=some oT/\oT.data=.fields ts/\ts[3]? = some .none
def CX1 (P:yar) (w:World):CXT:=λouter H s E u s'=>∃e T C H',u=.ref e/\s'.os=s.os/\ycl s'.gens/\Un (frs outer) [] H H' s.heap s'.heap/\HOk P w H' s'.heap /\
 s.heap.get? e=none/\s.heap.get? T=none/\H' e=none/\H' T=none/\qdq s'.heap e T (.ref C)/\E (.ref C) none H'
structure Lft (h h':Heap) (ch fs:List Addr):Prop where
 keep:∀b o,b ∉ ch->b ∉ fs->h.get? b=some o->h'.get? b=some o
 slot:∀b o,b∈fs->h.get? b=some o->∃sl,h'.get? b=some {o with slots:=sl}
section
variable{M:Model}{A:yas}{E:Value->yab->Prop}{s:yab}
abbrev qbd:Obj->Obj:=yeV (·.setIfInBounds 3 yaA)
theorem qlY {base:Heap} {l:List yaU} {h:Heap} {b:Addr} {o:Obj} {vs:Array Value} (hl:h.FunFrames base l) (hb:h.get? b=some o) (hd:o.data=.fields vs):b ∉ frs l:=λz=>by
 obtain⟨_,o',ho',hn⟩:=hl.mem z
 rw[hb]at ho'
 cases ho'
 exact hn vs hd
theorem qfU {e T:Addr} {oe oT:Obj} {vs ts:Array Value} {Q:Unit->yab->Prop} (he:s.heap.get? e=some oe) (hd:oe.data=.fields vs) (h1:vs[1]? = some (.ref T)) (hT:s.heap.get? T=some oT) (hdT:oT.data=.fields ts) (h3:3<ts.size)
  (k:Q () {s with heap:=s.heap.update T qbd}):wpAny M A (ydy (.ref e) none) Q E s:=by
 unfold ydy
 refine yaa (yaC he hd h1 ?_)
 have t:(yaj T != yaA)=true:=by simp
 rw[if_pos t]
 exact ycG hT hdT h3 k
theorem qbe {h:Heap} {T:Addr} {oT:Obj} {ts:Array Value} (hT:h.get? T=some oT) (hdT:oT.data=.fields ts) (h3:3<ts.size):∃o2 t2,(h.update T qbd).get? T=some o2/\o2.data=.fields t2/\t2[3]? = some .none :=
 ⟨_,_,Heap.get?_update_self _ hT (yc3 (ybK hdT _)),ybK hdT _,by simp[h3]⟩
theorem jn{h:Heap}{T b:Addr}(n:b≠T):(h.update T qbd).get? b=h.get? b:=Heap.get?_update_other _ _ (ybk n)
theorem qjA {base:Heap} {env:yaU} {outer:List yaU} {L e:Addr} {oe:Obj} {vs:Array Value} {head:Value} {had:Bool} {Q:Unit->yab->Prop} (hfr:A.frames=some (env::outer)) (hl:s.heap.FunFrames base (env::outer)) (hf:env.frame=some L)
  (he:s.heap.get? e=some oe) (hd:oe.data=.fields vs) (h1:1<vs.size)
  (k:∀h' T,s.heap.get? T=none->T≠e->(∀b o,b≠e->b ∉ frs (env::outer)->s.heap.get? b=some o->h'.get? b=some o)->(∀b o,b∈frs (env::outer)->s.heap.get? b=some o->∃sl,h'.get? b=some {o with slots:=sl}) ->
   h'.get? e=some (yeV (·.setIfInBounds 1 (yaj T)) oe)->(∃oT ts,h'.get? T=some oT/\oT.data=.fields ts/\3<ts.size)->h'.FunFrames base (env::outer)->Q () {s with heap:=h' }) :
  wpAny M A (do let a <-frameOf env;let pl <-entryPlaceOf L had;let b <-ydi head a .none (ybI L) .none pl;setField (.ref e) 1 b) Q E s:=by
 have hene:=qlY hl he hd
 refine yaa (wpAny_frameOf_fun hfr hl hf λh₁ hs1=>yaa (wpAny_entryPlaceOf λpl hpl=>?_))
 unfold ydi newFields
 have he1:h₁.get? e=some oe:=(hs1.2.1 e hene).trans he
 refine yaa (yaN ?_ (hpl.sizeOk5 _ _ _ _ _))
 generalize hob:({cls:=yb2 "traceback",dict:=none,data:=yfL ([head,yaj L,yaA,ybI L,yaA]++(if pl.isEmpty then yat 6 yaA else pl)).toArray}:Obj)=ob
 have nT:h₁.objs.size≠e:=ycy (yam he1)
 have hnT:s.heap.get? h₁.objs.size=none:=by
  cases q:s.heap.get? h₁.objs.size with
  |none=>rfl
  |some o=>
   obtain⟨sl,q'⟩:=hs1.2.2 _ o q
   exact absurd (yam q') (ybC _)
 refine ycG (Heap.get?_push_of_some _ he1) hd h1 ?_
 have keep:∀b o,b≠e->h₁.get? b=some o->((h₁.push ob).update e (yeV (·.setIfInBounds 1 (yaj h₁.objs.size)))).get? b=some o:=λb o hb q=>(Heap.get?_update_other _ _ (ybk hb)).trans (Heap.get?_push_of_some _ q)
 refine k _ h₁.objs.size hnT nT (λb o hb hf q=>keep b o hb ((hs1.2.1 b hf).trans q)) (λb o hb q=>?_) (Heap.get?_update_self _ (Heap.get?_push_of_some _ he1) (yc3 (ybK hd _))) ⟨ob,([head,yaj L,yaA,ybI L,yaA]++(if pl.isEmpty then yat 6 yaA else pl)).toArray,?_,by rw[<-hob],by simp⟩ (hl.of_keeps λb o q hn=>?_)
 ·obtain⟨sl,q'⟩:=hs1.2.2 b o q
  exact⟨sl,keep b _ (λz=>hene (z▸hb)) q'⟩
 ·exact(Heap.get?_update_other _ _ (ybk nT)).trans (Heap.get?_push_size _ (by rw[<-hob];rfl))
 ·obtain⟨sl,q'⟩:=hs1.2.2 b o q
  exact⟨_,keep b _ (λz=>by subst z;rw[he]at q;cases q;exact hn vs hd) q',rfl⟩
theorem qfV {base:Heap} {env:yaU} {outer:List yaU} {L e:Addr} {oe:Obj} {vs:Array Value} {a0 head:Value} {had:Bool} {Q:Unit->yab->Prop} (hfr:A.frames=some (env::outer)) (hl:s.heap.FunFrames base (env::outer)) (hf:env.frame=some L)
  (he:s.heap.get? e=some oe) (hd:oe.data=.fields vs) (h1:1<vs.size) (h2:vs[2]? = some .none) (h0:vs[0]? = some a0)
  (k:∀h' T',Lft s.heap h' [e] (frs (env::outer))->qdq h' e T' oe.cls->s.heap.get? T'=none->Q () {s with heap:=h' }) :
  wpAny M A (do let a <-frameOf env;let pl <-entryPlaceOf L had;let b <-ydi head a .none (ybI L) .none pl;setField (.ref e) 1 b) (λ_ s'=>wpAny M A (ydy (.ref e) none) Q E s') E s:=by
 refine qjA hfr hl hf he hd h1 λh' T nT ne kp sl ee eT _=>?_
 obtain⟨oT,ts,gT,dT,sT⟩:=eT
 have dd:=ybK hd (·.setIfInBounds 1 (yaj T))
 refine qfU (s:={s with heap:=h' }) ee dd (by simp[h1]) gT dT sT ?_
 obtain⟨o2,t2,q1,q2,q3⟩:=qbe gT dT sT
 have nf:∀b o,s.heap.get? b=some o->b≠T:=λb o q z=>by rw[z,nT]at q;cases q
 refine k _ T ⟨λb o hb hf q=>(jn (nf b o q)).trans (kp b o (by simpa using hb) hf q),λb o hb q=>?_⟩ ⟨_,_,o2,t2,a0,(jn (ybk ne)).trans ee,⟨yfC _ _,?_,?_⟩,dd,by simp[h1],ne,q1,q2,q3⟩ nT
 ·obtain⟨sl,q'⟩:=sl b o hb q
  exact⟨sl,(jn (nf b o q)).trans q'⟩
 ·rw[Array.getElem?_setIfInBounds_ne (by decide)];exact h2
 ·rw[Array.getElem?_setIfInBounds_ne (by decide)];exact h0
theorem qem {base:Heap} {env:yaU} {outer:List yaU} {L e T:Addr} {cls:Value} {Q:Unit->yab->Prop} (hfr:A.frames=some (env::outer)) (hl:s.heap.FunFrames base (env::outer)) (hf:env.frame=some L) (F:qdq s.heap e T cls)
  (k:∀h' T',Lft s.heap h' [e,T] (frs (env::outer))->qdq h' e T' cls->(T'=T\/s.heap.get? T'=none)->Q () {s with heap:=h' }) :
  wpAny M A (yee (.ref e) env) (λ_ sK=>wpAny M A (ydy (.ref e) none) Q E sK) E s:=by
 obtain⟨oe,vs,oT,ts,a0,he,⟨hc,h2,h0⟩,hd,h1,hne,hT,hdT,h3⟩:=F
 subst hc
 have z3:3<ts.size:=(Array.getElem?_eq_some_iff.mp h3).1
 have z1:1<vs.size:=(Array.getElem?_eq_some_iff.mp h1).1
 have tT:(yaj T != yaA)=true:=by simp
 have tL:¬((yaA==ybI L)=true):=by simp[ybI]
 have nf:=qlY hl hT hdT
 unfold yee
 simp only[hf]
 refine yaa (yaC he hd h1 ?_)
 rw[if_pos tT]
 refine yaa (yaC hT hdT h3 ?_)
 rw[if_neg tL]
 refine yaa (ycG hT hdT z3 ?_)
 have hl1:(s.heap.update T qbd).FunFrames base (env::outer):=hl.of_keeps λb o q hn=>⟨o,(jn λz=>by subst z;rw[hT]at q;cases q;exact hn ts hdT).trans q,rfl⟩
 refine qfV (s:={s with heap:=s.heap.update T qbd}) hfr hl1 hf ((jn (ybk hne)).trans he) hd z1 h2 h0 λh' T' x y z=>?_
 refine k h' T' ⟨λb o hb hf q=>?_,λb o hb q=>?_⟩ y (.inr ?_)
 ·simp only[yav,nN_,or_false,not_or]at hb
  exact x.keep b o (by simpa using hb.1) hf ((jn hb.2).trans q)
 ·exact x.slot b o hb ((jn λ(z:b=T)=>nf (z▸hb)).trans q)
 ·by_cases e2:T'=T
  ·subst e2
   obtain⟨_,_,q,_⟩:=qbe hT hdT z3
   have z':(s.heap.update T' qbd).get? T'=none:=z
   rw[q]at z';cases z'
  ·exact(jn e2).symm.trans z
theorem qgG {base:Heap} {env:yaU} {outer:List yaU} {L e T:Addr} {cls:Value} {Q:Unit->yab->Prop} (hfr:A.frames=some (env::outer)) (hl:s.heap.FunFrames base (env::outer)) (hf:env.frame=some L) (F:qdq s.heap e T cls)
  (k:∀h' T',Lft s.heap h' [e,T] (frs (env::outer))->qdq h' e T' cls->(T'=T\/s.heap.get? T'=none)->Q () {s with heap:=h' }):wpAny M A (ydl env (.ref e)) Q E s:=by
 unfold ydl
 exact yaa (qem hfr hl hf F k)
theorem qgH {base h:Heap} {env:yaU} {outer:List yaU} {L e:Addr} {cls:Value} {args:List Value} {Q:Unit->yab->Prop} (hfr:A.frames=some (env::outer)) (hl:h.FunFrames base (env::outer)) (hf:env.frame=some L) (hx:yey h s.heap e cls args)
  (k:∀h' T',Lft s.heap h' [e] (frs (env::outer))->qdq h' e T' cls->s.heap.get? T'=none->Q () {s with heap:=h' }):wpAny M A (ydl env (.ref e)) Q E s:=by
 obtain⟨t,he,htn,ht⟩:=hx.there
 have hl1:s.heap.FunFrames base (env::outer):=hl.of_keeps λb o q _=>⟨o,hx.keeps b o q,rfl⟩
 unfold ydl yee
 simp only[hf]
 refine yaa (yaa (yaC he rfl (x:=.none) rfl ?_))
 rw[if_neg (by decide)]
 exact qfV hfr hl1 hf he rfl (of_decide_eq_true rfl) rfl rfl k
theorem qgI {base:Heap} {l:List yaU} {e T:Addr} {cls:Value} {Q:Unit->yab->Prop} (hl:s.heap.FunFrames base l) (F:qdq s.heap e T cls)
  (k:∀h' T',Lft s.heap h' [e,T] (frs l)->qdq h' e T' cls->(T'=T\/s.heap.get? T'=none)->Q () {s with heap:=h' }) :
  wpAny M A (ydy (.ref e) none) Q E s:=by
 obtain⟨oe,vs,oT,ts,a0,he,hc,hd,h1,hne,hT,hdT,h3⟩:=F
 have z3:3<ts.size:=(Array.getElem?_eq_some_iff.mp h3).1
 have nf:=qlY hl hT hdT
 refine qfU he hd h1 hT hdT z3 ?_
 obtain⟨o2,t2,q1,q2,q3⟩:=qbe hT hdT z3
 refine k _ T ⟨λb o hb _ q=>?_,λb o hb q=>⟨o.slots,(jn λ(z:b=T)=>nf (z▸hb)).trans q⟩⟩ ⟨oe,vs,o2,t2,a0,(jn (ybk hne)).trans he,hc,hd,h1,hne,q1,q2,q3⟩ (.inl rfl)
 simp only[yav,nN_,or_false,not_or]at hb
 exact(jn hb.2).trans q
end
theorem qkB {P:yar} {w:World} {H:Hp} {h h':Heap} (x:HOk P w H h) (k:∀b o,(H b).isSome=true->h.get? b=some o->h'.get? b=some o):HOk P w H h':=λa o e=>
 (x a o e).stay (λb u hb q=>k b u (by
   rcases hb with rfl|hb;· rw[e];rfl
   ·rw[hb];rfl) q) (λ_ z=>z) λ_ _ z=>z
theorem vZ {P:yar} {w:World} {H:Hp} {h:Heap} {a:Addr} {o:HO} (x:uB P w H h a o):∃u,h.get? a=some u:=by
 cases o with
 |lst xs=>obtain⟨_,_,_,_,e⟩:=x;exact⟨_,e⟩
 |tup xs=>obtain⟨_,_,_,ob,e,_⟩:=x;exact⟨_,e⟩
 |dK kvs=>obtain⟨_,_,_,_,o,_,_,e,_⟩:=x;exact⟨_,e⟩
 |dT kvs=>obtain⟨_,_,_,_,o,_,_,e,_⟩:=x;exact⟨_,e⟩
 |set S n=>obtain⟨o,_,_,_,e,_⟩:=x;exact⟨_,e⟩
 |ins C dx fs=>obtain⟨_,_,_,e,_⟩:=x;exact⟨_,e⟩
 |own y=>obtain⟨_,e⟩:=x;exact⟨_,e⟩
 |xd fs=>obtain⟨_,⟨_,_,_,e,_⟩,_⟩:=x;exact⟨_,e⟩
 |rng lo hi=>obtain⟨_,_,_,e⟩:=x;exact⟨_,e⟩
 |frz ob u=>obtain⟨e,_⟩:=x;exact⟨_,e⟩
 |tbl ps=>exact⟨_,(show h.get? a=some _ from x)⟩
 |met f y=>exact⟨_,(show h.get? a=some _ from x)⟩
 |ext φ=>obtain⟨_,e,_⟩:=x;exact e
 |lam pos q=>rcases x with e|⟨_,_,_,_,_,_,_,e⟩<;>exact⟨_,e⟩
section
variable{X:Cx}{pins:List (Addr×Obj)}{σ:St}{H:Hp}{s:yab}
theorem qfW {H':Hp} {s':yab} {h':Heap} {ch:List Addr} (I:Inv X pins σ H s) (hs:X.stack=X.env::X.outer) (hf:X.env.frame=some X.env.locals) (hex:X.ex=[])
  (u:Un (frs X.stack) [] H H' s.heap s'.heap) (hok:HOk X.prog X.w H' s'.heap) (hch:∀b∈ch,H' b=none) (hchn:∀b∈ch,s.heap.get? b=none) (x:Lft s'.heap h' ch (frs X.stack)) :
  Un (frs X.outer) [] X.H₀ H' X.s₀.heap h'/\HOk X.prog X.w H' h':=by
 have hfs:frs X.stack=X.env.locals::frs X.outer:=by rw[hs];unfold frs;rw[ybe,hf]
 have hb:=I.base
 rw[hex]at hb
 have nL:∀b o,X.s₀.heap.get? b=some o->b≠X.env.locals:=λb o q z=>absurd (yaw (yam q) (z▸I.ok.above)) (ybC _)
 have nch:∀b o,X.s₀.heap.get? b=some o->b ∉ ch:=λb o q z=>by
  obtain⟨o',q'⟩:=hb.there b o q (by simp)
  rw[hchn b z]at q';cases q'
 have nfs:∀b o,X.s₀.heap.get? b=some o->b ∉ frs X.outer->b ∉ frs X.stack:=λb o q z y=>by
  rw[hfs]at y
  exact(List.mem_cons.mp y).elim (nL b o q) z
 have yfs:∀b,b∈frs X.outer->b∈frs X.stack:=λb z=>by rw[hfs];exact mM _ z
 refine⟨⟨λb o q n hb1 _=>?_,λb o q n hb1 _=>?_,λb o q n _=>?_,λb o q _=>?_,λb xs q=>u.tups b xs (hb.tups b xs q),λb o v q=>u.frzs b o v (hb.frzs b o v q),λb ps y q=>u.tbls b ps y (hb.tbls b ps y q)⟩,?_⟩
 ·exact x.keep b o (nch b o q) (nfs b o q hb1) (u.keep b o (hb.keep b o q n hb1 (by simp)) (hb.free b o q n (by simp)) (nfs b o q hb1) (by simp))
 ·obtain⟨sl,q1⟩:=hb.slot b o q n hb1 (by simp)
  obtain⟨sl2,q2⟩:=u.slot b _ q1 (hb.free b o q n (by simp)) (yfs b hb1) (by simp)
  obtain⟨sl3,q3⟩:=x.slot b _ (yfs b hb1) q2
  exact⟨sl3,q3⟩
 ·obtain⟨o',q'⟩:=hb.there b o q (by simp)
  exact u.free b o' q' (hb.free b o q n (by simp)) (by simp)
 ·obtain ⟨o1,q1⟩:=hb.there b o q (by simp)
  obtain⟨o2,q2⟩:=u.there b o1 q1 (by simp)
  by_cases hb1:b∈frs X.stack
  ·obtain⟨sl,q3⟩:=x.slot b o2 hb1 q2
   exact⟨_,q3⟩
  ·exact⟨o2,x.keep b o2 (nch b o q) hb1 q2⟩
 ·refine qkB hok λb o hb1 q=>x.keep b o (λz=>?_) (λz=>?_) q
  ·rw[hch b z]at hb1;cases hb1
  ·obtain⟨_,o1,ho1,_⟩:=I.stack.mem z
   rw[u.free b o1 ho1 (I.stkFree b z) (by simp)]at hb1
   cases hb1
theorem qlZ {s':yab} {E:XK} {u:Value} {A:yas} (I:Inv X pins σ H s) (hs:X.stack=X.env::X.outer) (hf:X.env.frame=some X.env.locals) (hex:X.ex=[]) (hA:A.frames=some X.stack) (x:CX1 X.prog X.w X.stack H s E u s') {E':Value->yab->Prop} :
  wpAny (model X.prog X.w) A (ydl X.env u) (λ_ s''=>CX1 X.prog X.w X.outer X.H₀ X.s₀ E u s'') E' s':=by
 obtain⟨e,T,C,H',rfl,os,bare,un,hok,he,hT,hHe,hHT,F,q⟩:=x
 have hl:s'.heap.FunFrames X.base X.stack:=by
  have h0:=I.stack
  have all:∀(l:List yaU),(∀b∈frs l,b∈frs X.stack)->s.heap.FunFrames X.base l->s'.heap.FunFrames X.base l:=by
   intro l
   induction l with
   |nil=>intro _ _;trivial
   |cons env r ih=>
    intro hss hl
    obtain⟨hk,⟨L,o,hf',hn,ho,hd⟩,hr⟩:=hl
    have hfr:frs (env::r)=L::frs r:=by unfold frs;rw[ybe,hf']
    rw[hfr]at hss
    have hL:=hss L mS_
    obtain⟨sl,e⟩:=un.slot L o ho (I.stkFree L hL) hL (by simp)
    exact⟨hk,⟨L,_,hf',hn,e,hd⟩,ih (λb hb=>hss b (mM _ hb)) hr⟩
  exact all X.stack (λ_ z=>z) h0
 rw[hs]at hl hA
 refine qgG hA hl hf F λh' T' y1 y2 y3=>?_
 rw[<-hs]at y1
 have hz:∀b∈[e,T],H' b=none:=λb hb=>by
  simp only[yav,nN_,or_false]at hb
  rcases hb with rfl|rfl
  ·exact hHe
  ·exact hHT
 have hzn:∀b∈[e,T],s.heap.get? b=none:=λb hb=>by
  simp only[yav,nN_,or_false]at hb
  rcases hb with rfl|rfl
  ·exact he
  ·exact hT
 obtain⟨z1,z2⟩:=qfW I hs hf hex un hok hz hzn y1
 have up:∀b,s.heap.get? b=none->X.s₀.heap.get? b=none:=λb hb=>by
  cases q:X.s₀.heap.get? b with
  |none=>rfl
  |some o=>
   obtain⟨o',q'⟩:=I.base.there b o q (by rw[hex];simp)
   rw[hb]at q';cases q'
 have up':∀b,s'.heap.get? b=none->s.heap.get? b=none:=λb hb=>by
  cases q:s.heap.get? b with
  |none=>rfl
  |some o=>
   obtain⟨o',q'⟩:=un.there b o q (by simp)
   rw[hb]at q';cases q'
 have hT2:s.heap.get? T'=none:=y3.elim (λz=>z▸hT) (up' T')
 have hHT2:H' T'=none:=y3.elim (λz=>z▸hHT) λz=>by
  cases q:H' T' with
  |none=>rfl
  |some o=>
   obtain⟨o',q'⟩:=vZ (hok _ _ q)
   rw[z]at q';cases q'
 exact⟨e,T',C,H',rfl,os.trans I.os,bare,z1,z2,up e he,up T' hT2,hHe,hHT2,y2,q⟩
end
structure XC (base:Heap) (C:Addr) (bm:List Value):Prop where
 hasBase:bm.contains (.type "BaseException")=true
 ex:∃nm q N bs hdct sn sub ab col dd k0 k1 k2 k3 k5 newId initId B bmB mN,base.get? C=some (yfO nm q C N bs bm hdct sn sub ab col dd k0 k1 k2 k3 k5 newId)/\base.Ns N mN/\mN "__init__"=none/\OwnTail base bmB bm/\ExcBaseFacts B newId initId bmB
def qcJ (n p:Nat) (body:MS) (ds:List D):R D:=if ds.length=p then match body (uv n ds) with
 |.ok (.rt d _) => .ok d
 |.ok (.nx _) => .ok .non
 |.exc x Z => .exc x Z
 |_ => .bad else .bad
section
variable{X:Cx}{c:Fc}{e:Expr}{es:List Expr}{pos cpos np:Pos}
theorem qjB {x:Str} {C:Addr} {bm:List Value} {t:TA} {E:XK} (hc:X.calm=true) (hg:Gl X x) (hm:X.mg x=some (.ref C)) (xc:XC X.base C bm) (ha:PA X (e::es) t)
  (made:∀pins σ H s h' a us,Inv X pins σ H s->yey s.heap h' a (.ref C) us->E (.ref C) none H->X.xe (.ref a) {s with heap:=h' })
  (hd:(x==("__debug__":Str))=false:=by decide) (he:yah (e::es) X.env=(false,eval e X.env)::yah es X.env:=by rfl) (hpl:(yaR cpos (yah es X.env)).any (·.1)=false:=by rfl) :
  PS X (.Raise (some (.Call (.Name x np) (e::es) [] cpos)) none pos) (λ_ σ H=>t σ H λvs H1=>vs.length<=yaq/\E (.ref C) none H1):=by
 intro pins s σ H D I h
 obtain⟨nm,q,N,bs,hdct,sn,sub,ab,col,dd,k0,k1,k2,k3,k5,newId,initId,B,bmB,mN,hC,hN,hni,T,FB⟩:=xc.ex
 refine wpAny_Raise_call_subT (C:=C) (nm:=nm) (q:=q) (N:=N) (bs:=bs) (bm:=bm) (hdct:=hdct) (sn:=sn) (sub:=sub) (ab:=ab) (col:=col) (dd:=dd) (k0:=k0) (k1:=k1) (k2:=k2) (k3:=k3) (k5:=k5)
  FB (mN:=mN) xc.hasBase (I.ok.hd hc) (by rw[he];show(false||(yaR cpos (yah es X.env)).any (·.1))=false;rw[hpl];rfl) hni ?_
 have hn:PE X (.Name x np) (λ_ H Q=>Q (.ref C) H):=qeP hg hm rfl hd
 refine thn (hn pins s σ H (λv H1=>v=.ref C/\H1=H) I ⟨rfl,rfl⟩) λf s1 h1=>?_
 obtain⟨v,H1,I1,rv,rfl,rfl⟩:=h1
 refine⟨rv,?_⟩
 have h2:=ha cpos pins s1 σ _ _ I1 h
 rw[he]at h2 |-
 refine yeI (thn h2 λvs s2 h3=>?_)
 obtain⟨ws,H2,I2,r2,hl,hE⟩:=h3
 refine⟨rfl,by rw[<-r2.length];exact hl,I2.bk _ _ hC,hN.keeps I2.bk,T.keeps I2.bk,λh' a hx=>made pins σ H2 s2 h' a vs I2 hx hE⟩
structure XL (X:Cx) (c:Fc) (cl:Str->Option Addr) (E:XK):Prop where
 made:∀C pins σ H s h' a us,Inv X pins σ H s->yey s.heap h' a (.ref C) us->E (.ref C) none H->X.xe (.ref a) {s with heap:=h' }
 pass:qbY (CX1 X.prog X.w) X E
 wish:∀x C H',cl x.cls=some C->c.E x H'->E (.ref C) none H'
structure XL2 (X:Cx) (c:Fc) (cl:Str->Option Addr) (E:XK):Prop where
 pass:qbY (CX1 X.prog X.w) X E
 wish:∀x C H',cl x.cls=some C->c.E x H'->E (.ref C) none H'
theorem XL.two{X:Cx}{c:Fc}{cl:Str->Option Addr}{E:XK}(L:XL X c cl E):XL2 X c cl E:=⟨L.pass,L.wish⟩
def qck (x:Str) (f:M (List D)):MS:=λZ=>match f Z with
 |.ok (ds,Z')=>if zx ds.length then .exc ⟨x,.non⟩ Z' else .bad
 |.exc z Z' => .exc z Z'
 |.bad => .bad
theorem qbR {x:Str} {C:Addr} {bm:List Value} {f:M (List D)} {E:XK} {cl:Str->Option Addr} (hc:X.calm=true) (L:XL X c cl E) (hcl:cl x=some C) (hg:Gl X x) (hm:X.mg x=some (.ref C)) (xc:XC X.base C bm) (ha:DA X c (e::es) f)
  (hd:(x==("__debug__":Str))=false:=by decide) (he:yah (e::es) X.env=(false,eval e X.env)::yah es X.env:=by rfl) (hpl:(yaR cpos (yah es X.env)).any (·.1)=false:=by rfl) :
  DS X c (.Raise (some (.Call (.Name x np) (e::es) [] cpos)) none pos) (qck x f):=by
 obtain⟨t,pa,w⟩:=ha
 refine⟨_,qjB (E:=E) hc hg hm xc pa (L.made C) hd he hpl,λZ σ H D r h=>w Z σ H _ r ?_⟩
 unfold qck at h
 cases ef:f Z with
 |bad=>rw[ef]at h;exact h
 |exc z Z'=>rw[ef]at h;exact λH' r' g'=>h σ H' r' g'.s
 | ok p=>
  obtain⟨ds,Z'⟩:=p
  rw[ef]at h
  intro vs H' r' i' g'
  by_cases hs:zx ds.length=true
  ·simp only[hs,if_true]at h
   exact⟨by rw[i'.length];exact of_decide_eq_true hs,L.wish ⟨x,.non⟩ C H' hcl (h σ H' r' g'.s)⟩
  ·simp only[hs]at h
   exact h.elim
def spX (K:Fr0) (cl:Str->Option Addr) (F:List D->R D):Sp:=λvs H Q E=>∃ds A,IsL K A H ds vs/\qd5 K H/\match F ds with
 |.ok d=>∀v H',yn H H'->Is K (λa=>A a\/H a=none) H' d v->Q v H'
 |.exc x _=>∃C,cl x.cls=some C/\∀H',yn H H'->E (.ref C) none H'
 |.bad=>False
def wP (RN:List Str) (F:List D->R D) (g:M (List D)):M D:=bnd g λds Z=>match F ds with
 |.ok d => .ok (d,Z)
 |.exc x _=>if RN.contains x.cls then .exc x Z else .bad
 |.bad => .bad
theorem qjC {k:Nat} {f:Addr} {fd:yaP} {ps:List Str} {F:List D->R D} {x:Str} {p:Pos} {g:M (List D)} {E:XK} {cl:Str->Option Addr} (L:XL2 X c cl E) {RN:List Str} (hcl:∀n,RN.contains n=true->(cl n).isSome=true)
  (G:vV X.prog X.w X.K X.mg X.base (CX1 X.prog X.w) k f fd ps (spX X.K cl F)) (hr:vy k X.A) (hg:Gl X x) (hm:X.mg x=some (.ref f)) (hk:yae X.K (.ref f)=true) (hb:wE X.K fd ps [])
  (ha:DA X c (e::es) g) (hd:(x==("__debug__":Str))=false:=by decide) (he:yah (e::es) X.env=(false,eval e X.env)::yah es X.env:=by rfl) (hpl:(yaR pos (yah es X.env)).any (·.1)=false:=by rfl):DE X c (.Call (.Name x p) (e::es) [] pos) (wP RN F g):=by
 obtain⟨t,pa,w⟩:=ha
 refine⟨_,qbZ G hr hg hm hk hb .nil L.pass pa hd he hpl,λZ σ H Q r h=>w Z σ H _ r (WpL.bnd h λds Z1 vs H1 r1 i1 g1 h1=>?_)⟩
 rw[ybh]
 refine⟨ds,Cn c σ,i1,r1.tb,?_⟩
 cases ef:F ds with
 |bad=>simp only[ef]at h1;exact h1.elim
 |exc z Z'=>
  simp only[ef]at h1
  by_cases hz:RN.contains z.cls=true
  case neg=>rw[if_neg hz]at h1;exact h1.elim
  rw[if_pos hz]at h1
  obtain⟨C,hC⟩:=Option.isSome_iff_exists.mp (hcl z.cls hz)
  exact⟨C,hC,λH' sm=>L.wish z C H' hC (h1 H' (r1.same sm) (.of_same sm))⟩
 |ok d=>
  simp only[ef]at h1
  exact λv H' sm i=>h1 v H' (r1.same sm) (Is.ext Ext.refl (λa ha _=>ha.elim id r1.new) i) (.of_same sm)
def vd (F:List D->R D) (g:M (List D)):M D:=bnd g λds Z=>match F ds with
 |.ok d => .ok (d,Z)
 |_ => .bad
theorem qjD {k:Nat} {f:Addr} {fd:yaP} {ps:List Str} {F:List D->R D} {x:Str} {p:Pos} {g:M (List D)} {cl:Str->Option Addr}
  (G:vV X.prog X.w X.K X.mg X.base (CX1 X.prog X.w) k f fd ps (spX X.K cl F)) (hr:vy k X.A) (hg:Gl X x) (hm:X.mg x=some (.ref f)) (hk:yae X.K (.ref f)=true) (hb:wE X.K fd ps [])
  (ha:DA X c (e::es) g) (hd:(x==("__debug__":Str))=false:=by decide) (he:yah (e::es) X.env=(false,eval e X.env)::yah es X.env:=by rfl) (hpl:(yaR pos (yah es X.env)).any (·.1)=false:=by rfl):DE X c (.Call (.Name x p) (e::es) [] pos) (vd F g):=by
 obtain⟨t,pa,w⟩:=ha
 refine⟨_,qbZ (E:=λ_ _ _=>False) G hr hg hm hk hb .nil (λ_ _ _ _ _ _ _ ⟨_,_,_,_,_,_,_,_,_,_,_,_,_,_,z⟩=>z.elim) pa hd he hpl,λZ σ H Q r h=>w Z σ H _ r (WpL.bnd h λds Z1 vs H1 r1 i1 g1 h1=>?_)⟩
 rw[ybh]
 refine⟨ds,Cn c σ,i1,r1.tb,?_⟩
 cases ef:F ds with
 |bad=>simp only[ef]at h1;exact h1.elim
 |exc z Z'=>simp only[ef]at h1;exact h1.elim
 |ok d=>
  simp only[ef]at h1
  exact λv H' sm i=>h1 v H' (r1.same sm) (Is.ext Ext.refl (λa ha _=>ha.elim id r1.new) i) (.of_same sm)
end
section
variable{P:yar}{w:World}{K:yan}{mg:Str->Option Value}{base:Heap}
theorem qcV {N:List Str} {qual:Str} {scope:Scope} {f:Addr} {cdv:Value} {A:yas} {outer:List yaU} {s:yab} {H:Hp} {E:XK} {c:Fc} {cl:Str->Option Addr} (hf:(ybi qual scope s.heap.objs.size f cdv).frame=some s.heap.objs.size)
  (hw:∀x C H',cl x.cls=some C->c.E x H'->E (.ref C) none H'):XL (qiT (CX1 P w) P w K mg base N qual scope f cdv A outer s H E) c cl E where
 made:=λC pins σ H1 s1 h' a us I hx hE=>by
  show wpAny (model P w) _ (ydl _ (.ref a)) _ _ _
  refine qgH (s:={s1 with heap:=h' }) (h:=s1.heap) (base:=base) I.ok.frames I.stack hf hx λh2 T' y1 y2 y3=>?_
  have hn:H1 a=none:=by
   cases q:H1 a with
   |none=>rfl
   |some o=>
    obtain⟨o',q'⟩:=vZ (I.hok _ _ q)
    rw[hx.new]at q';cases q'
  have hT:s1.heap.get? T'=none:=by
   cases q:s1.heap.get? T' with
   |none=>rfl
   |some o=>rw[show({s1 with heap:=h' }:yab).heap.get? T'=some o from hx.keeps _ _ q]at y3;cases y3
  have hHT:H1 T'=none:=by
   cases q:H1 T' with
   |none=>rfl
   |some o=>
    obtain⟨o',q'⟩:=vZ (I.hok _ _ q)
    rw[hT]at q';cases q'
  have up:∀b,s1.heap.get? b=none->s.heap.get? b=none:=λb hb=>by
   cases q:s.heap.get? b with
   |none=>rfl
   |some o=>
    obtain⟨o',q'⟩:=I.base.there b o q (by show b ∉ ([]:List Addr);simp)
    rw[hb]at q';cases q'
  obtain⟨z1,z2⟩:=qfW (s':={s1 with heap:=h' }) I rfl hf rfl (Un.kept hx.keeps) (I.hok.kept hx.keeps) (λb hb=>by rw[ms_]at hb;subst hb;exact hn) (λb hb=>by rw[ms_]at hb;subst hb;exact hx.new) y1
  exact⟨a,T',C,H1,rfl,I.os,I.bare,z1,z2,up a hx.new,up T' hT,hn,hHT,y2,hE⟩
 pass:=λpins σ H1 s1 u s' I x=>qlZ I rfl hf rfl I.ok.frames x
 wish:=hw
theorem qcW {x qual:Str} {st:Stmt} {f:Addr} {fd:yaP} {N ps:List Str} {k:Nat} {O:List Nat} {body:MS} {cl:Str->Option Addr} (F:Fun K x qual st f fd) (S:qv N ps (qe st)) (hO:∀i∈O,ps.length<=i)
  (hb:∀(cdv:Value)(A:yas)(outer:List yaU)(s:yab)(H:Hp)(E:XK)(B:Addr->Prop),vy k (A.deeper (ybi qual (qe st) s.heap.objs.size f cdv)) ->
   DSs (qiT (CX1 P w) P w K mg base N qual (qe st) f cdv A outer s H E) (cfn O [] B H (λ_=>False) (λx H'=>∀C,cl x.cls=some C->E (.ref C) none H') λ_=>none) (qu st) body) :
  vV P w K mg base (CX1 P w) (k+1) f fd ps (spX K cl (qcJ N.length ps.length body)):=by
 obtain⟨oc,od,kV,doc,pm,an,cdv,ct,osl,rfl,lk,hcd⟩:=F.ex
 refine qnj lk hcd S (λvs H Q E h=>?_) λA outer s H vs Q E hr h=>?_
 ·obtain⟨ds,B,il,_,h⟩:=h
  unfold qcJ at h
  by_cases e:ds.length=ps.length
  ·rw[il.length];exact e
  ·rw[if_neg e]at h;exact h.elim
 ·obtain ⟨ds,B,il,tb,h⟩:=h
  obtain⟨t,p,wt⟩:=hb cdv A outer s H E B hr
  refine⟨t,p,?_⟩
  unfold qcJ at h
  by_cases e:ds.length=ps.length
  ·rw [if_pos e]at h
   refine wt (uv N.length ds) (jM N vs) H _ (qce il tb (λi hi=>by rw[e];exact hO i hi)) ?_
   have same:∀{Z:Env}{σ:St}{H':Hp},Rep K (cfn O [] B H (λ_=>False) (λx H'=>∀C,cl x.cls=some C->E (.ref C) none H') λ_=>none) Z σ H'->yn H H':=λr b o hb=>r.kp b o hb λz=>z
   cases eb:body (uv N.length ds) with
   |bad=>rw[eb]at h;exact h.elim
   | exc z Z=>
    rw[eb]at h
    obtain⟨C,hC,h⟩:=h
    exact λσ' H' r' _ C' hC'=>by
     rw[hC]at hC';cases hC'
     exact h H' (same r')
   |ok fl=>
    rw[eb]at h
    cases fl with
    |nx Z=>exact λσ' H' r' _=>h .non H' (same r') rfl
    |rt d Z=>exact λv σ' H' r' i' _=>h v H' (same r') i'
    |bk Z=>exact h.elim
    |ct Z=>exact h.elim
  ·rw[if_neg e]at h;exact h.elim
structure wQ (P:yar) (w:World) (K:yan) (mg:Str->Option Value) (base:Heap) (k:Nat) (x:Str) (ps:List Str) (sp:Sp):Prop where
 ex:∃f fd,vV P w K mg base (CX1 P w) k f fd ps sp/\mg x=some (.ref f)/\yae K (.ref f)=true/\wE K fd ps []
end
section
variable{M:Model}{A:yas}{E:Value->yab->Prop}
variable{nm q nm' q':Str}{C S N N':Addr}{bs bm bs' bm':List Value}{hdct hdct':Bool}{sn sn':List Str}{sub sub':List Value}{ab ab':Bool}{col col':Option Bool}{dd dd':Option Addr}{k0 k1 k2 k3 k5 j0 j1 j2 j3 j5:Option Value}{newId newId':String}
theorem qcK {h:Heap} {g:Array yfP} {d:Drawn} {t:Nat} {os:OsState} {e:Addr} {oe:Obj} {Q:Bool->yab->Prop}
  (hC:h.get? C=some (yfO nm q C N bs bm hdct sn sub ab col dd k0 k1 k2 k3 k5 newId)) (hS:h.get? S=some (yfO nm' q' S N' bs' bm' hdct' sn' sub' ab' col' dd' j0 j1 j2 j3 j5 newId'))
  (he:h.get? e=some oe) (hcls:oe.cls=.ref C) (hbase:bm'.contains (.type "BaseException")=true)
  (hq:Q ((yaj C::bm).contains (.ref S)) ⟨h,g,d,t,os⟩):wpAny M A (excMatches (.ref e) (.ref S)) Q E ⟨h,g,d,t,os⟩:=by
 have hcB:(yaj S::bm').contains (.type "BaseException")=true:=by rw[List.contains_cons,hbase,yfj]
 have f:=tc_notTuple
 unfold excMatches
 repeat (first|(with_reducible refine yfG he ?_;rw[hcls])|with_reducible refine yfG hS ?_|(with_reducible refine yeX hS ?_;rw[hcB])|with_reducible refine yeX hC ?_|wp_step)
 all_goals (first|exact hq|(cases hb:(yaj C::bm).contains (.ref S)<;>(rw[hb]at hq;wp_walk;exact hq)))
end
end L2.Sk
namespace L2
open PySem PySem.Spec PyProof.Rows
def AloneA(A:yas)(H:Hp):Prop:=∃e oe u vs,A.handled=some (.ref e)/\H e=some (.frz oe u)/\oe.data=.fields vs/\vs[2]? = some .none
def qnX(A:yas)(sp:Sp)(dvs:List V)(E:XK)(t:TA):TE:=λσ H Q=>t σ H λvs H1=>AloneA A H1/\sp (vs++dvs) H1 Q E
structure wR (k:Nat) (A:yas):Prop where
 dp:A.depth+3*k+5<ydk
 un:A.units+16*k+200<cLine
 gd:A.guards=some []
theorem wR.mono{j k:Nat}{A:yas}(r:wR k A)(h:j<=k):wR j A:=⟨by have:=r.dp;omega,by have:=r.un;omega,r.gd⟩
theorem wR.deeper {k:Nat} {A:yas} (r:wR (k+1) A) (env:Env):wR k (A.deeper env) :=
 ⟨by have:=r.dp;show A.depth+1+3*k+5<_;omega,by have:=r.un;show A.units+3+16*k+200<_;omega,r.gd⟩
theorem wR.depth{k:Nat}{A:yas}(r:wR k A):A.depth<ydk:=by have:=r.dp;omega
structure qen (P:yar) (w:World) (K:yan) (mg:Str->Option Value) (base:Heap) (CX:CXT) (k:Nat) (f:Addr) (fd:yaP) (ps:List Str) (sp:Sp):Prop where
 len:∀vs H Q E,sp vs H Q E->vs.length=ps.length
 run:∀(A:yas)(outer:List Env)(s:yab)(H:Hp)(args:Args)(us:List Value)(vs:List V)(Q:VK)(E:XK),wR k A->AloneA A H->qmH P w K mg base A outer s H->ydQ s fd args (ps.zip us)->zM vs us->sp vs H Q E ->
  ybW (model P w) A (.call (.ref f) args) (CR CX outer P w H s Q E) s
def qgJ (CX:CXT) (P:yar) (w:World) (K:yan) (mg:Str->Option Value) (base:Heap) (N:List Str) (qual:Str) (scope:Scope) (f:Addr) (cd:Value) (A:yas) (outer:List Env) (s:yab) (H:Hp) (E:XK):Cx where
 prog:=P
 w:=w
 K:=K
 mg:=mg
 base:=base
 A:=A.deeper (ybi qual scope s.heap.objs.size f cd)
 N:=N
 s₀:=s
 H₀:=H
 env:=ybi qual scope s.heap.objs.size f cd
 outer:=outer
 stack:=ybi qual scope s.heap.objs.size f cd::outer
 ex:=[]
 calm:=false
 fn:=λ_=>true
 pn:=[]
 xe:=λe s'=>wpAny (model P w) (A.deeper (ybi qual scope s.heap.objs.size f cd)) (ydl (ybi qual scope s.heap.objs.size f cd) e) (λ_ s''=>CX outer H s E e s'') (λe' s''=>CX outer H s E e' s'') s'
theorem qgK {CX:CXT} {P:yar} {w:World} {K:yan} {mg:Str->Option Value} {base:Heap} {N ps:List Str} {qual:Str} {scope:Scope} {f:Addr} {cd:Value} {A:yas} {outer:List Env} {s s1:yab} {H:Hp} {E:XK} {us:List Value} {vs:List V}
  (S:qv N ps scope) (e0:qmH P w K mg base A outer s H) (hl:vs.length=ps.length) (r:zM vs us)
  (x:InCallC s s.heap.objs.size (bindL (ybi qual scope s.heap.objs.size f cd).kindOf (ps.zip us) λ_=>none) (ydu (s.heap.objs.size+1) scope.names []) (bindC (ybi qual scope s.heap.objs.size f cd).kindOf (ps.zip us) λ_=>none) s1) :
  Inv (qgJ CX P w K mg base N qual scope f cd A outer s H E) [] (jM N vs) H s1:=by
 have hpl:ps.length<=N.length:=by have:=congrArg List.length S.pre;rw[yaT]at this;omega
 obtain⟨h1,tk,rfl,hk⟩:=x.done
 have noA:∀b:Addr,b ∉ (qgJ CX P w K mg base N qual scope f cd A outer s H E).ex:=λb z=>absurd (show b∈([]:List Addr)from z) (by simp)
 refine ⟨⟨e0.mod,S.kind,rfl,rfl,yac _,λy z c h1 h2=>?_,λy hy=>?_,λy c _ h=>?_,(λz=>Bool.noConfusion z),yeF e0.frames,.inr ⟨rfl,rfl⟩,λb z=>absurd z (noA b),e0.bs,e0.bsz,λb _ _=>noA b,λb z=>absurd z (noA b),e0.funs,e0.frf⟩,
  rfl,e0.bare,Un.kept hk,⟨_,x.toInCall.ns,λi y v h1 h2 h3=>?_⟩,λy c h=>⟨_,x.cell y c h⟩,e0.hok.fresh (yac _),λy c h=>?_,λp hp=>absurd (show p∈([]:List (Addr×Obj))from hp) (by simp),e0.hok.kept hk,?_⟩
 ·exact name_of_addr x.apart (yaW h1) (yaW h2)
 ·have hy:scope.names.lookup y=some .cell\/scope.names.lookup y=some .free:=hy
  rcases hy with hy|hy
  ·exact qbO hy
  ·exact absurd rfl (S.nofree _ (yaW hy))
 ·exact ycx (x.above y c (yaW h))
 ·have hi:i<vs.length:=by
   unfold jM at h2
   by_cases hi:i<vs.length
   ·exact hi
   ·rw[List.getElem?_append_right (by simpa using hi)]at h2
    rw[List.getElem?_replicate]at h2
    split at h2<;>cases h2
  have ha:vs[i]? = some v:=by
   unfold jM at h2
   rw[List.getElem?_append_left (by simpa using hi),gM_]at h2
   cases e:vs[i]? with
   |none=>rw[e]at h2;cases h2
   |some a=>rw[e]at h2;cases h2;rfl
  obtain⟨u,hu,rv⟩:=r.get ha
  have hp:ps[i]? = some y:=by
   rw[<-S.pre,List.getElem?_take_of_lt (by omega)];exact h1
  have ndP:ps.Nodup:=by rw[<-S.pre];exact S.nd.sublist (yfz _ _)
  refine⟨u,rv,?_⟩
  rcases S.par y (yby hp)with k|k
  ·exact .inl ⟨k,qb0 ndP hp hu k⟩
  ·obtain⟨c,e⟩:=qbO (n:=s.heap.objs.size+1) k
   refine .inr ⟨.inl k,c,e,?_⟩
   have q:=x.cell y c e
   rw[qb1 ndP hp hu (by show scope.names.lookup y≠_;rw[k];decide)]at q
   exact q
 ·exact e0.hok.fresh (ycx (x.above y c (yaW h)))
 ·unfold jM
  show _=N.length
  rw[lA_,lM_,ybl]
  omega
theorem qnY {CX:CXT} {P:yar} {w:World} {K:yan} {mg:Str->Option Value} {base:Heap} {k:Nat} {f:Addr} {name qual:Str} {params:yec} {body:List Stmt} {scope:Scope} {dV kV doc pm cdv ct oc:Value} {an od:Option Addr}
  {osl:Array (Option Value)} {N ps:List Str} {sp:Sp} (lk:K.lookup f=some ⟨oc,od,.func (yao name qual params body scope dV kV doc pm an cdv ct),osl⟩) (hcd:yak K cdv qual=true) (S:qv N ps scope)
  (len:∀vs H Q E,sp vs H Q E->vs.length=ps.length)
  (hbody:∀(A:yas)(outer:List Env)(s:yab)(H:Hp)(vs:List V)(Q:VK)(E:XK),wR k (A.deeper (ybi qual scope s.heap.objs.size f cdv))->AloneA (A.deeper (ybi qual scope s.heap.objs.size f cdv)) H->sp vs H Q E ->
   ∃t,PSs (qgJ CX P w K mg base N qual scope f cdv A outer s H E) body t/\t {nx:=λ_ H'=>Q .non H',rt:=Q} (jM N vs) H) :
  qen P w K mg base CX (k+1) f (yao name qual params body scope dV kV doc pm an cdv ct) ps sp:=by
 refine⟨len,λA outer s H args us vs Q E hr al e0 hb r hsp=>?_⟩
 have hl:=len _ _ _ _ hsp
 have KX:K.In s.heap:=e0.mod.kin.keeps λb o e=>(e0.bs b o e).1
 have lim:s.heap.NoLimit:=e0.mod.nolimit.keeps λb o e=>(e0.bs b o e).1
 have hkind:∀y∈ps.zip us,scope.names.lookup y.1=some .local\/(scope.names.lookup y.1=some .cell/\((ydu (s.heap.objs.size+1) scope.names []).lookup y.1).isSome=true):=λ⟨n,v⟩ hy=>by
  rcases S.par n (yc6 hy).1 with q|q
  ·exact .inl q
  ·exact .inr ⟨q,ycM _ _ _ (.inl q)⟩
 refine yes hr.depth (KX _ _ lk) rfl S.co S.gen rfl (ye9 KX hcd) (hb _ _ _ _ ?_)
 refine ydE S.kind hkind λenv he s1 x=>?_
 subst he
 refine⟨lim.keeps x.toInCall.keep,codeAny_func ?_⟩
 obtain⟨t,ht,hq⟩:=hbody A outer s H vs Q E (hr.deeper _) al hsp
 have I:Inv (qgJ CX P w K mg base N qual scope f cdv A outer s H E) [] (jM N vs) H s1:=qgK S e0 hl r x
 refine ybf (ht [] s1 (jM N vs) H _ I hq) (λfl s' hs=>?_) λe s' hs=>hs
 have fin:∀{σ':St}{H':Hp}{v:V}{u:Value},Inv (qgJ CX P w K mg base N qual scope f cdv A outer s H E) [] σ' H' s'->yg v u->Q v H'->CE outer P w H s Q u s' :=
  λ{σ' H' v u} J rv q=>⟨v,H',J.os,J.bare,J.base,J.hok,rv,q⟩
 cases fl with
 |ret u=>
  obtain⟨v,σ',H',J,rv,q⟩:=hs
  exact fin J rv q
 |next=>
  obtain⟨σ',H',J,q⟩:=hs
  exact fin (v:=V.non) (u:=yaA) J rfl q
 |brk=>
  obtain⟨_,_,_,q⟩:=hs
  exact ya5 q
 |cont=>
  obtain⟨_,_,_,q⟩:=hs
  exact ya5 q
section
variable{X:Cx}{CX:CXT}{k:Nat}{f C:Addr}{fd:yaP}{ps:List Str}{sp:Sp}{dvs:List V}{ds:List Value}{E:XK}{x m:Str}{p pos apos:Pos}{e o:Expr}{es:List Expr}{ta:TE}{t:TA}
theorem ql0 {pins:List (Addr×Obj)} {σ:St} {H:Hp} {s:yab} {Q:VK} {us:List Value} {vs:List V} (F:qen X.prog X.w X.K X.mg X.base CX k f fd ps sp) (hr:wR k X.A) (hb:wE X.K fd ps ds) (hd:zM dvs ds) (hx:qbY CX X E)
  (I:Inv X pins σ H s) (r:zM vs us) (al:AloneA X.A H) (h:sp (vs++dvs) H Q E):wpAny (model X.prog X.w) X.A (call (.ref f) us) (EP X pins σ Q) X.xe s:=by
 have r2:zM (vs++dvs) (us++ds):=r.append hd
 have hl:(us++ds).length=ps.length:=by rw[<-r2.length];exact F.len _ _ _ _ h
 refine wpAny_call (ydU (F.run X.A X.stack s H ⟨us,[]⟩ (us++ds) (vs++dvs) Q E hr al I.env0 (hb s us I.kIn hl) r2 h) λr s' hq=>?_)
 cases r with
 |error e=>exact hx pins σ H s e s' I hq
 |ok fl=>
  cases fl with
  |ret u=>exact I.after hq
  |next=>exact ya5 hq
  |brk=>exact ya5 hq
  |cont=>exact ya5 hq
theorem qfX (F:qen X.prog X.w X.K X.mg X.base CX k f fd ps sp) (hr:wR k X.A) (hg:Gl X x) (hm:X.mg x=some (.ref f)) (hk:yae X.K (.ref f)=true) (hb:wE X.K fd ps ds) (hd:zM dvs ds) (hx:qbY CX X E)
  (ha:PA X (e::es) t) (hdb:(x==("__debug__":Str))=false:=by decide) (he:yah (e::es) X.env=(false,eval e X.env)::yah es X.env:=by rfl) (hpl:(yaR pos (yah es X.env)).any (·.1)=false:=by rfl) :
  PE X (.Call (.Name x p) (e::es) [] pos) (qnX X.A sp dvs E t):=by
 intro pins s σ H Q I h
 refine ycz (qda I hg hm ?_ hdb)
 refine ye8 (h₀:=X.base) I.ok.mod.kin hk (thn (ha pos pins s σ H _ I h) λus s1 ⟨vs,H1,I1,r,q⟩=>⟨I1.kIn,?_⟩) he hpl
 exact ql0 F hr hb hd hx I1 r q.1 q.2
end
end L2
namespace L2.Sk
open PySem PySem.Spec PyProof.Rows
def isT (b:Bool):Value->Bool
 |.bool a=>a==b
 |_=>false
theorem qbf:∀{bs:List Bool}{us:List Value},zM (bs.map V.bl) us->us=bs.map yaQ
 | [],_,r=>by rw[yca]at r;cases r;rfl
 | b::bs,_,r=>by
  rw[mC_]at r
  cases r with
  |cons r1 r2=>
   have e:_=yaQ b:=r1
   rw[e,qbf r2];rfl
theorem qcX (b:Bool):∀bs:List Bool,List.countP (isT b) (bs.map yaQ)=bs.countP (·==b)
 | []=>rfl
 |a::bs=>by simp[yce,qcX b bs,isT]
def qkC:V->List V->Hp->VK->Prop:=λx vs H Q=>∃(l:Addr)(bs:List Bool)(b:Bool),x=.ref l/\vs=[.bl b]/\H l=some (.lst (bs.map V.bl))/\Q (.int (bs.countP (·==b))) H
def qkD:V->List V->Hp->VK->Prop:=λx vs H Q=>∃(l:Addr)(bs:List Bool)(b:Bool)(j:Nat),x=.ref l/\vs=[.bl b]/\H l=some (.lst (bs.map V.bl))/\bs.findIdx? (·==b)=some j/\Q (.int j) H
section
variable{X:Cx}
theorem qjE:MtR X "list.count" qkC:=by
 intro pins s σ H x vs v us Q I rx rv h
 obtain⟨l,bs,b,rfl,rfl,hH,q⟩:=h
 cases rx
 obtain⟨u,rfl,ru⟩:=zM.one rv
 have ru':u=yaQ b:=ru
 subst ru'
 obtain⟨z,its,n,r,hl,e⟩:=I.lstM hH
 have hi:=qbf r
 subst hi
 refine ybU yfH ⟨_,e,rfl⟩ yfk (yeY _ _) (yfl l (bs.map yaQ).toArray n none #[] (.bool b) (isT b)) ⟨e,λy hy=>?_,?_⟩
 ·have hy':y∈bs.map yaQ:=by simpa using hy
  obtain⟨a,_,rfl⟩:=mP_.mp hy'
  exact yc8 a b
 ·refine⟨.int _,H,I.tok _,⟨s.toks,?_⟩,q⟩
  show ybB _ _=ybB _ _
  rw[yeZ,qcX]
theorem qjF:MtR X "list.index" qkD:=by
 intro pins s σ H x vs v us Q I rx rv h
 obtain⟨l,bs,b,j,rfl,rfl,hH,hj,q⟩:=h
 cases rx
 obtain⟨u,rfl,ru⟩:=zM.one rv
 have ru':u=yaQ b:=ru
 subst ru'
 obtain⟨z,its,n,r,hl,e⟩:=I.lstM hH
 have hi:=qbf r
 subst hi
 rw[List.findIdx?_eq_some_iff_getElem]at hj
 obtain⟨h1,h2,h3⟩:=hj
 have hz:bs.length<=yaq:=by simpa using z
 rw[ybH]at hz
 refine ybU F.slot_list_index ⟨_,e,rfl⟩ F.entry_list_index (F.args_list_index_2 _ _) (yfm l (bs.map yaQ).toArray n none #[] (.bool b) (isT b) j (by simpa using h1) (by omega) ?_ ?_) ⟨e,λy hy=>?_,?_⟩
 ·simpa [isT] using h2
 ·intro m hm hmj
  have:=h3 m hmj
  simpa [isT] using this
 ·have hy':y∈bs.map yaQ:=by simpa using hy
  obtain⟨a,_,rfl⟩:=mP_.mp hy'
  exact yc8 a b
 ·exact⟨.int _,H,I.tok _,⟨s.toks,rfl⟩,q⟩
end
def qeo (x:D) (ys:List D):OD:=match x,ys with
 |.lst ds,[.bl b]=>(wz ds).map λbs => .int (bs.countP (·==b))
 |_,_=>none
def qep (x:D) (ys:List D):OD:=match x,ys with
 |.lst ds,[.bl b]=>(wz ds).bind λbs=>(bs.findIdx? (·==b)).map λj => .int j
 |_,_=>none
def qdr (F:D->List D->OD) (f:M D) (g:M (List D)):M D:=bnd f λx=>match x with
 |.lst ds=>bnd g λys=>lift (F (.lst ds) ys)
 |_=>λ_ => .bad
def qh7(K:Fr0)(F:D->List D->OD)(r:V->List V->Hp->VK->Prop):Prop:=∀A H x ys d v vs (Q:VK),(∀a,H a=none->A a)->Is K A H x v->IsL K A H ys vs->F x ys=some d->(∀u H',yn H H'->Is K A H' d u->Q u H')->r v vs H Q
theorem qfb {K:Fr0}:qh7 K qeo qkC:=by
 intro A H x ys d v vs Q hn ix iy e k
 unfold qeo at e
 split at e
 ·rename_i ds b
  obtain⟨u,rfl,e2⟩:=IsL.inv1 iy
  cases e2
  obtain⟨a,xs,rfl,_,ta,il⟩:=ix
  cases eb:wz ds with
  |none=>rw[eb]at e;cases e
  |some bs=>
   rw[eb]at e
   cases e
   rw[vY il eb]at ta
   exact⟨a,bs,b,rfl,rfl,ta,k _ H (yn.refl H) rfl⟩
 ·cases e
theorem qfc {K:Fr0}:qh7 K qep qkD:=by
 intro A H x ys d v vs Q hn ix iy e k
 unfold qep at e
 split at e
 ·rename_i ds b
  obtain⟨u,rfl,e2⟩:=IsL.inv1 iy
  cases e2
  obtain⟨a,xs,rfl,_,ta,il⟩:=ix
  cases eb:wz ds with
  |none=>rw[eb]at e;cases e
  | some bs=>
   rw[eb]at e
   cases ej:bs.findIdx? (·==b) with
   |none=>simp only[yd0,ej]at e;cases e
   |some j=>
    simp only[yd0,ej,ydd]at e
    cases e
    rw[vY il eb]at ta
    exact⟨a,bs,b,j,rfl,rfl,ta,ej,k _ H (yn.refl H) rfl⟩
 ·cases e
section
variable{X:Cx}{c:Fc}{o e:Expr}{es:List Expr}{apos cpos:Pos}
theorem qds {id:String} {name:Str} {r:V->List V->Hp->VK->Prop} {F:D->List D->OD} {f:M D} {g:M (List D)} (slot:Slot "list" name id) (hty:typeOf (.builtin id)=pure (.type "method_descriptor")) (hm:MtR X id r) (hF:qh7 X.K F r)
  (ho:DE X c o f) (ha:DA X c (e::es) g)
  (hbase:ycT o name X.env (eval o X.env)=eval o X.env:=by rfl)
  (hfew:((yaR cpos (yah (e::es) X.env)).all (λx => !x.1)&&(yeH cpos (ydq [] X.env)).all (λx=>x.1.isSome)
   && decide ((e::es).length+([]:List ycm).length+(if([]:List ycm).isEmpty then 0 else 1)<30))=true:=by rfl)
  (hline:(apos.endLine==cpos.line)=true:=by rfl) (hs:yah (e::es) X.env=(false,eval e X.env)::yah es X.env:=by rfl) (hplain:(yaR cpos (yah es X.env)).any (·.1)=false:=by rfl) :
  DE X c (.Call (.Attribute o name apos) (e::es) [] cpos) (qdr F f g):=by
 obtain⟨to,po,wo⟩:=ho
 obtain⟨t,pa,wa⟩:=ha
 refine⟨_,qnq yd6 slot hty hm po pa hbase hfew hline hs hplain,λZ σ H Q r0 h=>wo Z σ H _ r0 (Wp.bnd h λx Z1 v H1 r1 i1 g1 h1=>?_)⟩
 cases x with
 |lst ds=>
  obtain⟨a,xs,rfl,ha,hH,il⟩:=i1
  refine⟨.inl ⟨rfl,xs,.inl (.inl hH)⟩,wa Z1 σ H1 _ r1 (WpL.bnd h1 λys Z2 vs H2 r2 i2 g2 h2=>?_)⟩
  obtain⟨d,ed,h3⟩:=h2.lift
  exact hF (Cn c σ) H2 (.lst ds) ys d (.ref a) vs Q (λa ha=>r2.new ha) (g2.is ⟨a,xs,rfl,ha,hH,il⟩) i2 ed λu H' sm i=>h3 u H' (r2.same sm) i (.of_same sm)
 |_=>exact h1.elim
end
def isI (b:Int):Value->Bool
 |.int a _=>a==b
 |_=>false
theorem qkE {b:Int}:∀{ns:List Int}{us:List Value}{i:Nat}{u:Value},zM (ns.map V.int) us->us[i]? = some u->∃n t,ns[i]? = some n/\u=.int n t
 | [],us,i,u,r,h=>by
  rw[yca]at r;cases r;simp at h
 | n :: ns,us,i,u,r,h=>by
  rw[mC_]at r
  cases r with
  | cons r1 r2=>
   obtain⟨t,rfl⟩:=r1
   cases i with
   |zero=>
    have:ybB n t=u:=by simpa using h
    exact⟨n,t,rfl,this.symm⟩
   |succ i=>
    obtain⟨m,t',h1,h2⟩:=qkE (b:=b) (i:=i) r2 (by simpa using h)
    exact⟨m,t',by simpa using h1,h2⟩
theorem qcY (b:Int):∀{ns:List Int}{us:List Value},zM (ns.map V.int) us->us.countP (isI b)=ns.countP (·==b)
 | [],us,r=>by rw[yca]at r;cases r;rfl
 | n::ns,us,r=>by
  rw[mC_]at r
  cases r with
  |cons r1 r2=>
   obtain⟨t,rfl⟩:=r1
   rw[yce,yce,qcY b r2]
   rfl
def qh8:V->List V->Hp->VK->Prop:=λx vs H Q=>∃(l:Addr)(ns:List Int)(b:Int),x=.ref l/\vs=[.int b]/\H l=some (.lst (ns.map V.int))/\Q (.int (ns.countP (·==b))) H
section
variable{X:Cx}
theorem qh9:MtR X "list.count" qh8:=by
 intro pins s σ H x vs v us Q I rx rv h
 obtain⟨l,ns,b,rfl,rfl,hH,q⟩:=h
 cases rx
 obtain⟨u,rfl,ru⟩:=zM.one rv
 obtain⟨t,rfl⟩:=ru
 obtain⟨z,its,n,r,hl,e⟩:=I.lstM hH
 refine ybU yfH ⟨_,e,rfl⟩ yfk (yeY _ _) (yfl l its.toArray n none #[] (.int b t) (isI b)) ⟨e,λy hy=>?_,?_⟩
 ·have hy':y∈its:=by simpa using hy
  obtain⟨i,hi⟩:=List.mem_iff_getElem?.mp hy'
  obtain⟨m,t',_,rfl⟩:=qkE (b:=b) r hi
  exact ydv m t' b t
 ·refine⟨.int _,H,I.tok _,⟨s.toks,?_⟩,q⟩
  show ybB _ _=ybB _ _
  rw[yeZ,qcY b r]
end
def qcZ (x:D) (ys:List D):OD:=match x,ys with
 |.lst ds,[.int b]=>(wH ds).map λns => .int (ns.countP (·==b))
 |_,_=>none
theorem qeq {K:Fr0}:qh7 K qcZ qh8:=by
 intro A H x ys d v vs Q hn ix iy e k
 unfold qcZ at e
 split at e
 ·rename_i ds b
  obtain⟨u,rfl,e2⟩:=IsL.inv1 iy
  cases e2
  obtain⟨a,xs,rfl,_,ta,il⟩:=ix
  cases eb:wH ds with
  |none=>rw[eb]at e;cases e
  |some bs=>
   rw[eb]at e
   cases e
   rw[qa6 il eb]at ta
   exact⟨a,bs,b,rfl,rfl,ta,k _ H (yn.refl H) rfl⟩
 ·cases e
@[reducible] def toX (X:Cx) (xe:Value->yab->Prop) (pn:List (Addr×Obj)):Cx:={X with xe:=xe,pn:=pn}
@[reducible] def hdX (X:Cx) (e:Addr):Cx:={X with A:=X.A.mark (some (.ref e)),calm:=false,xe:=λ_ _=>False}
section
variable{X:Cx}{pins:List (Addr×Obj)}{σ:St}{H:Hp}{s:yab}{xe:Value->yab->Prop}
theorem qnZ (I:Inv X pins σ H s):Inv (toX X xe (X.pn++pins)) [] σ H s :=
 let k:=I.ok
 ⟨⟨k.mod,k.kind,k.glob,k.blt,k.above,k.inj,k.has,k.cab,k.hd,k.frames,k.stk,k.exf,k.bs,k.bsz,k.noex,k.exfs,k.funs,k.frf⟩,I.os,I.bare,I.base,I.loc,I.cell,I.free,I.freeC,
  λp hp=>I.pin p (by rw[ybh]at hp;exact hp),I.hok,I.len⟩
theorem qaQ {pins2:List (Addr×Obj)} (I:Inv (toX X xe (X.pn++pins)) pins2 σ H s):Inv X pins σ H s :=
 let k:=I.ok
 ⟨⟨k.mod,k.kind,k.glob,k.blt,k.above,k.inj,k.has,k.cab,k.hd,k.frames,k.stk,k.exf,k.bs,k.bsz,k.noex,k.exfs,k.funs,k.frf⟩,I.os,I.bare,I.base,I.loc,I.cell,I.free,I.freeC,
  λp hp=>I.pin p (ycd _ hp),I.hok,I.len⟩
theorem qkF (e:Addr) (I:Inv X pins σ H s):Inv (hdX X e) pins σ H s :=
 let k:=I.ok
 ⟨⟨k.mod,k.kind,k.glob,k.blt,k.above,k.inj,k.has,k.cab,λz=>(nomatch z),k.frames,k.stk,k.exf,k.bs,k.bsz,k.noex,k.exfs,k.funs,k.frf⟩,I.os,I.bare,I.base,I.loc,I.cell,I.free,I.freeC,I.pin,I.hok,I.len⟩
theorem qjG {e:Addr} {σ':St} {H':Hp} {s':yab} (k:X.Ok) (I:Inv (hdX X e) pins σ' H' s'):Inv X pins σ' H' s' :=
 ⟨k,I.os,I.bare,I.base,I.loc,I.cell,I.free,I.freeC,I.pin,I.hok,I.len⟩
theorem qgL {h':Heap} {m':Str->Option Value} {tk:Nat} (I:Inv X pins σ H s) (hn:h'.Ns X.env.locals m') (hs:ybX X.env.locals s.heap h') :
  Inv X pins (yat X.N.length none) H {s with heap:=h',toks:=tk}:=by
 obtain⟨m,hn0,_⟩:=id I.loc
 obtain⟨oL,_,_,hoL,_⟩:=id hn0
 have ne:∀b o,X.s₀.heap.get? b=some o->b≠X.env.locals:=λb o q=>yax (yaw (yam q) I.ok.above)
 refine⟨I.ok,I.os,I.bare,⟨λb o e n hb hx=>(hs.2 b (ne b o e)).trans (I.base.keep b o e n hb hx),λb o e n hb hx=>?_,I.base.free,λb o e hx=>?_,I.base.tups,I.base.frzs,I.base.tbls⟩,⟨m',hn,λj y v e1 e2 e3=>?_⟩,λy c e=>?_,I.free,I.freeC,λp hp=>?_,λb ob e=>?_,by simp⟩
 ·obtain⟨sl,q⟩:=I.base.slot b o e n hb hx
  exact⟨sl,(hs.2 b (ne b o e)).trans q⟩
 ·obtain⟨o',q⟩:=I.base.there b o e hx
  exact⟨o',(hs.2 b (ne b o e)).trans q⟩
 ·rw[List.getElem?_replicate]at e2
  split at e2<;>cases e2
 ·obtain⟨w',z⟩:=I.cell y c e
  exact⟨w',z.sameBut hs (I.cne y c e)⟩
 ·obtain⟨e,n,nl,nf,d⟩:=I.pin p hp
  exact⟨(hs.2 p.1 nl).trans e,n,nl,nf,d⟩
 ·refine(I.hok b ob e).stay (λc w' hc q=>(hs.2 c ?_).trans q) (λ_ q=>q) λ_ _ q=>q
  rintro rfl
  rcases hc with rfl|hc
  ·rw[I.free]at e;cases e
  ·rw[I.free]at hc;cases hc
theorem qia {H':Hp} {h':Heap} (I:Inv X pins σ H s) (u:Un (frs X.stack) [] H H' s.heap h'):h'.FunFrames X.base X.stack:=by
 have all:∀(l:List yaU),(∀b∈frs l,b∈frs X.stack)->s.heap.FunFrames X.base l->h'.FunFrames X.base l:=by
  intro l
  induction l with
  |nil=>intro _ _;trivial
  |cons env r ih=>
   intro hss hl
   obtain⟨hk,⟨L,o,hf',hn,ho,hd⟩,hr⟩:=hl
   have hfr:frs (env::r)=L::frs r:=by unfold frs;rw[ybe,hf']
   rw[hfr]at hss
   have hL:=hss L mS_
   obtain⟨sl,e⟩:=u.slot L o ho (I.stkFree L hL) hL (by simp)
   exact⟨hk,⟨L,_,hf',hn,e,hd⟩,ih (λb hb=>hss b (mM _ hb)) hr⟩
 exact all X.stack (λ_ z=>z) I.stack
theorem qkG {H':Hp} {h1 h':Heap} {ch:List Addr} (u:Un (frs X.stack) [] H H' s.heap h1) (hchn:∀b∈ch,s.heap.get? b=none) (x:Lft h1 h' ch (frs X.stack)):Un (frs X.stack) [] H H' s.heap h':=by
 have nch:∀b o,s.heap.get? b=some o->b ∉ ch:=λb o q z=>by rw[hchn b z]at q;cases q
 refine⟨λb o q n hb hx=>x.keep b o (nch b o q) hb (u.keep b o q n hb hx),λb o q n hb hx=>?_,u.free,λb o q hx=>?_,u.tups,u.frzs,u.tbls⟩
 ·obtain⟨sl,q1⟩:=u.slot b o q n hb hx
  obtain⟨sl2,q2⟩:=x.slot b _ hb q1
  exact⟨sl2,q2⟩
 ·obtain ⟨o2,q2⟩:=u.there b o q hx
  by_cases hb:b∈frs X.stack
  ·obtain⟨sl,q3⟩:=x.slot b o2 hb q2
   exact⟨_,q3⟩
  ·exact⟨o2,x.keep b o2 (nch b o q) hb q2⟩
theorem qib {H':Hp} {h1 h':Heap} {ch:List Addr} (I:Inv X pins σ H s) (u:Un (frs X.stack) [] H H' s.heap h1) (hok:HOk X.prog X.w H' h1) (hch:∀b∈ch,H' b=none) (x:Lft h1 h' ch (frs X.stack)):HOk X.prog X.w H' h' :=
 qkB hok λb o hb1 q=>x.keep b o (λz=>by rw[hch b z]at hb1;cases hb1) (λz=>by
  obtain⟨_,o1,ho1,_⟩:=I.stack.mem z
  rw[u.free b o1 ho1 (I.stkFree b z) (by simp)]at hb1
  cases hb1) q
theorem ql1 {H':Hp} {h':Heap} {e:Addr} {o:HO} (u:Un (frs X.stack) [] H H' s.heap h') (he:s.heap.get? e=none) (hHe:H' e=none):Un (frs X.stack) [] H (upd H' e o) s.heap h':=by
 have ne:∀b ob,s.heap.get? b=some ob->b≠e:=λb ob q z=>by rw[z,he]at q;cases q
 have ne':∀b u,H' b=some u->b≠e:=λb u q z=>by rw[z,hHe]at q;cases q
 refine⟨u.keep,u.slot,λb ob q n hx=>by rw[qM (ne b ob q)];exact u.free b ob q n hx,u.there,λb xs q=>?_,λb ob w q=>?_,λb ps y q=>?_⟩
 ·have:=u.tups b xs q
  rw[qM (ne' b _ this)];exact this
 ·have:=u.frzs b ob w q
  rw[qM (ne' b _ this)];exact this
 ·have:=u.tbls b ps y q
  rw[qM (ne' b _ this)];exact this
theorem qjH {P:yar} {w:World} {H':Hp} {h':Heap} {e:Addr} {oe:Obj} (hok:HOk P w H' h') (hHe:H' e=none) (he:h'.get? e=some oe):HOk P w (upd H' e (.frz oe (.own e))) h':=λb ob q=>by
 by_cases hb:b=e
 ·subst hb
  rw[qK]at q
  cases q
  exact⟨he,oe,he⟩
 ·rw[qM hb]at q
  have ne':∀c u,H' c=some u->c≠e:=λc u q z=>by rw[z,hHe]at q;cases q
  exact(hok b ob q).stay (λ_ _ _ q=>q) (λc q=>by rw[qM (ne' c _ q)];exact q) (λc xs q=>by rw[qM (ne' c _ q)];exact q) λc ob y q=>by rw[qM (ne' c _ q)];exact q
end
def qiX (RN:List Str) (f:MS) (F:List D->R D):MS:=λZ=>match f Z with
 | .exc x Z'=>if RN.contains x.cls then match F [.exc x.cls] with
   |.ok d => .ok (.rt d Z')
   |_ => .bad
  else .bad
 |r=>r
def reE(c:Fc)(E:Exn->Hp->Prop):Fc:={c with E:=E}
theorem Rep.reE{K:Fr0}{c:Fc}{E:Exn->Hp->Prop}{Z:Env}{σ:St}{H:Hp}(r:Rep K c Z σ H):Rep K (Sk.reE c E) Z σ H:=⟨r.len,r.val,r.own,r.inj,r.b0,r.kp,r.dm,r.pO,r.ps⟩
theorem Rep.unE{K:Fr0}{c:Fc}{E:Exn->Hp->Prop}{Z:Env}{σ:St}{H:Hp}(r:Rep K (Sk.reE c E) Z σ H):Rep K c Z σ H:=⟨r.len,r.val,r.own,r.inj,r.b0,r.kp,r.dm,r.pO,r.ps⟩
structure qqa (K:Fr0) (base:Heap) (RN:List Str) (S:Addr):Prop where
 sup:∃bm,XC base S bm
 own:∀n C,clR K RN n=some C->∃bm,XC base C bm/\(yaj C::bm).contains (.ref S)=true
 ki:∀n C,clR K RN n=some C->XK6 K C
def ch(H6:Hp):Fc:=⟨[],[],λa=>H6 a=none,H6,λ_=>False,λ_ _=>False,λ_=>none⟩
section
variable{X:Cx}{c:Fc}{pos np hpos p1 p2 p3 p4:Pos}{body:List Stmt}
theorem qn0 {x n m:Str} {i:Nat} {S fm:Addr} {fd:yaP} {ps:List Str} {k:Nat} {F:List D->R D} {f:MS} {RN:List Str} (hN:X.N.Nodup) (hcx:X.stack=X.env::X.outer) (hf:X.env.frame=some X.env.locals)
  (hcl:qqa X.K X.base RN S) (hgS:Gl X x) (hmS:X.mg x=some (.ref S))
  (G:qen X.prog X.w X.K X.mg X.base CX0 k fm fd ps (spD X.K F)) (hr:vy k X.A) (hgm:Gl X m) (hmm:X.mg m=some (.ref fm)) (hkm:yae X.K (.ref fm)=true) (hbm:wE X.K fd ps [])
  (hb:∀(xe:Value->yab->Prop)(pn:List (Addr×Obj))(E:XK)(cE:Exn->Hp->Prop),XL2 (toX X xe pn) (reE c cE) (clR X.K RN) E->DSs (toX X xe pn) (reE c cE) body f)
  (hi:X.N[i]? = some n:=by rfl) (hx:X.env.scope.names.lookup n=some .local:=by rfl) (hkn:X.env.kindOf n=some .local:=by rfl)
  (hdx:(x==("__debug__":Str))=false:=by decide) (hdm:(m==("__debug__":Str))=false:=by decide) (hdn:(n==("__debug__":Str))=false:=by decide) (hcn:(n==("__classdict__":Str))=false:=by decide)
  (hst:yah [.Name n p2] X.env=(false,eval (.Name n p2) X.env)::yah [] X.env:=by rfl) (hpl:(yaR p3 (yah [] X.env)).any (·.1)=false:=by rfl) :
  DS X c (.Try body [.ExceptHandler (some (.Name x np)) (some n) [.Return (some (.Call (.Name m p1) [.Name n p2] [] p3)) p4] hpos] [] [] pos) (qiX RN f F):=by
 refine⟨λD σ H=>∃Z,Rep X.K c Z σ H/\WpS X.K c σ H D (qiX RN f F Z),?_,λZ σ H D r h=>⟨Z,r,h⟩⟩
 rintro pins s σ H D I ⟨Z,r,w⟩
 refine wpAny_Try_except ?_
 have hk:=I.ok
 let xe:Value->yab->Prop:=λe sQ=>wpAny (model X.prog X.w) X.A (yee e X.env) (λ_ sK=>wpAny (model X.prog X.w) X.A (ydy e none) (λ_ sY=>wpAny (model X.prog X.w) X.A (handleBy e X.env [.ExceptHandler (some (.Name x np)) (some n) [.Return (some (.Call (.Name m p1) [.Name n p2] [] p3)) p4] hpos]) (SP X pins D) X.xe sY) X.xe sK) X.xe sQ
 let cE:Exn->Hp->Prop:=λz H'=>∃Z' σ',f Z=.exc z Z'/\Rep X.K c Z' σ' H'/\GrS c.O σ H σ' H'
 let E:XK:=λcv _ H'=>∃C z,cv=.ref C/\clR X.K RN z.cls=some C/\cE z H'
 have L:XL2 (toX X xe (X.pn++pins)) (reE c cE) (clR X.K RN) E:=by
  refine⟨?_,λz C H' h1 h2=>⟨C,z,rfl,h1,h2⟩⟩
  intro pins2 σ2 H2 s2 u s' I2 hx2
  obtain⟨e,T,C,H',rfl,os,bare,un,hok,he,hT,hHe,hHT,Fl,C',z,hC',hz,Z',σ',ef,r',g'⟩:=hx2
  have eC:C=C':=Value.ref.inj hC'
  subst eC
  have I3:Inv X pins σ2 H2 s2:=qaQ I2
  have hz2:∀b∈[e,T],H' b=none:=λb hb=>by
   simp only[yav,nN_,or_false]at hb
   rcases hb with rfl|rfl
   ·exact hHe
   ·exact hHT
  have hz3:∀b∈[e,T],s2.heap.get? b=none:=λb hb=>by
   simp only[yav,nN_,or_false]at hb
   rcases hb with rfl|rfl
   ·exact he
   ·exact hT
  have hl:s'.heap.FunFrames X.base X.stack:=qia I3 un
  have hA:X.A.frames=some (X.env::X.outer):=by rw[<-hcx];exact hk.frames
  show wpAny _ _ _ _ _ _
  rw[hcx]at hl
  refine qem hA hl hf Fl λh3 T3 y1 y2 y3=>?_
  rw[<-hcx]at y1
  have un3:Un (frs X.stack) [] H2 H' s2.heap h3:=qkG un hz3 y1
  have hok3:HOk X.prog X.w H' h3:=qib I3 un hok hz2 y1
  have I4:Inv X pins σ2 H' {s' with heap:=h3}:=I3.call' (s':={s' with heap:=h3}) (ch:=[]) os un3 hok3 bare (λb hb=>nomatch hb)
  have up:∀b,s'.heap.get? b=none->s2.heap.get? b=none:=λb hb=>by
   cases q:s2.heap.get? b with
   |none=>rfl
   |some o=>
    obtain⟨o',q'⟩:=un.there b o q (by simp)
    rw[hb]at q';cases q'
  have hT3:s2.heap.get? T3=none:=y3.elim (λz=>z▸hT) (up T3)
  have hHT3:H' T3=none:=y3.elim (λz=>z▸hHT) λz=>by
   cases q:H' T3 with
   |none=>rfl
   |some o=>
    obtain⟨o',q'⟩:=vZ (hok _ _ q)
    rw[z]at q';cases q'
  refine wpAny_handleBy_cons (codeAny_handlers_test ?_) (by intro q;cases q)
  refine qda (X:=hdX X e) (qkF e I4) hgS hmS ?_ hdx
  obtain⟨bmS,xS⟩:=hcl.sup
  obtain⟨bm,xC,hin⟩:=hcl.own _ _ hz
  obtain⟨nmS,qS,NS,bsS,hdctS,snS,subS,abS,colS,ddS,j0,j1,j2,j3,j5,newIdS,_,_,_,_,hS,_⟩:=xS.ex
  obtain⟨nm,q,N,bs,hdct,sn,sub,ab,col,dd,k0,k1,k2,k3,k5,newId,_,_,_,_,hC,_⟩:=xC.ex
  obtain⟨oe,vs,oT,ts,a0,hoe,hoc,hod,_⟩:=id y2
  refine qcK (M:=model X.prog X.w) (A:=X.A.mark (some (.ref e))) (h:=h3) (g:=s'.gens) (d:=s'.drawn) (t:=s'.toks) (os:=s'.os) (I4.bk _ _ hC) (I4.bk _ _ hS) hoe hoc.1 xS.hasBase ?_
  rw[hin]
  show ybW _ _ _ _ _
  refine codeAny_handlers_suite_as ?_
  have hl3:h3.FunFrames X.base X.stack:=qia I3 un3
  refine qgI (s:={s' with heap:=h3}) hl3 y2 λh4 T4 z1 z2 z3=>?_
  have hz4:∀b∈[e,T3],H' b=none:=λb hb=>by
   simp only[yav,nN_,or_false]at hb
   rcases hb with rfl|rfl
   ·exact hHe
   ·exact hHT3
  have hz5:∀b∈[e,T3],s2.heap.get? b=none:=λb hb=>by
   simp only[yav,nN_,or_false]at hb
   rcases hb with rfl|rfl
   ·exact he
   ·exact hT3
  have un4:Un (frs X.stack) [] H2 H' s2.heap h4:=qkG un3 hz5 z1
  have hok4:HOk X.prog X.w H' h4:=qib I3 un3 hok3 hz4 z1
  obtain⟨oe4,vs4,oT4,ts4,a04,hoe4,hoc4,hod4,_⟩:=id z2
  have I5:Inv X pins σ2 (upd H' e (.frz oe4 (.own e))) {s' with heap:=h4}:=I3.call' (s':={s' with heap:=h4}) (ch:=[]) os (ql1 un4 he hHe) (qjH hok4 hHe hoe4) bare (λb hb=>nomatch hb)
  refine qaE (v:=.ref e) I5 hN hi (.inl hx) rfl (λs5 I6=>?_) (.inr hx)
  have sm:yn H' (upd H' e (.frz oe4 (.own e))):=qG hHe _
  have hil:IsL X.K (λ_=>False) (upd H' e (.frz oe4 (.own e))) [.exc z.cls] [.ref e]:=⟨.ref e,[],rfl,⟨e,rfl,C,(qfJ hz).2,hcl.ki _ _ hz,oe4,vs4,qK,hoc4.1,hod4⟩,rfl⟩
  cases em:F [.exc z.cls] with
  |bad=>simp only[qiX,ef,(qfJ hz).1,em,if_true]at w;exact w.elim
  |exc z' Z''=>simp only[qiX,ef,(qfJ hz).1,em,if_true]at w;exact w.elim
  | ok d=>
   simp only[qiX,ef,(qfJ hz).1,em,if_true]at w
   have hσl:i<σ2.length:=by rw[I5.len];exact(gI_.mp hi).1
   have call:=qhd (qkb (pos:=p4) (qfX (X:=hdX X e) (E:=λ_ _ _=>False) (pos:=p3) (p:=p1) G ⟨hr.dp,hr.un,hr.gd⟩ hgm hmm hkm hbm .nil (λ_ _ _ _ _ _ _ z=>z.elim) (uu (qaF (X:=hdX X e) (pos:=p2) hi (.inl hx) hdn hcn) qby hst) hdm hst hpl))
   have run:=call pins s5 _ _ ({nx:=λ_ _=>False,rt:=D.rt}:qhb) (qkF e I6) ⟨.ref e,List.getElem?_set_self hσl,⟨e,oe4,.own e,vs4,rfl,qK,hod4,hoc4.2.1⟩,[.exc z.cls],λ_=>False,hil,r'.tb.same sm,by
    rw[em]
    exact λv H6 sm6 i6=>w v σ' H6 (r'.same (λb o q=>sm6 b o (sm b o q))) (Is.ext Ext.refl (λa ha _=>ha.elim (λz=>z.elim) λhn=>r'.b0.1 a (r'.dm a (sm.free hn))) i6) (g'.trans (Gr.of_same (λb o q=>sm6 b o (sm b o q))).s)⟩
   refine ybf run (λfl s6 h6=>?_) (λ_ _ z=>z.elim)
   cases fl with
   |next=>obtain⟨_,_,_,z⟩:=h6;exact z.elim
   |brk=>obtain⟨_,_,_,z⟩:=h6;exact z.elim
   |cont=>obtain⟨_,_,_,z⟩:=h6;exact z.elim
   |ret u=>
    obtain⟨v,σ7,H7,I7,rv,q7⟩:=h6
    have I8:=qjG hk I7
    obtain⟨m8,hn8,_⟩:=id I8.loc
    exact wpAny_nameGoes hkn hn8 (by rw[hk.kind];rfl) λh9 m9 hn9 hs9=>⟨v,_,H7,qgL I8 hn9 hs9,rv,q7⟩
 obtain⟨t,p,wt⟩:=hb xe (X.pn++pins) E cE L
 have w':WpS X.K (reE c cE) σ H D (f Z):=by
  cases ef:f Z with
  |bad=>simp only[qiX,ef]at w;exact w
  |exc z Z'=>exact λσ' H' r' g'=>⟨Z',σ',ef,r'.unE,g'⟩
  |ok fl=>
   simp only[qiX,ef]at w
   cases fl with
   |nx Z'=>exact λσ' H' r' g'=>w σ' H' r'.unE g'
   |rt d Z'=>exact λv σ' H' r' i' g'=>w v σ' H' r'.unE i' g'
   |bk Z'=>exact λσ' H' r' g'=>w σ' H' r'.unE g'
   |ct Z'=>exact λσ' H' r' g'=>w σ' H' r'.unE g'
 have run:=p [] s σ H D (qnZ I) (wt Z σ H D r.reE w')
 refine ybf run (λfl s1 h1=>?_) (λ_ _ z=>z)
 cases fl with
 |next=>
  obtain⟨σ1,H1,I1,q1⟩:=h1
  exact yct ⟨σ1,H1,qaQ I1,q1⟩
 |brk=>obtain⟨σ1,H1,I1,q1⟩:=h1;exact⟨σ1,H1,qaQ I1,q1⟩
 |cont=>obtain⟨σ1,H1,I1,q1⟩:=h1;exact⟨σ1,H1,qaQ I1,q1⟩
 |ret u=>obtain⟨v,σ1,H1,I1,rv,q1⟩:=h1;exact⟨v,σ1,H1,qaQ I1,rv,q1⟩
end
end L2.Sk
namespace L2.Sk
open PySem PySem.Spec PyProof.Rows PySem.W
def bmV:List Value:=[.type "ValueError",.type "Exception",.type "BaseException",.type "object"]
def qgM (K:Fr0) (C S:Addr):Bool:=match K.lookup C with
 |some ⟨_,_,.cls cd,_⟩=>cd.mro.contains (.ref S)
 |_=>false
theorem qfY {K:Fr0} {h:Heap} {C S:Addr} (X:K.In h) (q:excIn K C bmV "ValueError.__new__"=true) (hs:qgM K C S=true):∃bm,XC h C bm/\(yaj C::bm).contains (.ref S)=true:=by
 unfold excIn at q
 split at q
 ·rename_i dd cd sl ho
  split at q
  ·rename_i C' bm k0 k1 k2 k3 n k5 hm hl
   simp only[yal,beq_iff_eq,yb8]at q
   obtain⟨⟨⟨⟨⟨e1,e2⟩,hdel⟩,ht⟩,hok⟩,hni⟩:=q
   subst e1 e2
   unfold qgM at hs
   rw[ho]at hs
   dsimp only at hs
   rw[hm]at hs
   obtain⟨nm,bs,mro,ns,qn,hd,sn,sub,ab,col,del⟩:=cd
   dsimp only at hm hdel hok hni
   subst hm hdel
   have hz:sl = #[k0,k1,k2,k3,some (.builtin _),k5]:=Array.toList_inj.mp hl
   subst hz
   have hT:=tail_of_in X ht
   refine⟨bm,⟨hT.hasType (by decide +kernel),nm,qn,ns,bs,hd,sn,sub,ab,col,dd,k0,k1,k2,k3,k5,_,"ValueError.__init__","ValueError",bmV,_,X _ _ ho,.of_isNs (isNs_of_in X hok),nsMap_none_of_in X hok hni,hT,PySem.F.excBase_ValueError⟩,hs⟩
  ·cases q
 ·cases q
def ql2 (K:Fr0) (D:Addr):Bool :=
 findIn K (.ref D) "__getattribute__"==some (some (.builtin "BaseException.__getattribute__"))&&findIn K (.ref D) "__getattr__"==some none &&
 findIn K (.ref D) "__class__"==some (some (.builtin "object.__class__"))&&mroIn K D (.type "object")==some true&&subIn K (.ref D) (.type "BaseException")==some true&&(clsIn K D).isSome &&
 (["int","bool","str","tuple","list","dict"].all λT=>kitOne K (.ref D) (.type T)==some false)
theorem qn1 {K:Fr0} {D:Addr} (h:ql2 K D=true):XK6 K D:=by
 unfold ql2 at h
 simp only[yal,beq_iff_eq]at h
 obtain⟨⟨⟨⟨⟨⟨h1,h2⟩,h3⟩,h4⟩,h5⟩,h6⟩,h7⟩:=h
 exact⟨h1,h2,h3,h4,h5,h6,λT hT=>by simpa using List.all_eq_true.mp h7 T hT⟩
def va(n m:Str):Bool:=n==m||m=="SackError"
def qn2 (K:Fr0) (S:Addr) (TN:List Str) (n:Str):Bool:=match wF K n with
 | some C=>excIn K C bmV "ValueError.__new__"&&qgM K C S&&ql2 K C&&kitOne K (.ref C) (.type "ValueError")==some true &&
  TN.all λm=>match wF K m with
   |some Cm=>kitOne K (.ref C) (.ref Cm)==some (va n m)
   |none=>false
 |none=>false
def qpj (K:Fr0) (RN TN:List Str):Bool:=match wF K "SackError" with
 |some S=>excIn K S bmV "ValueError.__new__"&&qgM K S S&&RN.all (qn2 K S TN)
 |none=>false
structure XT (K:Fr0) (mg:Str->Option Value) (RN TN:List Str):Prop where
 all:qpj K RN TN=true
 mgc:∀n C,wF K n=some C->mg n=some (.ref C)
theorem qjI {K:Fr0} {h:Heap} {mg:Str->Option Value} (X:K.In h) (G:h.Ns yad mg) (n:Str) (C:Addr) (e:wF K n=some C):mg n=some (.ref C):=by
 unfold wF at e
 split at e
 ·rename_i C' q
  cases e
  exact mg_of X G q
 ·cases e
section
variable{K:Fr0}{mg:Str->Option Value}{RN TN:List Str}
theorem XT.sup (t:XT K mg RN TN):∃S,wF K "SackError"=some S/\excIn K S bmV "ValueError.__new__"=true/\qgM K S S=true/\RN.all (qn2 K S TN)=true:=by
 have h:=t.all
 unfold qpj at h
 split at h
 ·rename_i S e
  simp only[yal]at h
  exact⟨S,e,h.1.1,h.1.2,h.2⟩
 ·cases h
theorem XT.row (t:XT K mg RN TN) {S:Addr} (hS:wF K "SackError"=some S) {n:Str} (hn:RN.contains n=true):qn2 K S TN n=true:=by
 obtain⟨S',e,_,_,h⟩:=t.sup
 rw[hS]at e
 cases e
 exact List.all_eq_true.mp h n (by simpa using hn)
theorem XT.cls (t:XT K mg RN TN) {n:Str} {C:Addr} (h:clR K RN n=some C):wF K n=some C/\∃S,wF K "SackError"=some S/\excIn K C bmV "ValueError.__new__"=true/\qgM K C S=true/\XK6 K C/\kitOne K (.ref C) (.type "ValueError")=some true /\
  ∀m∈TN,∃Cm,wF K m=some Cm/\kitOne K (.ref C) (.ref Cm)=some (va n m):=by
 unfold clR at h
 split at h
 ·rename_i hn
  obtain⟨S,hS,_⟩:=t.sup
  have r:=t.row hS hn
  unfold qn2 at r
  rw[h]at r
  simp only[yal,beq_iff_eq]at r
  obtain⟨⟨⟨⟨r1,r2⟩,r3⟩,r4⟩,r5⟩:=r
  refine⟨h,S,hS,r1,r2,qn1 r3,r4,λm hm=>?_⟩
  have:=List.all_eq_true.mp r5 m hm
  split at this
  ·rename_i Cm e
   exact⟨Cm,e,by simpa using this⟩
  ·cases this
 ·cases h
theorem XT.has (t:XT K mg RN TN) {n:Str} (hn:RN.contains n=true):∃C,clR K RN n=some C:=by
 obtain⟨S,hS,_⟩:=t.sup
 have r:=t.row hS hn
 unfold qn2 at r
 split at r
 ·rename_i C e
  exact⟨C,by unfold clR;rw[if_pos hn];exact e⟩
 ·cases r
theorem XT.ask (t:XT K mg RN TN) {n m:Str} (hn:RN.contains n=true) (hm:m∈TN):∃Cm,wF K m=some Cm:=by
 obtain⟨C,hC⟩:=t.has hn
 obtain⟨_,_,_,_,_,_,_,h⟩:=t.cls hC
 obtain⟨Cm,e,_⟩:=h m hm
 exact⟨Cm,e⟩
theorem XT.xcls (t:XT K mg RN TN) {base:Heap} (X:K.In base):∃S,mg "SackError"=some (.ref S)/\qqa K base RN S:=by
 obtain⟨S,hS,h1,h2,_⟩:=t.sup
 refine⟨S,t.mgc _ _ hS,⟨(qfY X h1 h2).imp λbm h=>h.1,λn C h=>?_,λn C h=>?_⟩⟩
 ·obtain⟨_,S',hS',r1,r2,_⟩:=t.cls h
  rw[hS]at hS'
  cases hS'
  exact qfY X r1 r2
 ·obtain⟨_,_,_,_,_,r,_⟩:=t.cls h
  exact r
end
theorem qfZ:typeOf (.builtin "list.count")=pure (.type "method_descriptor"):=by kernel_rfl
theorem qf0:typeOf (.builtin "list.index")=pure (.type "method_descriptor"):=by kernel_rfl
def qgN (RN:List Str) (m:Str) (f:M D):M D:=bnd f λd=>match d with
 |.exc n=>if RN.contains n then ret (.bl (m=="ValueError"||va n m))else λ_ => .bad
 |_=>λ_ => .bad
section
variable{X:Cx}{c:Fc}{a b e:Expr}{pos:Pos}{RN TN:List Str}
def qqb(K:Fr0)(RN:List Str)(m:Str)(Cm:V):List V->Hp->VK->Prop:=λxs H Q=>∃v n A,xs=[v,Cm]/\RN.contains n=true/\Is K A H (.exc n) v/\Q (.bl (m=="ValueError"||va n m)) H
theorem qf1 {m:Str} {Cm:V} {um:Value} (hr:yg Cm um) (hu:∀u,yg Cm u->u=um) (hk:∀n C,wF X.K n=some C->RN.contains n=true->kitOne X.K (.ref C) um=some (m=="ValueError"||va n m)):uC X (.builtin "isinstance") (qqb X.K RN m Cm):=by
 intro pins s σ H xs us Q I r h
 obtain⟨v,n,A,rfl,hn,hi,q⟩:=h
 obtain⟨u,w,rfl,r1,r2⟩:=zM.two r
 rw[hu w r2]
 obtain⟨z,rfl,C,hC,h1,h2⟩:=hi
 cases (show u=yaj z from r1)
 exact qcR I h1 h2 (hk n C hC hn) λtk=>⟨.bl _,H,I.tok tk,rfl,q⟩
theorem qic {m:Str} {f:M D} {t:TE} {Cm:V} (w:∀Z σ H Q,Rep X.K c Z σ H->Wp X.K c σ H Q (f Z)->t σ H Q):∀Z σ H Q,Rep X.K c Z σ H->Wp X.K c σ H Q (qgN RN m f Z)->tCB (qqb X.K RN m Cm) (qlh t (qlh (tC Cm) qpY)) σ H Q:=λZ σ H Q r h=>w Z σ H _ r (Wp.bnd h λd Z1 v H1 r1 i1 g1 h1=>by
 cases d with
 | exc n=>
  dsimp only at h1
  by_cases hn:RN.contains n=true
  ·rw[if_pos hn]at h1
   exact⟨v,n,_,rfl,hn,i1,h1 _ H1 r1 rfl .refl⟩
  ·rw[if_neg hn]at h1
   exact h1.elim
 |_=>exact h1.elim)
theorem qcl {m:Str} {mgl:Str->Option Value} {p p2:Pos} {f:M D} (t:XT X.K X.mg RN TN) (hm:m∈TN) (hne:(m=="ValueError")=false) (hg:Gl X "isinstance") (hmi:X.mg "isinstance"=none) (hg2:Gl X m) (ha:DE X c a f)
  (hs:∃Cm,wF X.K m=some Cm)
  (hv:yaz "isinstance"=some (.builtin "isinstance"):=by first|rfl|exact PySem.boot_isinstance) (hdb2:(m==("__debug__":Str))=false:=by decide)
  (he:yah [a,.Name m p2] X.env=(false,eval a X.env)::yah [.Name m p2] X.env:=by rfl) (hpl:(yaR pos (yah [.Name m p2] X.env)).any (·.1)=false:=by rfl):DE X c (.Call (.Name "isinstance" p) [a,.Name m p2] [] pos) (qgN RN m f):=by
 obtain⟨ta,pa,w⟩:=ha
 obtain⟨Cm,hCm⟩:=hs
 refine⟨_,qaH (qf1 (RN:=RN) (m:=m) (Cm:=.ref Cm) (um:=.ref Cm) rfl (λu h=>h) λn C hC hn=>?_) hg hmi hv (uu pa (uu (qeP (v:=.ref Cm) hg2 (t.mgc m Cm hCm) rfl hdb2) qby (by rfl)) he) (by decide) (by decide) he hpl,qic w⟩
 have hcl:clR X.K RN n=some C:=by unfold clR;rw[if_pos hn];exact hC
 obtain⟨_,_,_,_,_,_,_,h⟩:=t.cls hcl
 obtain⟨Cm',e1,e2⟩:=h m hm
 rw[hCm]at e1
 cases e1
 rw[e2,hne];rfl
theorem ql3 {p p2:Pos} {f:M D} (t:XT X.K X.mg RN TN) (hg:Gl X "isinstance") (hmi:X.mg "isinstance"=none) (hg2:Gl X "ValueError") (hm2:X.mg "ValueError"=none) (ha:DE X c a f)
  (hv:yaz "isinstance"=some (.builtin "isinstance"):=by first|rfl|exact PySem.boot_isinstance) (hv2:yaz "ValueError"=some (.type "ValueError"):=by rfl)
  (he:yah [a,.Name "ValueError" p2] X.env=(false,eval a X.env)::yah [.Name "ValueError" p2] X.env:=by rfl) (hpl:(yaR pos (yah [.Name "ValueError" p2] X.env)).any (·.1)=false:=by rfl):DE X c (.Call (.Name "isinstance" p) [a,.Name "ValueError" p2] [] pos) (qgN RN "ValueError" f):=by
 obtain⟨ta,pa,w⟩:=ha
 refine⟨_,qaH (qf1 (RN:=RN) (m:="ValueError") (Cm:=.ty "ValueError") (um:=.type "ValueError") rfl (λu h=>h) λn C hC hn=>?_) hg hmi hv (uu pa (uu (qhc (v:=.ty "ValueError") hg2 hm2 hv2 rfl (by decide) (by decide)) qby (by rfl)) he) (by decide) (by decide) he hpl,qic w⟩
 have hcl:clR X.K RN n=some C:=by unfold clR;rw[if_pos hn];exact hC
 obtain⟨_,_,_,_,_,_,h,_⟩:=t.cls hcl
 rw[h];rfl
end
section
variable{P:yar}{w:World}{K:yan}{mg:Str->Option Value}{base:Heap}
theorem qjJ {x qual:Str} {st:Stmt} {f:Addr} {fd:yaP} {N ps:List Str} {k:Nat} {O:List Nat} {body:MS} (F:Fun K x qual st f fd) (S:qv N ps (qe st)) (hO:∀i∈O,ps.length<=i)
  (hb:∀(cdv:Value)(A:yas)(outer:List yaU)(s:yab)(H:Hp)(E:XK)(B:Addr->Prop),wR k (A.deeper (ybi qual (qe st) s.heap.objs.size f cdv))->AloneA (A.deeper (ybi qual (qe st) s.heap.objs.size f cdv)) H ->
   DSs (qgJ CX0 P w K mg base N qual (qe st) f cdv A outer s H E).nox (cfn O [] B H (λ_=>False) (λ_ _=>False) λ_=>none) (qu st) body) :
  qen P w K mg base CX0 (k+1) f fd ps (spD K (dfn N.length ps.length body)):=by
 obtain⟨oc,od,kV,doc,pm,an,cdv,ct,osl,rfl,lk,hcd⟩:=F.ex
 refine qnY lk hcd S (λvs H Q E h=>?_) (λA outer s H vs Q E hr al h=>?_)
 ·obtain⟨ds,B,il,_,h⟩:=h
  unfold dfn at h
  by_cases e:ds.length=ps.length
  ·rw[il.length];exact e
  ·rw[if_neg e]at h;exact h.elim
 ·obtain ⟨ds,B,il,tb,h⟩:=h
  obtain⟨t,p,wt⟩:=hb cdv A outer s H E B hr al
  refine⟨t,p.nox,?_⟩
  unfold dfn at h
  by_cases e:ds.length=ps.length
  ·rw [if_pos e]at h
   refine wt (uv N.length ds) (jM N vs) H _ (qce il tb (λi hi=>by rw[e];exact hO i hi)) ?_
   have same:∀{Z:Env}{σ:St}{H':Hp},Rep K (cfn O [] B H (λ_=>False) (λ_ _=>False) λ_=>none) Z σ H'->yn H H':=λr b o hb=>r.kp b o hb λz=>z
   cases eb:body (uv N.length ds) with
   |bad=>rw[eb]at h;exact h.elim
   |exc z Z=>rw[eb]at h;exact h.elim
   |ok fl=>
    rw[eb]at h
    cases fl with
    |nx Z=>exact λσ' H' r' _=>h .non H' (same r') rfl
    |rt d Z=>exact λv σ' H' r' i' _=>h v H' (same r') i'
    |bk Z=>exact h.elim
    |ct Z=>exact h.elim
  ·rw[if_neg e]at h;exact h.elim
structure qid (P:yar) (w:World) (K:yan) (mg:Str->Option Value) (base:Heap) (k:Nat) (x:Str) (ps:List Str) (sp:Sp):Prop where
 ex:∃f fd,qen P w K mg base CX0 k f fd ps sp/\mg x=some (.ref f)/\yae K (.ref f)=true/\wE K fd ps []
end
end L2.Sk
namespace L2.Sk
open PySem PySem.Spec PyProof.Rows
section
variable{Z:Env}{f g:M D}{l:M (List D)}{p q:MS}{RN:List Str}
theorem qbS (F:List D->R D):wP RN F l Z=match l Z with|.ok (xs,Z1)=>(match F xs with|.ok d => .ok (d,Z1)|.exc x _=>(if RN.contains x.cls then .exc x Z1 else .bad)|.bad => .bad)|.exc x Z' => .exc x Z'|.bad => .bad:=by
 simp only[wP,bnd]
 cases l Z with
 |ok z=>obtain⟨z1,Z1⟩:=z;cases F z1<;>rfl
 |exc x Z'=>rfl
 |bad=>rfl
theorem qdt (F:List D->R D):vd F l Z=match l Z with|.ok (xs,Z1)=>(match F xs with|.ok d => .ok (d,Z1)|_ => .bad)|.exc x Z' => .exc x Z'|.bad => .bad:=by
 simp only[vd,bnd]
 cases l Z with
 |ok z=>obtain⟨z1,Z1⟩:=z;cases F z1<;>rfl
 |exc x Z'=>rfl
 |bad=>rfl
theorem qf2(x:Str):qck x l Z=match l Z with|.ok (ds,Z')=>(if zx ds.length then .exc ⟨x,.non⟩ Z' else .bad)|.exc z Z' => .exc z Z'|.bad => .bad:=rfl
theorem qn3(F:List D->R D):qiX RN p F Z=match p Z with|.exc x Z'=>(if RN.contains x.cls then(match F [.exc x.cls] with|.ok d => .ok (.rt d Z')|_ => .bad)else .bad)|r=>r:=rfl
theorem qkH (m:Str):qgN RN m f Z=match f Z with|.ok (.exc n,Z1)=>(if RN.contains n then .ok (.bl (m=="ValueError"||va n m),Z1)else .bad)|.ok _ => .bad|.exc x Z' => .exc x Z'|.bad => .bad:=by
 simp only[qgN,bnd]
 cases f Z with
 |ok z=>
  obtain⟨z1,Z1⟩:=z
  cases z1<;>first|rfl|(dsimp only;split<;>rfl)
 |exc x Z'=>rfl
 |bad=>rfl
theorem qdu (F:D->List D->OD):qdr F f l Z=match f Z with
  |.ok (.lst ds,Z1)=>(match l Z1 with|.ok (ys,Z2)=>(match F (.lst ds) ys with|some d => .ok (d,Z2)|none => .bad)|.exc x Z' => .exc x Z'|.bad => .bad)
  |.ok _ => .bad|.exc x Z' => .exc x Z'|.bad => .bad:=by
 simp only[qdr,bnd]
 cases f Z with
 | ok z=>
  obtain⟨z1,Z1⟩:=z
  cases z1 with
  |lst ds=>
   show bnd l (λys=>lift (F (D.lst ds) ys)) Z1=(match l Z1 with|.ok (ys,Z2)=>(match F (.lst ds) ys with|some d => .ok (d,Z2)|none => .bad)|.exc x Z' => .exc x Z'|.bad => .bad)
   unfold bnd
   cases l Z1 with
   |ok z=>obtain⟨z2,Z2⟩:=z;(dsimp only;cases F (.lst ds) z2<;>rfl)
   |exc x Z'=>rfl
   |bad=>rfl
  |_=>rfl
 |exc x Z'=>rfl
 |bad=>rfl
end
theorem qpk {n p:Nat} {body:MS} {ds:List D} {d:D} (h:ds.length=p) (e:∃Z,body (uv n ds)=.ok (.rt d Z)):qcJ n p body ds=.ok d:=by
 obtain⟨Z,e⟩:=e
 unfold qcJ;rw[if_pos h,e]
theorem qer {n p:Nat} {body:MS} {ds:List D} (h:ds.length=p) (e:∃Z,body (uv n ds)=.ok (.nx Z)):qcJ n p body ds=.ok .non:=by
 obtain⟨Z,e⟩:=e
 unfold qcJ;rw[if_pos h,e]
theorem qcm {n p:Nat} {body:MS} {ds:List D} {x:Exn} {Z:Env} (h:ds.length=p) (e:body (uv n ds)=.exc x Z):qcJ n p body ds=.exc x Z:=by
 unfold qcJ;rw[if_pos h,e]
theorem qie{p q:MS}{Z Z':Env}{x:Exn}(h:p Z=.exc x Z'):qE p q Z=.exc x Z':=by unfold qE;rw[h]
def unO(_:Nat)(c:Fc):Fc:={c with O:=[],P:=[],B:=λ_=>True}
theorem Gr.unSame{c:Fc}{σ:St}{H H':Hp}{i:Nat}(g:Gr (unO i c).O σ H H'):yn H H':=λb o h=>g.ext.at_ b o (λj hj=>by cases hj) h
theorem Rep.un {K:Fr0} {c:Fc} {Z:Env} {σ:St} {H:Hp} {i:Nat} (r:Rep K c Z σ H) (_:i∈c.O):Rep K (unO i c) Z σ H:=by
 have all:∀b:Addr,Cn (unO i c) σ b:=λb=>⟨trivial,λj hj=>by cases hj⟩
 refine⟨r.len,λk d hk=>?_,λj hj=>(by cases hj),λk j a hk=>(by cases hk),⟨λ_ _=>trivial,r.b0.2⟩,r.kp,r.dm,λj hj=>(by cases hj),λj hj=>(by cases hj)⟩
 obtain⟨v,h1,h2⟩:=r.val k d hk
 refine⟨v,h1,.inr ⟨λz=>(by cases z),?_⟩⟩
 rcases h2 with⟨hk2,ds,a,xs,h3,h5,h6,h7⟩|⟨hk2,h3⟩
 ·subst h3 h5
  exact⟨a,xs,rfl,all a,h6,IsL.ext Ext.refl (λb _ _=>all b) h7⟩
 ·exact Is.ext Ext.refl (λb _ _=>all b) h3
theorem Gr.un{c:Fc}{σ:St}{H H':Hp}{i:Nat}(g:Gr (unO i c).O σ H H'):Gr c.O σ H H':=.of_same g.unSame
open Classical in
open Classical in
open Classical in
section
variable{X:Cx}{c:Fc}{e:Expr}{pos:Pos}
def qrl:List D->Option (List D)
 | [.int i,.int j]=>if decide (-(2 ^ 62)<=i)&&decide (i<2 ^ 62)&&decide (-(2 ^ 62)<=j)&&decide (j<2 ^ 62)then some (qdl i (j-i).toNat)else none
 |_=>none
theorem XL2.un{i:Nat}{cl:Str->Option Addr}{E:XK}(L:XL2 X c cl E):XL2 X (unO i c) cl E:=⟨L.pass,L.wish⟩
def qkI (i n:Nat) (g:D->Env->Option Env) (b:MS):Nat->MS
 |0,Z=>match jr i Z with
  |some ds=>if ds.length<=n then .ok (.nx Z)else .bad
  |none => .bad
 | m + 1,Z=>match jr i Z with
  | some ds=>match ds[n-(m+1)]? with
   |none => .bad
   | some d=>match g d Z with
    |none => .bad
    |some Z1=>match b Z1 with
     |.ok (.nx Z2)=>qkI i n g b m Z2
     |.ok (.ct Z2)=>qkI i n g b m Z2
     |.ok (.bk Z2) => .ok (.nx Z2)
     |.ok (.rt r Z2) => .ok (.rt r Z2)
     |.exc x Z2 => .exc x Z2
     |.bad => .bad
  |none => .bad
end
def qn4(K:Fr0)(neg:Bool):R2:=λx y H Q=>∃d e ds A,Is K A H d x/\Is K A H e y/\sqD e=some ds/\qal d=true/\qal e=true/\Q (.bl (if neg then !((toPDs ds).any λy=>ya1 y (qX d)) else(toPDs ds).any λy=>ya1 y (qX d))) H
def inA (x y:D):OD:=match sqD y with
 |some ds=>if qal x&&qal y then some (.bl ((toPDs ds).any λy=>ya1 y (qX x)))else none
 |none=>none
def qpl (x y:D):OD:=match sqD y with
 |some ds=>if qal x&&qal y then some (.bl (!(toPDs ds).any λy=>ya1 y (qX x)))else none
 |none=>none
section
variable{X:Cx}
theorem ve {d:D} (h:qal d=true):(qX d).canLay0=true/\(qX d).depth<=50:=by
 unfold qal at h
 rw[yal,decide_eq_true_eq]at h
 exact h
theorem qqc {k:Nat} (hr:vy k X.A):OpR X (yaL .In) (qn4 X.K false):=by
 intro pins s σ H x y v u Q I rx ry h
 obtain⟨d,e,ds,A,h1,h2,es,o1,o2,q⟩:=h
 obtain⟨as,r1,_⟩:=ju I (qam o1) h1 rx
 obtain⟨bs,r2,_⟩:=ju I (qam o2) h2 ry
 have c1:=(ve o1).1
 have c2:=(ve o2).1
 have u1:=(ve o1).2
 have u:=hr.units
 cases e<;>simp only[sqD]at es<;>try (cases es;done)
 ·cases es
  exact SeqAt.in_tuple_reads r2 r1 (by simpa [qX,ybt] using c2) c1 (by omega) ⟨.bl _,H,I,rfl,by simpa using q⟩
 ·cases es
  exact SeqAt.in_list_reads r2 r1 (by simpa [qX,ybt] using c2) c1 (by omega) ⟨.bl _,H,I,rfl,by simpa using q⟩
theorem ql4 {k:Nat} (hr:vy k X.A):OpR X (yaL .NotIn) (qn4 X.K true):=by
 intro pins s σ H x y v u Q I rx ry h
 obtain⟨d,e,ds,A,h1,h2,es,o1,o2,q⟩:=h
 obtain⟨as,r1,_⟩:=ju I (qam o1) h1 rx
 obtain⟨bs,r2,_⟩:=ju I (qam o2) h2 ry
 have c1:=(ve o1).1
 have c2:=(ve o2).1
 have u1:=(ve o1).2
 have u:=hr.units
 cases e<;>simp only[sqD]at es<;>try (cases es;done)
 ·cases es
  exact SeqAt.notIn_tuple_reads r2 r1 (by simpa [qX,ybt] using c2) c1 (by omega) ⟨.bl _,H,I,rfl,by simpa using q⟩
 ·cases es
  exact SeqAt.notIn_list_reads r2 r1 (by simpa [qX,ybt] using c2) c1 (by omega) ⟨.bl _,H,I,rfl,by simpa using q⟩
end
theorem qjK {K:Fr0}:OpS K qpl (qn4 K true):=by
 intro A H x y d v u Q hn ix iy e k
 unfold qpl at e
 split at e
 ·rename_i ds es
  obtain⟨e1,e2⟩:=jt e
  subst e2
  rw[yal]at e1
  exact⟨x,y,ds,A,ix,iy,es,e1.1,e1.2,k _ H (yn.refl H) rfl⟩
 ·cases e
def qkJ(x y:D):OD:=(qnV x y).or (qpl x y)
theorem ql5{X:Cx}{k:Nat}(hr:vy k X.A):OpR X (yaL .NotIn) (λx y H Q=>rIn X.K true x y H Q\/qn4 X.K true x y H Q):=OpR.or qd1 (ql4 hr)
theorem qjL {K:Fr0}:OpS K qkJ (λx y H Q=>rIn K true x y H Q\/qn4 K true x y H Q):=by
 intro A H x y d v u Q hn ix iy e k
 unfold qkJ at e
 cases e1:qnV x y with
 |some b=>rw[e1]at e;exact .inl (qlV A H x y d v u Q hn ix iy (by rw[e1];exact e) k)
 |none=>rw[e1]at e;exact .inr (qjK A H x y d v u Q hn ix iy e k)
def qn5:List D->Option (List (List Int))
 | []=>some []
 |.tup ts::r=>match wH ts,qn5 r with
  |some n,some ns=>some (n::ns)
  |_,_=>none
 |_=>none
def qpm(ns:List (List Int))(i:Nat):List Int:=(ns[i]?).getD []
def qpn(ns:List (List Int)):Nat:=argBest (λi j=>HT.lexLt (qpm ns i) (qpm ns j)) (ns.length-1)
def qqU:List D->OD
 | [.lst ds]=>match qn5 ds with
  |some (n::ns)=>some (.tup ((qpm (n::ns) (qpn (n::ns))).map .int))
  |_=>none
 |_=>none
def qif(K:Fr0):V->List V->Hp->VK->Prop:=λx vs H Q=>∃(l:Addr)(xs:List V)(ds:List D)(d:D)(y:V)(A:Addr->Prop)(j:Nat),x=.ref l/\vs=[y]/\H l=some (.lst xs)/\IsL K A H ds xs/\Is K A H d y/\ds.all qal=true/\qal d=true/\ds.findIdx? (λe=>ya1 (qX e) (qX d))=some j/\Q (.int j) H
theorem qig {X:Cx} {k:Nat} (hr:vy k X.A):MtR X "list.index" (qif X.K):=by
 intro pins s σ H x vs v us Q I rx rv h
 obtain⟨l,xs,ds,d,y,A,j,rfl,rfl,hH,il,id',ok1,ok2,hj,q⟩:=h
 cases rx
 obtain⟨u,rfl,ru⟩:=zM.one rv
 obtain⟨z,its,n,r,hl,e⟩:=I.lstM hH
 obtain⟨bs,rd,_⟩:=ju I (qam ok2) id' ru
 have c2:=ve ok2
 have hlen:its.length=ds.length:=by rw[<-r.length];exact il.length
 have rds:∀m (hm:m<ds.length),∃as,Reads s.heap (its[m]'(by omega)) (qX ds[m]) as/\(qX ds[m]).canLay0=true/\(qX ds[m]).depth<=50:=λm hm=>by
  obtain⟨x1,h1,h2⟩:=il.get (gG hm)
  obtain⟨u1,h3,h4⟩:=r.get h1
  rw[gG (show m<its.length by omega)]at h3
  cases h3
  have ok:=List.all_eq_true.mp ok1 ds[m] (ybn hm)
  obtain⟨as,ra,_⟩:=ju I (qam ok) h2 h4
  exact⟨as,ra,ve ok⟩
 rw[List.findIdx?_eq_some_iff_getElem]at hj
 obtain⟨h1,h2,h3⟩:=hj
 have hz:ds.length<=yaq:=by rw[<-il.length];exact z
 rw[ybH]at hz
 have hu:=hr.units
 have val:∀m (hm:m<ds.length),ya1 (yfn s.heap (its[m]'(by omega))) (qX d)=ya1 (qX ds[m]) (qX d):=λm hm=>by
  obtain⟨as,ra,c1,_⟩:=rds m hm
  rw[SeqAt.readOf_eq c1 ra]
 refine ybU ycI ⟨_,e,rfl⟩ PySem.F.entry_list_index (PySem.F.args_list_index_2 _ _) (yfm l its.toArray n none #[] u (λy=>ya1 (yfn s.heap y) (qX d)) j (by simpa [hlen] using h1) (by omega) ?_ ?_) ⟨e,λy hy=>?_,?_⟩
 ·simp only[yeN]
  rw[val j h1]
  exact h2
 ·intro m hm hmj
  have hm':m<ds.length:=by omega
  simp only[yeN]
  rw[val m hm']
  have:=h3 m hmj
  simpa using this
 ·have hy':y∈its:=by simpa using hy
  obtain⟨i,hi⟩:=List.mem_iff_getElem?.mp hy'
  obtain⟨hi1,hi2⟩:=gI_.mp hi
  subst hi2
  obtain⟨as,ra,c1,d1⟩:=rds i (by omega)
  show yeG _ _ _ _ (ya1 (yfn s.heap its[i]) (qX d))
  rw[SeqAt.readOf_eq c1 ra]
  exact SeqAt.eqAt_reads _ _ _ _ _ _ _ _ ra rd c1 c2.1 (by show X.A.units+1+min _ _<cLine;omega)
 ·exact⟨.int _,H,I.tok _,⟨s.toks,rfl⟩,q⟩
def qc0 (x:D) (ys:List D):OD:=match x,ys with
 |.lst ds,[d]=>if ds.all qal&&qal d then(ds.findIdx? λe=>ya1 (qX e) (qX d)).map λj => .int j else none
 |_,_=>none
theorem qes {K:Fr0}:qh7 K qc0 (qif K):=by
 intro A H x ys d v vs Q hn ix iy e k
 unfold qc0 at e
 split at e
 ·rename_i ds y
  obtain⟨u,rfl,e2⟩:=IsL.inv1 iy
  obtain⟨a,xs,rfl,_,ta,il⟩:=ix
  split at e
  ·rename_i hok
   rw[yal]at hok
   cases ej:ds.findIdx? (λe=>ya1 (qX e) (qX y)) with
   |none=>rw[ej]at e;cases e
   |some j=>
    rw[ej]at e
    cases e
    exact⟨a,xs,ds,y,u,A,j,rfl,rfl,ta,il,e2,hok.1,hok.2,ej,k _ H (yn.refl H) rfl⟩
  ·cases e
 ·cases e
section
variable{X:Cx}{c:Fc}{a b e:Expr}{pos:Pos}{es:List Expr}{kk:Nat}{tp:Pos}
def qn6:List D->Option (List D)
 | [.lst xs]=>some (qag 0 xs)
 |_=>none
def qn7(f:M (List D)):M (List D):=bnd f λds=>lift (qn6 ds)
end
theorem AloneA.laid {A:yas} {H:Hp} {p:Addr} {o:HO} (x:AloneA A H) (h:H p=none):AloneA A (upd H p o):=by
 obtain⟨e,oe,u,vs,h1,h2,h3⟩:=x
 exact⟨e,oe,u,vs,h1,by rw[qM (zl h2 h)];exact h2,h3⟩
theorem AloneA.rep {K:Fr0} {c:Fc} {A:yas} (x:AloneA A c.H0) (hio:∀a,¬c.Io a) (Z:Env) (σ:St) (H:Hp) (r:Rep K c Z σ H):AloneA A H:=by
 obtain⟨e,oe,u,vs,h1,h2,h3⟩:=x
 exact⟨e,oe,u,vs,h1,r.kp _ _ h2 (hio e),h3⟩
end L2.Sk
namespace L2
open PySem PySem.Spec PyProof.Rows L2.Sk
structure qqV (P:yar) (w:World) (K:yan) (tg:Expr) (J:It) (fp:List Addr) (it:Addr) (tn:Nat->Heap->Prop):Prop where
 mem:it∈fp
 obj:∀i h,tn i h->∀b∈fp,∃o,h.get? b=some o/\∀v,o.data ≠ .cell v
 keep:∀i h h',tn i h->(∀b∈fp,∀o,h.get? b=some o->h'.get? b=some o)->tn i h'
 item:∀(X:Cx),X.prog=P->X.w=w->X.K=K->AloneA X.A X.H₀->∀(i:Nat)(pins:List (Addr×Obj))(s:yab)(σ:St)(H:Hp)(E:Value->yab->Prop),Inv X pins σ H s->(∀b∈fp,qeN X pins H b)->tn i s.heap->J.go i H ->
  wpAny (model P w) X.A (ycL (.ref it)) (λr s1=>∃u,r=some u /\
   wpAny (model P w) X.A (ycu tg (.ref it) u) (λ_ s2=>∃x H',Inv X pins σ H' s2/\yg x u/\J.yld i H x H'/\tn (i+1) s2.heap/\∀b∈fp,H' b=none) E s1) E s
 done:∀(X:Cx),X.prog=P->X.w=w->X.K=K->AloneA X.A X.H₀->∀(i:Nat)(pins:List (Addr×Obj))(s:yab)(σ:St)(H:Hp)(E:Value->yab->Prop),Inv X pins σ H s->(∀b∈fp,qeN X pins H b)->tn i s.heap->J.stop i H ->
  wpAny (model P w) X.A (ycL (.ref it)) (λr s1=>r=none/\Inv X pins σ H s1) E s
 self:∀(A:yas)(i:Nat)(s:yab)(Q:Value->yab->Prop)(E:Value->yab->Prop),tn i s.heap->Q (.ref it) s->wpAny (model P w) A (pyIter (.ref it)) Q E s
end L2
namespace L2.Sk
open PySem PySem.Spec PyProof.Rows
theorem wR.units{k:Nat}{A:yas}(r:wR k A):A.units+64<cLine:=by have:=r.un;omega
section
variable{X:Cx}{c:Fc}{e:Expr}{es:List Expr}{pos:Pos}
theorem qjM {k:Nat} {f:Addr} {fd:yaP} {ps:List Str} {F:List D->R D} {x:Str} {p:Pos} {g:M (List D)} (hal:∀Z σ H,Rep X.K c Z σ H->AloneA X.A H)
  (G:qen X.prog X.w X.K X.mg X.base CX0 k f fd ps (spD X.K F)) (hr:wR k X.A) (hg:Gl X x) (hm:X.mg x=some (.ref f)) (hk:yae X.K (.ref f)=true) (hb:wE X.K fd ps [])
  (ha:DA X c (e::es) g) (hd:(x==("__debug__":Str))=false:=by decide) (he:yah (e::es) X.env=(false,eval e X.env)::yah es X.env:=by rfl) (hpl:(yaR pos (yah es X.env)).any (·.1)=false:=by rfl):DE X c (.Call (.Name x p) (e::es) [] pos) (qj F g):=by
 obtain⟨t,pa,w⟩:=ha
 refine⟨_,qfX (E:=λ_ _ _=>False) G hr hg hm hk hb .nil (λ_ _ _ _ _ _ _ z=>z.elim) pa hd he hpl,λZ σ H Q r h=>w Z σ H _ r (WpL.bnd h λds Z1 vs H1 r1 i1 g1 h1=>⟨hal _ _ _ r1,?_⟩)⟩
 rw[ybh]
 refine⟨ds,Cn c σ,i1,r1.tb,?_⟩
 cases ef:F ds with
 |bad=>simp only[ef]at h1;exact h1.elim
 |exc z Z'=>simp only[ef]at h1;exact h1.elim
 |ok d=>
  simp only[ef]at h1
  exact λv H' sm i=>h1 v H' (r1.same sm) (Is.ext Ext.refl (λa ha _=>ha.elim id r1.new) i) (.of_same sm)
end
section
variable{X:Cx}{c:Fc}{a b e:Expr}{pos:Pos}
def qkK(F:List D->List D->OD)(f g:M (List D)):M D:=bnd f λxs=>bnd g λzs=>lift (F xs zs)
end
def qqW (xs zs:List D):OD:=match xs,zs with
 | [.lst ds],[z]=>(wH ds).map λns=>if ns=[]then z else .int (qcU ns)
 |_,_=>none
def slB (x:D) (lo hi:Option Int):OD:=match x with
 |.tup ds=>some (.tup (qbK ds lo hi))
 |.lst ds=>some (.lst (qbK ds lo hi))
 |_=>none
def wS(f:M D)(g k:M (Option Int)):M D:=bnd f λd=>bnd g λl=>bnd k λu=>lift (slB d l u)
section
variable{X:Cx}{c:Fc}{a b e:Expr}{pos p2:Pos}
theorem ul {lo hi:Option Expr} {f:M D} {g k:M (Option Int)} (ha:DE X c a f) (hl:DO X c lo g) (hu:DO X c hi k):DE X c (.Subscript a (.Slice lo hi none p2) pos) (wS f g k):=by
 obtain⟨ta,pa,wa⟩:=ha
 obtain⟨tl,pl,wl⟩:=hl
 obtain⟨tu,pu,wu⟩:=hu
 refine⟨_,qjc (SlR.or qnC qll) pa pl pu,λZ σ H Q r h=>wa Z σ H _ r (Wp.bnd h λd Z1 v H1 r1 i1 g1 h1=>?_)⟩
 refine wl Z1 σ H1 _ r1 (λl Z2 e2 H2 r2 g2=>?_) (λx Z2 e2 H2 r2 g2=>?_) (λe2=>?_)
 ·rw [qb6 e2]at h1
  have h1:=h1.gr g2
  refine wu Z2 σ H2 _ r2 (λu Z3 e3 H3 r3 g3=>?_) (λx Z3 e3 H3 r3 g3=>?_) (λe3=>?_)
  ·rw [qb6 e3]at h1
   obtain⟨d',e4,h4⟩:=h1.lift
   have i3:=g3.is (g2.is i1)
   clear h1
   cases d<;>simp only[slB]at e4<;>try (cases e4;done)
   ·rename_i ds
    cases e4
    obtain⟨a,xs,rfl,ta,il⟩:=i3
    refine .inl ?_
    by_cases hw:HT.sIx xs.length 0 l=0/\HT.sIx xs.length xs.length u=xs.length
    ·refine .inl ⟨a,xs,rfl,ta.sq,hw,h4 _ H3 r3 ⟨a,xs,rfl,ta,?_⟩ g3⟩
     have e5:qbK ds l u=ds:=by
      unfold qbK
      rw[<-il.length,hw.1,hw.2]
      simp[il.length]
     rw[e5];exact il
    ·refine .inr ⟨a,xs,rfl,ta.sq,hw,λp hp=>h4 _ _ (r3.laid hp _) ⟨p,qiU xs l u,rfl,.inl qK,?_⟩ (g3.trans (.of_same (qG hp _)))⟩
     refine IsL.ext (Ext.of_same (qG hp _)) (λ_ h _=>h) ?_
     unfold qbK qiU
     rw[<-il.length]
     exact IsL.take _ (IsL.drop _ il)
   ·rename_i ds
    cases e4
    obtain⟨a,xs,rfl,hA,ta,il⟩:=i3
    refine .inr ⟨a,xs,rfl,.inl (.inl ta),λp hp=>h4 _ _ (r3.laid hp _) ⟨p,qiU xs l u,rfl,r3.new hp,qK,?_⟩ (g3.trans (.of_same (qG hp _)))⟩
    refine IsL.ext (Ext.of_same (qG hp _)) (λ_ h _=>h) ?_
    unfold qbK qiU
    rw[<-il.length]
    exact IsL.take _ (IsL.drop _ il)
  ·unfold bnd at h1;rw[e3]at h1;exact h1 H3 r3 g3
  ·unfold bnd at h1;rw[e3]at h1;exact h1
 ·unfold bnd at h1;rw[e2]at h1;exact h1 H2 r2 g2
 ·unfold bnd at h1;rw[e2]at h1;exact h1
def qpo (x y:D):Option (List D):=match x,y with
 |.lst ds,.int k=>if(decide (-(2 ^ 62)<=k)&&decide (k<2 ^ 62))&&(zx (ds.length*k.toNat)&&immL ds)then some (yat k.toNat ds).flatten else none
 |_,_=>none
def qqd(f g:M D):M (List D):=bnd f λx=>bnd g λy=>lift (qpo x y)
def qqX (f:M D):M (List D):=bnd f λx=>lift (match x with
 |.lst ds=>if immL ds then some ds else none
 |.tup ds=>if immL ds then some ds else none
 |_=>none)
def qih (i:Nat) (f:M D):M D:=λZ=>match jr i Z with
 |none => .bad
 |some _=>(bnd f λd Z=>match d,jr i Z with
  |.lst es,some ds=>if immL es&&zx (ds.length+es.length)then .ok (.non,Z.set i (some (.lst (ds++es))))else .bad
  |_,_ => .bad) Z
def qqe (f:M (List D)):M (List D):=λZ=>match f Z with
 |.ok ([.tup _],_)=>qej f Z
 |_=>qn7 f Z
end
section
variable{Z:Env}{f g:M D}{l k:M (List D)}
theorem qoL (F:List D->List D->OD):qkK F l k Z=match l Z with|.ok (xs,Z1)=>(match k Z1 with|.ok (zs,Z2)=>(match F xs zs with|some d => .ok (d,Z2)|none => .bad)|.exc x Z' => .exc x Z'|.bad => .bad)|.exc x Z' => .exc x Z'|.bad => .bad:=by
 simp only[qkK,bnd]
 cases l Z with
 |ok z=>
  obtain⟨z1,Z1⟩:=z
  dsimp only
  cases k Z1 with
  |ok z=>obtain⟨z2,Z2⟩:=z;(dsimp only;cases F z1 z2<;>rfl)
  |exc x Z'=>rfl
  |bad=>rfl
 |exc x Z'=>rfl
 |bad=>rfl
theorem qqf:qqd f g Z=match f Z with|.ok (x,Z1)=>(match g Z1 with|.ok (y,Z2)=>(match qpo x y with|some ds => .ok (ds,Z2)|none => .bad)|.exc x Z' => .exc x Z'|.bad => .bad)|.exc x Z' => .exc x Z'|.bad => .bad:=by
 simp only[qqd,bnd]
 cases f Z with
 |ok z=>
  obtain⟨z1,Z1⟩:=z
  dsimp only
  cases g Z1 with
  |ok z=>obtain⟨z2,Z2⟩:=z;(dsimp only;cases qpo z1 z2<;>rfl)
  |exc x Z'=>rfl
  |bad=>rfl
 |exc x Z'=>rfl
 |bad=>rfl
theorem qn8 (i:Nat):qih i f Z=match jr i Z with
  |none => .bad
  |some _=>(match f Z with|.ok (d,Z1)=>(match d,jr i Z1 with|.lst es,some ds=>(if immL es&&zx (ds.length+es.length)then .ok (.non,Z1.set i (some (.lst (ds++es))))else .bad)|_,_ => .bad)|.exc x Z' => .exc x Z'|.bad => .bad):=by
 unfold qih
 cases jr i Z with
 |none=>rfl
 |some z=>
  simp only[bnd]
  cases f Z with
  |ok z=>obtain⟨z1,Z1⟩:=z;rfl
  |exc x Z'=>rfl
  |bad=>rfl
theorem qn9 (p q:M (Option Int)):wS f p q Z=match f Z with|.ok (d,Z1)=>(match p Z1 with|.ok (l,Z2)=>(match q Z2 with|.ok (u,Z3)=>(match slB d l u with|some r => .ok (r,Z3)|none => .bad)|.exc x Z' => .exc x Z'|.bad => .bad)|.exc x Z' => .exc x Z'|.bad => .bad)|.exc x Z' => .exc x Z'|.bad => .bad:=by
 simp only[wS,bnd]
 cases f Z with
 | ok z=>
  obtain⟨z1,Z1⟩:=z
  dsimp only
  cases p Z1 with
  |ok z=>
   obtain⟨z2,Z2⟩:=z
   dsimp only
   cases q Z2 with
   |ok z=>obtain⟨z3,Z3⟩:=z;(dsimp only;cases slB z1 z2 z3<;>rfl)
   |exc x Z'=>rfl
   |bad=>rfl
  |exc x Z'=>rfl
  |bad=>rfl
 |exc x Z'=>rfl
 |bad=>rfl
end
section
variable{X:Cx}{c:Fc}{e:Expr}{es:List Expr}{pos:Pos}
theorem dC {k j:Nat} {ps:List Str} {F:List D->R D} {x:Str} {p:Pos} {g:M (List D)} (C:qB X.prog X.w X.K X.mg X.base k x ps (spD X.K F)) (hr:vy j X.A) (ha:DA X c (e::es) g)
  (hk:k<=j:=by decide) (hg:Gl X x:=by rfl) (hd:(x==("__debug__":Str))=false:=by decide) (he:yah (e::es) X.env=(false,eval e X.env)::yah es X.env:=by rfl) (hpl:(yaR pos (yah es X.env)).any (·.1)=false:=by rfl):DE X c (.Call (.Name x p) (e::es) [] pos) (qj F g):=by
 obtain⟨f,fd,G,m,kk,b⟩:=C.ex
 exact qlD G (hr.mono hk) hg m kk b ha hd he hpl
theorem nC {k j:Nat} {ps:List Str} {F:List D->R D} {x:Str} {p:Pos} {g:M (List D)} (C:qB X.prog X.w X.K X.mg X.base k x ps (spD X.K F)) (hr:vy j X.A) (ha:DA X c (e::es) g)
  (hk:k<=j:=by decide) (hg:Gl X x:=by rfl) (hd:(x==("__debug__":Str))=false:=by decide) (he:yah (e::es) X.env=(false,eval e X.env)::yah es X.env:=by rfl) (hpl:(yaR pos (yah es X.env)).any (·.1)=false:=by rfl):DN X c (.Call (.Name x p) (e::es) [] pos) (qeg F g):=by
 obtain⟨f,fd,G,m,kk,b⟩:=C.ex
 exact qlO G (hr.mono hk) hg m kk b ha hd he hpl
theorem iC {k j i:Nat} {ps:List Str} {F:List D->List D->R (D×List D)} {x y:Str} {p p1:Pos} {g:M (List D)} (C:qB X.prog X.w X.K X.mg X.base k x ps (qba X.K F)) (hr:vy j X.A) (ha:DA X c es g)
  (hk:k<=j:=by decide) (hg:Gl X x:=by rfl) (ho:i∈c.O:=by exact of_decide_eq_true rfl) (hN:X.N[i]? = some y:=by rfl) (hv:Vis X.env.scope y:=by first|exact ybr rfl|exact ya3 (ybr rfl)|exact ya3 (ya3 rfl)) (hdy:(y==("__debug__":Str))=false:=by decide) (hcd:(y==("__classdict__":Str))=false:=by decide)
  (hd:(x==("__debug__":Str))=false:=by decide) (he:yah (.Name y p1::es) X.env=(false,eval (.Name y p1) X.env)::yah es X.env:=by rfl) (hpl:(yaR pos (yah es X.env)).any (·.1)=false:=by rfl):DE X c (.Call (.Name x p) (.Name y p1::es) [] pos) (ql F i g):=by
 obtain⟨f,fd,G,m,kk,b⟩:=C.ex
 exact qhM G (hr.mono hk) hg m kk b ha ho hN hv hdy hcd hd he hpl
theorem xC {k j:Nat} {ps:List Str} {F:List D->R D} {x:Str} {p:Pos} {g:M (List D)} {E:XK} {cl:Str->Option Addr} {RN:List Str} (L:XL2 X c cl E) (hcl:∀n,RN.contains n=true->(cl n).isSome=true) (C:wQ X.prog X.w X.K X.mg X.base k x ps (spX X.K cl F)) (hr:vy j X.A) (ha:DA X c (e::es) g)
  (hk:k<=j:=by decide) (hg:Gl X x:=by rfl) (hd:(x==("__debug__":Str))=false:=by decide) (he:yah (e::es) X.env=(false,eval e X.env)::yah es X.env:=by rfl) (hpl:(yaR pos (yah es X.env)).any (·.1)=false:=by rfl):DE X c (.Call (.Name x p) (e::es) [] pos) (wP RN F g):=by
 obtain⟨f,fd,G,m,kk,b⟩:=C.ex
 exact qjC L hcl G (hr.mono hk) hg m kk b ha hd he hpl
theorem pC {k j:Nat} {ps:List Str} {F:List D->R D} {x:Str} {p:Pos} {g:M (List D)} {cl:Str->Option Addr} (C:wQ X.prog X.w X.K X.mg X.base k x ps (spX X.K cl F)) (hr:vy j X.A) (ha:DA X c (e::es) g)
  (hk:k<=j:=by decide) (hg:Gl X x:=by rfl) (hd:(x==("__debug__":Str))=false:=by decide) (he:yah (e::es) X.env=(false,eval e X.env)::yah es X.env:=by rfl) (hpl:(yaR pos (yah es X.env)).any (·.1)=false:=by rfl):DE X c (.Call (.Name x p) (e::es) [] pos) (vd F g):=by
 obtain⟨f,fd,G,m,kk,b⟩:=C.ex
 exact qjD G (hr.mono hk) hg m kk b ha hd he hpl
theorem lC {k j:Nat} {ps:List Str} {F:List D->R D} {x:Str} {p:Pos} {g:M (List D)} (hal:∀Z σ H,Rep X.K c Z σ H->AloneA X.A H) (C:qid X.prog X.w X.K X.mg X.base k x ps (spD X.K F)) (hr:wR j X.A) (ha:DA X c (e::es) g)
  (hk:k<=j:=by decide) (hg:Gl X x:=by rfl) (hd:(x==("__debug__":Str))=false:=by decide) (he:yah (e::es) X.env=(false,eval e X.env)::yah es X.env:=by rfl) (hpl:(yaR pos (yah es X.env)).any (·.1)=false:=by rfl):DE X c (.Call (.Name x p) (e::es) [] pos) (qj F g):=by
 obtain⟨f,fd,G,m,kk,b⟩:=C.ex
 exact qjM hal G (hr.mono hk) hg m kk b ha hd he hpl
theorem gI {x:Str} {i:Int} (h:∃t,X.mg x=some (.int i t)) (hg:Gl X x:=by rfl) (hd:(x==("__debug__":Str))=false:=by decide):DE X c (.Name x pos) (ret (.int i)):=by
 obtain⟨t,h⟩:=h
 exact qhx (v:=.int i) (d:=.int i) hg h ⟨_,rfl⟩ (λ_ _=>rfl) hd
theorem gT {x:Str} {ns:List Int} (h:∃a,X.mg x=some (.ref a)/\qoK X.K a ns) (hg:Gl X x:=by rfl) (hd:(x==("__debug__":Str))=false:=by decide):DE X c (.Name x pos) (ret (.tup (ns.map .int))):=by
 obtain⟨a,h1,h2⟩:=h
 exact qjz hg h1 h2 hd
end
theorem nd(N:List Str)(h:N.Nodup:=by decide +kernel):N.Nodup:=h
theorem cs {X:Cx} (N N':List Str) (nt:Nat) (fr:List Nat) (outer:Scope) {scope:Scope} (h0:scope.kind=.function:=by rfl) (h1:∀y∈scope.names,y.2 ≠ .cell:=by decide +kernel) (h2:∀y∈scope.names,y.2=.local->scope.names.lookup y.1=some .local:=by decide +kernel)
  (h3:∀y∈scope.names,y.2=.free->outer.names.lookup y.1=some .cell:=by decide +kernel) (h4:N'.length=nt+fr.length:=by rfl) (h5:∀p∈fr.zipIdx,N'[nt+p.2]? = N[p.1]? /\ ((N[p.1]?).bind λx=>scope.names.lookup x)=some .free:=by decide +kernel)
  (h6:X.env.scope=outer:=by rfl) (h7:X.N=N:=by rfl):ui X scope N' nt fr:=qlP.ok (outer:=outer) (N:=N) ⟨h0,h1,h2,h3,h4,h5⟩ h6 h7
theorem f0{c:Fc}{nt:Nat}(fr O:List Nat)(e:c.O=O:=by rfl)(h:∀j∈fr,j ∉ O:=by decide):qlA c nt fr none:=λj hj=>by rw[e];exact h j hj
theorem f1 {c:Fc} (nt:Nat) (fr O:List Nat) (i j:Nat) (e:c.O=O:=by rfl) (h1:j∈O:=by decide) (h2:nt<=i:=by decide) (h3:fr[i-nt]? = some j:=by rfl) (h4:∀p∈fr.zipIdx,nt+p.2≠i->p.1 ∉ O:=by decide):qlA c nt fr (some (i,j)) :=
 qlQ (by rw[e];exact h1) h2 h3 (by rw[e];exact h4)
end L2.Sk
namespace L2.Sk
open PySem PySem.Spec PyProof.Rows
section
variable{X:Cx}{c:Fc}{a b e:Expr}{pos:Pos}
def qii (i:Nat) (f:M D):M D:=λZ=>match jr i Z with
 |none => .bad
 |some _=>(bnd f λd Z=>match jr i Z with
  |some ds=>if zx (ds.length+1)then .ok (.non,Z.set i (some (.lst (d::ds))))else .bad
  |none => .bad) Z
end
section
variable{X:Cx}{c:Fc}{a e:Expr}{pos:Pos}{tg:Expr}
def qpp:List D->Option (List D)
 | [.tup xs]=>some xs.reverse
 |_=>none
def qqg(f:M (List D)):M (List D):=bnd f λds=>lift (qpp ds)
theorem qqh {l:M (List D)} {Z:Env}:qqg l Z=match l Z with|.ok (d,Z1)=>(match qpp d with|some ds => .ok (ds,Z1)|none => .bad)|.exc x Z' => .exc x Z'|.bad => .bad:=by
 simp only[qqg,bnd]
 cases l Z with
 |ok z=>obtain⟨z1,Z1⟩:=z;(dsimp only;cases qpp z1<;>rfl)
 |exc x Z'=>rfl
 |bad=>rfl
theorem qoa {f:M D} {Z:Env} (i:Nat):qii i f Z=match jr i Z with
  |none => .bad
  |some _=>(match f Z with
   |.ok (d,Z1)=>(match jr i Z1 with|some ds=>(if zx (ds.length+1)then .ok (.non,Z1.set i (some (.lst (d::ds))))else .bad)|none => .bad)
   |.exc x Z' => .exc x Z'|.bad => .bad):=by
 unfold qii
 cases jr i Z with
 |none=>rfl
 |some z=>
  simp only[bnd]
  cases f Z with
  |ok z=>obtain⟨z1,Z1⟩:=z;rfl
  |exc x Z'=>rfl
  |bad=>rfl
end
end L2.Sk
namespace HT
open PySem PySem.Spec PyProof.Rows
section
variable{prog:yar}{w:World}{A:yas}{E:Value->yab->Prop}{s:yab}
theorem qij (n:Nat):((yay n).map λk=>n-1-k)=(yay n).reverse:=by
 refine List.ext_getElem (by simp) λi h1 h2=>?_
 simp
theorem qf3 {α β:Type} {f g:α->Option β}:∀l:List α,(∀a∈l,f a=g a)->l.filterMap f=l.filterMap g
 | [],_=>rfl
 |a::l,h=>by rw[ybe,ybe,h a mS_,qf3 l λx hx=>h x (mM _ hx)]
theorem qf4 (xs:Array Value):((yay xs.size).filterMap λ(m:Nat)=>xs[(((xs.size:Int)-1)+(m:Int) * -1).toNat]?)=xs.toList.reverse:=by
 have e:((yay xs.size).filterMap λ(m:Nat)=>xs[(((xs.size:Int)-1)+(m:Int) * -1).toNat]?)=((yay xs.size).map λk=>xs.size-1-k).filterMap λx=>xs[x]? := by
  rw[ycC]
  refine qf3 _ λm hm=>?_
  have:=mR_.mp hm
  have e:(((xs.size:Int)-1)+(m:Int) * -1).toNat=xs.size-1-m:=by omega
  rw[e]
  rfl
 rw[e,qij,List.filterMap_reverse]
 have:=pick_run xs 0 xs.size
 rw[ycC]at this
 have e2:((λx=>xs[x]?)∘λx=>0+x)=λx=>xs[x]? := by
  funext x
  show xs[0+x]? = _
  rw[yaV]
 rw[e2]at this
 rw[this,List.drop_zero]
 congr 1
 exact yeo (by simp)
theorem qfd {sl:Addr} {vk:Value} {n:Nat} {Q:Int×Int×Nat->yab->Prop} (hs:s.heap.IsSliceOf sl .none .none vk) (pk:ycB vk (some (-1)))
  (h:Q ((n:Int)-1,-1,n) s):wpAny (model prog w) A (ybQ (.ref sl) (pure (n:Int))) Q E s:=by
 obtain⟨os,hos,hcs,hds⟩:=id hs
 unfold ybQ ydL
 refine yaa (yaa (yaC hos hds (x:=.none) rfl (yaa (yaC hos hds (x:=.none) rfl (yaa (yaC hos hds (x:=vk) rfl (yag ?_)))))))
 refine yaa (qa4 pk ?_)
 show wpAny _ _ (if((-1:Int)==0)=true then _ else _) _ _ s
 rw[if_neg (by decide)]
 refine yaa (ydm (yaa (ydm (yaa (yag ?_)))))
 show wpAny _ _ (pure ((n:Int)-1,(-1:Int),ya8 ((n:Int)-1) (-1) (-1))) _ _ s
 have e:ya8 ((n:Int)-1) (-1) (-1)=n:=by
  unfold ya8
  rw[if_neg (by decide),show(- -1:Int)=1 from rfl,yfc]
  split<;>omega
 rw[e]
 exact yag h
theorem getItem_tuple_rev {t sl:Addr} {items:Array Value} {vk:Value} {Q:Value->yab->Prop} (ht:IsTup s.heap t items) (hs:s.heap.IsSliceOf sl .none .none vk) (pk:ycB vk (some (-1)))
  (h:Q (.ref s.heap.objs.size) {s with heap:=s.heap.push {cls:=.type "tuple",data:=.seq items.toList.reverse.toArray} })
  (hsz:items.size<=yaq):wpAny (model prog w) A (yco (.ref t) (.ref sl)) Q E s:=by
 have htake:sizeOk (.seq items.toList.reverse.toArray):=by
  show items.toList.reverse.toArray.size<=yaq
  rw[sT_,ycr,ycp]
  exact hsz
 obtain⟨os,hos,hcs,hds⟩:=id hs
 have hTs:s.TypeIs (.ref sl) "slice":=⟨os,hos,hcs⟩
 unfold yco
 try with_reducible refine yba ?_
 first|refine yaa (yag ?_)|skip
 refine yaa (ydJ ht.typeIs (by decide) ?_)
 refine yaa (wpAny_callSpecial?_slot (name:=ybJ "__getitem__") ht.typeIs ya2
  (ybG ya2 ht.typeIs ydh ?_ (ydw _ _)))
 show wpAny _ _ (ych (.ref t) >>= _) _ _ s
 refine yaa (yeT ht ?_)
 refine yaa (yc7 hTs ?_)
 rw[if_pos (by decide)]
 refine yaa (qfd hs pk ?_)
 have hno:¬((((items.size:Int)-1)==0&&(-1:Int)==1&&items.size==items.size)=true):=by
  intro q
  rw[yal,yal]at q
  exact absurd q.1.2 (by decide)
 show wpAny _ _ (if(((items.size:Int)-1)==0&&(-1:Int)==1&&items.size==items.size)=true then _ else _) _ _ s
 rw[if_neg hno,qf4]
 first
  |exact yaa (m:=yaZ _) (yaN (yag ⟨_,rfl,yag h⟩) htake)
  |exact yaa (m:=yaZ _) (yaN (yaa (yag (yag ⟨_,rfl,yag h⟩))) htake)
  |exact yaa (yaa (m:=yaZ _) (yaN (yag (yag ⟨_,rfl,yag h⟩)) htake))
  |exact yaa (yaa (m:=yaZ _) (yaN (yag ⟨_,rfl,yag h⟩) htake))
theorem rev_slicePick (its:List Value):yff its.toArray none none (some (-1))=its.reverse.toArray:=by
 have b:yb7 none none (some (-1)) its.toArray.size=((its.toArray.size:Int)-1,-1,-1):=rfl
 unfold yff
 rw[b]
 show((yfX ((its.toArray.size:Int)-1) (-1) (-1)).filterMap λx=>its.toArray[x]?).toArray=_
 have c:yfX ((its.toArray.size:Int)-1) (-1) (-1)=(yay its.toArray.size).map λ(m:Nat)=>(((its.toArray.size:Int)-1)+(m:Int) * -1).toNat:=by
  unfold yfX
  have e:(if(-1:Int)>0 then(if(its.toArray.size:Int)-1 < -1 then(-1-((its.toArray.size:Int)-1) + -1-1) / -1 else 0)else if(its.toArray.size:Int)-1 > -1 then((its.toArray.size:Int)-1 - -1 - -1-1) / - -1 else 0).toNat=its.toArray.size:=by
   rw[if_neg (by decide),show(- -1:Int)=1 from rfl,yfc]
   split<;>omega
  simp only[e]
  refine ye0 λm _=>?_
  congr 1
  omega
 rw[c,ycC]
 have:=qf4 its.toArray
 exact congrArg List.toArray this
end
end HT
namespace L2
open PySem PySem.Spec PyProof.Rows
section
variable{X:Cx}{e:Expr}{te:TE}{ste:Expr}{ts:TO}{pos p2:Pos}
def qpq(K:yan):V->Hp->VK->Prop:=λx H Q=>∃a xs,x=.ref a/\((SqT K H a xs/\∀p,H p=none->Q (.ref p) (upd H p (.tup xs.reverse)))\/(SqL K H a xs/\∀p,H p=none->Q (.ref p) (upd H p (.lst xs.reverse))))
theorem ql6 (he:PE X e te) (hs:PO X (some ste) ts):PE X (.Subscript e (.Slice none none (some ste) p2) pos) (λσ H Q=>te σ H λx H1=>ts σ H1 λl H2=>l=some (-1)/\qpq X.K x H2 Q):=by
 intro pins s σ H Q I h
 refine yfV (thn (he pins s σ H _ I h) λv s1 ⟨x,H1,I1,r1,q1⟩=>?_)
 refine wpAny_Slice ?_
 rw[yeU]
 refine yag (yag (thn (hs pins s1 σ H1 _ I1 q1) λvk s3 ⟨k,H3,I3,pk,q3⟩=>?_))
 obtain⟨rfl,a,xs,rfl,q3⟩:=q3
 have I4:Inv X pins σ H3 {s3 with heap:=s3.heap.push {cls:=.type "slice",data:=.fields #[.none,.none,vk]} }:=I3.kept (t':=s3.toks) λb ob q=>Heap.get?_push_of_some _ q
 have hsl:=yfd s3.heap .none .none vk
 cases r1
 rcases q3 with⟨hx,q⟩|⟨hx,q⟩
 ·obtain ⟨its,r,ht,hz⟩:=I4.tuple hx
  have hlen:its.toArray.size=xs.length:=by rw[sT_];exact r.length.symm
  have hg:wpAny (model X.prog X.w) X.A (yco (.ref a) (.ref s3.heap.objs.size)) (EP X pins σ Q) X.xe {s3 with heap:=s3.heap.push {cls:=.type "slice",data:=.fields #[.none,.none,vk]} }:=by
   refine HT.getItem_tuple_rev ht hsl pk ?_ (by rw[hlen];exact hz)
   refine⟨.ref _,_,I4.laid (t':=s3.toks) (o:=.tup xs.reverse) (λb ob q=>Heap.get?_push_of_some _ q) (yac _) ?_,rfl,q _ (I4.hok.fresh (yac _))⟩
   exact⟨by rw[ycr];exact hz,_,r.reverse,ydt _ _⟩
  exact tail_any (ops:=[.ref a,.ref s3.heap.objs.size]) ht.typeIs PyProof.Rows.slot_tuple_getitem.lookup hg (by with_unfolding_all rfl)
 ·obtain ⟨its,r,ht,hz⟩:=I4.list hx
  have hlen:=r.length
  have hg:wpAny (model X.prog X.w) X.A (yco (.ref a) (.ref s3.heap.objs.size)) (EP X pins σ Q) X.xe {s3 with heap:=s3.heap.push {cls:=.type "slice",data:=.fields #[.none,.none,vk]} }:=by
   refine ydX ht.isList hsl .none .none pk (by simp) ?_ (by rw[sT_]<;>omega)
   rw[HT.rev_slicePick]
   refine⟨.ref _,_,I4.laid (t':=s3.toks) (o:=.lst xs.reverse) (λb ob q=>Heap.get?_push_of_some _ q) (yac _) ?_,rfl,q _ (I4.hok.fresh (yac _))⟩
   exact⟨by rw[ycr];exact hz,_,0,r.reverse,Heap.get?_push_size _ rfl⟩
  exact tail_any (ops:=[.ref a,.ref s3.heap.objs.size]) ht.isList.typeIs slot_list_getitem.lookup hg (by with_unfolding_all rfl)
end
end L2
namespace L2.Sk
open PySem PySem.Spec PyProof.Rows
theorem IsL.rev {K:Fr0} {A:Addr->Prop} {H:Hp}:∀{ds:List D}{xs:List V},IsL K A H ds xs->IsL K A H ds.reverse xs.reverse:=by
 intro ds
 induction ds with
 |nil=>
  intro xs h
  cases xs with
  |nil=>exact h
  |cons x xs=>exact absurd h.length (by simp)
 |cons d ds ih=>
  intro xs h
  obtain⟨x,ys,rfl,h1,h2⟩:=h
  rw[ycJ,ycJ]
  have one:IsL K A H [d] [x]:=⟨x,[],rfl,h1,IsL.take 0 h2⟩
  exact IsL.append (ih h2) one
def qoM:D->OD
 |.tup ds=>some (.tup ds.reverse)
 |.lst ds=>some (.lst ds.reverse)
 |_=>none
def qet(f:M D):M D:=bnd f λd=>lift (qoM d)
section
variable{X:Cx}{c:Fc}{a:Expr}{pos p2 p3 p4:Pos}{cj:Nat}
theorem ql7 {f:M D} (ha:DE X c a f):DE X c (.Subscript a (.Slice none none (some (.UnaryOp .USub (.Constant (.int 1) cj p3) p4)) p2) pos) (qet f):=by
 obtain⟨ta,pa,wa⟩:=ha
 obtain⟨tk,pk,wk⟩:=qbB (X:=X) (c:=c) (pos:=p4) (qf (X:=X) (c:=c) (i:=1) (j:=cj) (pos:=p3))
 refine⟨_,ql6 pa (qhr pk),λZ σ H Q r h=>wa Z σ H _ r (Wp.bnd h λd Z1 v H1 r1 i1 g1 h1=>?_)⟩
 refine wk Z1 σ H1 _ r1 ?_
 have e0:d1 qbA (ret (.int 1)) Z1=.ok (.int (-1),Z1):=rfl
 rw[e0]
 intro u H2 r2 i2 g2
 have hu:u=V.int (-1):=i2
 refine⟨-1,hu,rfl,?_⟩
 obtain⟨d',e,h3⟩:=(h1.gr g2).lift
 have i3:=g2.is i1
 clear h1
 cases d<;>simp only[qoM]at e<;>try (cases e;done)
 ·cases e
  obtain⟨b,xs,rfl,tb,il⟩:=i3
  exact⟨b,xs,rfl,.inl ⟨tb.sq,λp hp=>h3 _ _ (r2.laid hp _) ⟨p,xs.reverse,rfl,.inl qK,IsL.ext (Ext.of_same (qG hp _)) (λ_ h _=>h) (IsL.rev il)⟩ (.of_same (qG hp _))⟩⟩
 ·cases e
  obtain⟨b,xs,rfl,hA,tb,il⟩:=i3
  exact⟨b,xs,rfl,.inr ⟨.inl (.inl tb),λp hp=>h3 _ _ (r2.laid hp _) ⟨p,xs.reverse,rfl,r2.new hp,qK,IsL.ext (Ext.of_same (qG hp _)) (λ_ h _=>h) (IsL.rev il)⟩ (.of_same (qG hp _))⟩⟩
theorem ql8 {f:M D} {Z:Env}:qet f Z=match f Z with|.ok (d,Z1)=>(match qoM d with|some x => .ok (x,Z1)|none => .bad)|.exc x Z' => .exc x Z'|.bad => .bad:=by
 simp only[qet,bnd]
 cases f Z with
 |ok z=>obtain⟨z1,Z1⟩:=z;(dsimp only;cases qoM z1<;>rfl)
 |exc x Z'=>rfl
 |bad=>rfl
end
end L2.Sk
namespace L2
open PySem PySem.Spec PyProof.Rows
end L2
namespace L2.Srt
open PySem PySem.W PyProof.Rows
def runK {α:Type} (cmp:Nat->Nat->Bool):KasT α->α
 |.ret a=>a
 |.ask i j k=>runK cmp (k (cmp i j))
def Fits {α:Type} (n:Nat) (R:α->Prop):KasT α->Prop
 |.ret a=>R a
 |.ask i j k=>i<n/\j<n/\∀b,Fits n R (k b)
theorem Fits.bind {α β:Type} {n:Nat} {R:α->Prop} {R':β->Prop} {f:α->KasT β} (hf:∀a,R a->Fits n R' (f a)):∀{t:KasT α},Fits n R t->Fits n R' (t.bind f)
 |.ret _,h=>hf _ h
 |.ask _ _ _,⟨h1,h2,h3⟩=>⟨h1,h2,λb=>Fits.bind hf (h3 b)⟩
theorem Fits.run {α:Type} {n:Nat} {R:α->Prop} {cmp:Nat->Nat->Bool}:∀{t:KasT α},Fits n R t->R (runK cmp t)
 |.ret _,h=>h
 |.ask i j k,h=>Fits.run (t:=k (cmp i j)) (h.2.2 (cmp i j))
def Pl(n:Nat)(p:Array Nat):Prop:=p.size=n/\p.toList.Perm (yay n)
theorem Pl.of_perm{n:Nat}{p q:Array Nat}(h:Pl n p)(hq:q.Perm p):Pl n q:=⟨hq.size_eq.trans h.1,(Array.perm_iff_toList_perm.mp hq).trans h.2⟩
theorem Pl.lt {n:Nat} {p:Array Nat} (h:Pl n p) (hn:0<n) (k:Nat):p.getD k 0<n:=by
 by_cases hk:k<p.size
 ·have e:p.getD k 0=p[k]:=by simp[Array.getD,hk]
  rw[e]
  have hm:p[k]∈p.toList:=by simp
  exact mR_.mp (h.2.mem_iff.mp hm)
 ·have e:p.getD k 0=0:=by simp[Array.getD,hk]
  rw[e];exact hn
theorem Pl.rev{n:Nat}{p:Array Nat}(h:Pl n p)(i j:Nat):Pl n (kas_rev p i j):=h.of_perm (mirror_perm _ _ _ _)
theorem qdv {n:Nat} (hn:0<n) {p:Array Nat} (h:Pl n p):∀f m,Fits n (λ_=>True) (kas_asc p f m)
 |0,_=>yb4
 |f+1,m=>⟨h.lt hn _,h.lt hn _,λc=>by
  dsimp only
  split
  ·exact yb4
  ·exact qdv hn h f (m+1)⟩
theorem qaR {n:Nat} (hn:0<n):∀f {p:Array Nat} (_:Pl n p) m q,Fits n (λr=>Pl n r.1) (kas_desc f p m q)
 |0,_,h,_,_=>h
 | f+1,p,h,m,q=>⟨h.lt hn _,h.lt hn _,λc=>by
  dsimp only
  split
  ·split
   ·exact qaR hn f (h.rev _ _) _ _
   ·exact qaR hn f h _ _
  ·refine⟨h.lt hn _,h.lt hn _,λd=>?_⟩
   dsimp only
   split
   ·exact h
   ·exact qaR hn f h _ _⟩
theorem qc1 {n:Nat} (hn:0<n) {p:Array Nat} (h:Pl n p) (m nrem:Nat):Fits n (λr=>Pl n r.2) (kas_tail3 m nrem p) :=
 Fits.bind (R:=λ_=>True) (n:=n) (R':=λr:Nat×Array Nat=>Pl n r.2) (f:=λk => .ret (k,kas_rev p 0 m)) (λ_ _=>h.rev 0 m) (qdv hn (h.rev _ _) _ _)
theorem qaS {n:Nat} (hn:0<n) {p:Array Nat} (h:Pl n p) (m nrem:Nat):Fits n (λr=>Pl n r.2) (kas_descPart m nrem p) :=
 Fits.bind (R:=λr=>Pl n r.1) (λr hr=>by
  split
  ·exact qc1 hn (hr.rev _ _) _ _
  ·exact qc1 hn hr _ _) (qaR hn _ h _ _)
theorem qgO {n:Nat} (hn:0<n) {p:Array Nat} (h:Pl n p) (nrem:Nat):Fits n (λr=>Pl n r.2) (kas_count nrem p) :=
 Fits.bind (R:=λ_=>True) (λm _=>by
  split
  ·exact h
  ·split
   ·refine⟨h.lt hn _,h.lt hn _,λc=>?_⟩
    dsimp only
    split
    ·exact h
    ·exact qaS hn (h.rev _ _) _ _
   ·exact qaS hn h _ _) (qdv hn h _ _)
theorem qbg {n:Nat} (hn:0<n) {p:Array Nat} (h:Pl n p) (k:Nat):∀f l r,Fits n (λ_=>True) (kas_place p k f l r)
 |0,_,_=>yb4
 | f+1,l,r=>by
  unfold kas_place
  split
  ·exact yb4
  ·refine⟨h.lt hn _,h.lt hn _,λc=>?_⟩
   dsimp only
   split
   ·exact qbg hn h k f _ _
   ·exact qbg hn h k f _ _
theorem qf5 {n:Nat} (hn:0<n):∀f {p:Array Nat} (_:Pl n p) k,Fits n (Pl n) (kas_bin f p k)
 |0,_,h,_=>h
 |f+1,p,h,k=>Fits.bind (R:=λ_=>True) (λl _=>qf5 hn f (h.of_perm (bubble_perm _ _ _)) _) (qbg hn h k _ _ _)
theorem fits_sort {n:Nat} (hn:0<n):Fits n (Pl n) (kas_sort n) :=
 Fits.bind (R:=λr=>Pl n r.2) (λr hr=>by
  split
  ·exact qf5 hn _ hr _
  ·exact hr) (qgO hn ⟨by simp,by simp⟩ _)
def ord(ks:List Int):List Nat:=if ks.length<2 then yay ks.length else(runK (λi j=>decide (ks.getD i 0<ks.getD j 0)) (kas_sort ks.length)).toList
theorem ord_perm (ks:List Int):(ord ks).Perm (yay ks.length):=by
 unfold ord
 split
 ·exact .refl _
 ·exact(Fits.run (fits_sort (by omega))).2
theorem map_getD_range {α:Type} (d:α) (xs:List α):(yay xs.length).map (λi=>xs.getD i d)=xs:=by
 refine List.ext_getElem (by simp) λi h1 h2=>?_
 simp at h1 |-
 simp[h1]
end L2.Srt
set_option maxHeartbeats 1000000
namespace L2
open PySem PySem.Spec PyProof.Rows
structure SS (X:Cx) (H0:Hp) (s0:yab) (H:Hp) (s:yab):Prop where
 os:s.os=s0.os
 bare:ycl s.gens
 un:Un (frs X.stack) [] H0 H s0.heap s.heap
 hok:HOk X.prog X.w H s.heap
 same:yn H0 H
section
variable{X:Cx}{pins:List (Addr×Obj)}{σ:St}{H0 H:Hp}{s0 s:yab}{h':Heap}{b a kS:Addr}
theorem SS.kept (z:SS X H0 s0 H s) (k:∀b u,s.heap.get? b=some u->h'.get? b=some u) (tk:Nat):SS X H0 s0 H {s with heap:=h',toks:=tk} :=
 ⟨z.os,z.bare,z.un.trans (Un.kept k),z.hok.kept k,z.same⟩
theorem SS.poke (z:SS X H0 s0 H s) (hb:H b=none) (hb0:s0.heap.objs.size<=b) (sb:ybX b s.heap h') (tk:Nat):SS X H0 s0 H {s with heap:=h',toks:=tk}:=by
 have ne:∀c o,s0.heap.get? c=some o->c≠b:=λc o e=>yax (yaw (yam e) hb0)
 refine⟨z.os,z.bare,⟨λc o e n f x=>(sb.2 c (ne c o e)).trans (z.un.keep c o e n f x),λc o e n f x=>?_,z.un.free,λc o e x=>?_,z.un.tups,z.un.frzs,z.un.tbls⟩,λc u q=>?_,z.same⟩
 ·obtain⟨sl,q⟩:=z.un.slot c o e n f x
  exact⟨sl,(sb.2 c (ne c o e)).trans q⟩
 ·obtain⟨o',q⟩:=z.un.there c o e x
  exact⟨o',(sb.2 c (ne c o e)).trans q⟩
 ·refine(z.hok c u q).stay (λd v hd r=>(sb.2 d ?_).trans r) (λ_ q=>q) λ_ _ q=>q
  rintro rfl
  rcases hd with rfl|hd
  ·rw[hb]at q;cases q
  ·rw[hb]at hd;cases hd
end
section
variable{X:Cx}{H0 H:Hp}{s0 s:yab}{a kS:Addr}{A:yas}{E:Value->yab->Prop}{f:Value}{vs:List Value}{ks:List Int}{e1:Nat}{P:yfo->yab->Prop}
abbrev qkL(ks:List Int)(vs:List Value):List Value:=(Srt.ord ks).map λi=>vs.getD i yaA
theorem qjN (h:ks.length=vs.length):(qkL ks vs).length=vs.length:=by
 rw[lM_,(Srt.ord_perm ks).length_eq,lR_,h]
abbrev qob (X:Cx) (H0:Hp) (s0:yab) (a:Addr) (out:List Value) (P:yfo->yab->Prop):Prop :=
 ∀H' s' c,SS X H0 s0 H' s'->H' a=none->s'.heap.get? a=some (ycF "list" out.toArray c)->P (.done (.ret .none)) s'
end
end L2
set_option maxHeartbeats 1000000
namespace L2
open PySem PySem.Spec PyProof.Rows
end L2
namespace L2.Sk
open PySem PySem.Spec PyProof.Rows
def qqi (Z:Env):List Nat->Option (List D)
 | []=>some []
 |j::fr=>match Z[j]?,qqi Z fr with
  |some (some d),some ds=>some (d::ds)
  |_,_=>none
def qoc (g:M D) (n:Nat) (cs:List D):List D->Option (List Int)
 | []=>some []
 |d::ds=>match g (uv n (d::cs)),qoc g n cs ds with
  |.ok (.int k,_),some ks=>some (k::ks)
  |_,_=>none
def ql9(l:List Nat)(ds:List D):List D:=l.map λi=>ds.getD i .non
def qqj (n:Nat) (fr:List Nat) (f g:M D):M D:=bnd f λd Z=>match d with
 | .lst ds=>if ds.length<64 then match qqi Z fr with
   |some cs=>match qoc g n cs ds with
    |some ks => .ok (.lst (ql9 (Srt.ord ks) ds),Z)
    |none => .bad
   |none => .bad
  else .bad
 |_ => .bad
end L2.Sk
namespace L2
open PySem PySem.Spec PyProof.Rows
theorem walk_lam {l:yef} {n k:Nat} {q:yar} {loose:List Str} {XP:(Str->Option Value)->Heap->Prop} {YP:World->Heap->Prop} {d:DefRec} {K:Params->yan} {CX:World->CXT} {sp:World->Sp} {x:Str}
  (hn:l.most=some n) (hn2:n<=yaq) (hdf:d.params.defaults=[]) (hr:vy k ydR)
  (hY:∀(w:World)(h:Heap),YP w h->(K w.params).In h) {lm:World->Option (Addr×Addr×Pos×Str)}
  (hlm:∀(w:World)(mean:ExcName->Option Value)(mg mb:Str->Option Value)(h:Heap)(c Pt:Addr)(pos:Pos)(z:Str),Top q (PySem.W.looseW q loose) mean mg mb h->(K w.params).In h->lm w=some (c,Pt,pos,z) ->
   yeu h c Pt/\h.get? Pt=some (yev #[])/\(K w.params).lookup Pt=none)
  (F : ∀(w:World)(mg:Str->Option Value)(fa:Addr)(h:Heap),(K w.params).In h->h.Ns yad mg->mg d.name=some (.ref fa) ->
   ∃ fd:yaP,(∀(s:yab)(u:Value),ydQ s fd ⟨[u],[]⟩ [(x,u)]) /\
    ∀base:Heap,(K w.params).In base->base.Ns yad mg->vV l.prog w (K w.params) mg base (CX w) k fa fd [x] (sp w))
  (hsp:∀(w:World)(H:Hp)(a:Addr)(ns:List Int),ns.length<=n->qoF H->(∀c Pt pos z,lm w=some (c,Pt,pos,z)->H Pt=some (.lam pos z))->SqL (K w.params) H a (ns.map V.int)->sp w [.ref a] H (λv _=>v=.bl true) λ_ _ _=>False)
  (hCX:∀(w:World)(H:Hp)(s:yab)(e:Value)(s':yab),CX w [] H s (λ_ _ _=>False) e s'->False) :
  PySem.W.WalkO q loose XP YP l.row.toRowW d [] (λf vs=>yfW f vs):=by
 refine Att.attach_call hn hdf λw s₀ sQ mg mb fa o pm cd doc a vs ns G Y ho hd hcd hmg hobj hints hlen hg=>?_
 have KX:=hY w _ Y
 obtain⟨fd,hb,hF⟩:=F w mg fa _ KX G.T.g hmg
 exact qje (lm:=lm w) KX G.T.g G.T.b G.T.builtins G.T.nolimit G.T.bmain (λc Pt pos z=>hlm w _ mg mb _ c Pt pos z G.T KX) hg hobj hints (yau hlen hn2) hr hF hb (λH hO hT hS=>hsp w H a ns hlen hO hT hS) λH e s'=>hCX w H sQ e s'
end L2
namespace L2.Sk
open PySem PySem.Spec PyProof.Rows
section
variable{X:Cx}{c:Fc}{a b e:Expr}{pos:Pos}
def qpr (i:Nat) (f:M D):M D:=λZ=>match jr i Z with
 |none => .bad
 | some _=>(bnd f λd Z=>match d,(jr i Z).bind wH with
  |.int b,some ns=>match ns.findIdx? (·==b) with
   |some j => .ok (.non,Z.set i (some (.lst ((ns.eraseIdx j).map D.int))))
   |none => .bad
  |_,_ => .bad) Z
end
end L2.Sk
namespace L2.Sk
open PySem PySem.Spec PyProof.Rows
def qrm:D->D->OD
 |.bl a,.bl b=>some (.bl (a==b))
 |_,_=>none
end L2.Sk
namespace L2
open PySem PySem.Spec PyProof.Rows
end L2
namespace L2.Sk
open PySem PySem.Spec PyProof.Rows
end L2.Sk
set_option maxHeartbeats 1000000
namespace L2
open PySem PySem.Spec PyProof.Rows
abbrev qaT:=Int×Int×List Int
def lt3(x y:qaT):Bool:=if x.1=y.1 then if x.2.1=y.2.1 then HT.lexLt x.2.2 y.2.2 else decide (x.2.1<y.2.1)else decide (x.1<y.1)
theorem qfe:∀a:List Int,HT.lexLt a a=false
 | []=>rfl
 |x::a=>by rw[HT.lexLt_cons,if_pos rfl];exact qfe a
theorem qf6:∀a b:List Int,HT.lexLt a b=true->HT.lexLt b a=false
 | [],[],_=>rfl
 | [],_::_,_=>rfl
 |_::_,[],h=>by cases h
 | x::a,y::b,h=>by
  rw[HT.lexLt_cons]at h |-
  by_cases c:x=y
  ·subst c
   rw[if_pos rfl]at h |-
   exact qf6 a b h
  ·rw[if_neg c]at h
   rw[if_neg λz=>c z.symm]
   have:=of_decide_eq_true h
   exact decide_eq_false (by omega)
theorem qik:∀a b c:List Int,HT.lexLt a c=true->HT.lexLt a b=true\/HT.lexLt b c=true
 |a,[],[],h=>by cases a<;>cases h
 |_,[],_::_,_ => .inr rfl
 | [],_::_,_,_ => .inl rfl
 |_::_,_::_,[],h=>by cases h
 | x :: a,y::b,z::c,h=>by
  rw[HT.lexLt_cons]at h
  rw[HT.lexLt_cons,HT.lexLt_cons]
  by_cases e1:x=y
  ·subst e1
   by_cases e2:x=z
   ·rw[if_pos e2]at h |-
    rw[if_pos rfl]
    exact qik a b c h
   ·rw[if_neg e2]at h |-
    exact .inr h
  ·by_cases e2:y=z
   ·subst e2
    rw[if_neg e1]at h |-
    exact .inl h
   ·rw [if_neg e1,if_neg e2]
    by_cases e3:x=z
    ·subst e3
     simp only[decide_eq_true_eq]
     omega
    ·rw[if_neg e3]at h
     simp only[decide_eq_true_eq]at h |-
     omega
theorem qma(x:qaT):lt3 x x=false:=by unfold lt3;rw[if_pos rfl,if_pos rfl];exact qfe _
theorem qjO (x y:qaT) (h:lt3 x y=true):lt3 y x=false:=by
 unfold lt3 at h |-
 by_cases c:x.1=y.1
 ·rw [if_pos c]at h;rw[if_pos c.symm]
  by_cases d:x.2.1=y.2.1
  ·rw[if_pos d]at h;rw[if_pos d.symm];exact qf6 _ _ h
  ·rw[if_neg d]at h;rw[if_neg λz=>d z.symm]
   have:=of_decide_eq_true h
   exact decide_eq_false (by omega)
 ·rw[if_neg c]at h;rw[if_neg λz=>c z.symm]
  have:=of_decide_eq_true h
  exact decide_eq_false (by omega)
theorem qil (x y z:qaT) (h:lt3 x z=true):lt3 x y=true\/lt3 y z=true:=by
 obtain⟨x1,x2,x3⟩:=x
 obtain⟨y1,y2,y3⟩:=y
 obtain⟨z1,z2,z3⟩:=z
 unfold lt3 at h |-
 dsimp only at h |-
 by_cases e1:x1=y1
 ·subst e1
  by_cases e2:x1=z1
  ·rw [if_pos e2]at h |-
   rw[if_pos rfl]
   by_cases f1:x2=y2
   ·subst f1
    by_cases f2:x2=z2
    ·rw[if_pos f2]at h |-
     rw[if_pos rfl]
     exact qik _ _ _ h
    ·rw[if_neg f2]at h |-
     exact .inr h
   ·by_cases f2:y2=z2
    ·subst f2
     rw[if_neg f1]at h |-
     exact .inl h
    ·rw [if_neg f1,if_neg f2]
     by_cases f3:x2=z2
     ·subst f3
      simp only[decide_eq_true_eq]
      omega
     ·rw[if_neg f3]at h
      simp only[decide_eq_true_eq]at h |-
      omega
  ·rw[if_neg e2]at h |-
   exact .inr h
 ·by_cases e2:y1=z1
  ·subst e2
   rw[if_neg e1]at h |-
   exact .inl h
  ·rw [if_neg e1,if_neg e2]
   by_cases e3:x1=z1
   ·subst e3
    simp only[decide_eq_true_eq]
    omega
   ·rw[if_neg e3]at h
    simp only[decide_eq_true_eq]at h |-
    omega
def qff(ks:List qaT)(k:qaT):Int:=((ks.countP λy=>lt3 y k:Nat):Int)
def uZ(ks:List qaT):List Int:=ks.map (qff ks)
theorem qmb {ks:List qaT} {x y:qaT} (hx:x∈ks):decide (qff ks x<qff ks y)=lt3 x y:=by
 have mono:∀(p q:qaT->Bool)(l:List qaT),(∀z,p z=true->q z=true)->l.countP p<=l.countP q:=λp q l h=>List.countP_mono_left λz _=>h z
 cases c:lt3 x y with
 | true=>
  apply decide_eq_true
  have sub:∀z,lt3 z x=true->lt3 z y=true:=λz hz=>by
   rcases qil z y x hz with h|h
   ·exact h
   ·rw[qjO x y c]at h;cases h
  have strict:∀l:List qaT,x∈l->l.countP (λz=>lt3 z x)<l.countP (λz=>lt3 z y):=λl=>by
   induction l with
   |nil=>intro h;cases h
   | cons a l ih=>
    intro h
    rw[yce,yce]
    rcases List.mem_cons.mp h with rfl|h
    ·rw[qma,c]
     have:=mono (λz=>lt3 z x) (λz=>lt3 z y) l sub
     simp only[yaX,if_false,if_true]
     omega
    ·have:=ih h
     cases d:lt3 a x with
     |true=>rw[sub a d];simp only[if_true];omega
     |false=>simp only[yaX,if_false];split<;>omega
  have:=strict ks hx
  unfold qff
  omega
 | false=>
  apply decide_eq_false
  have sub:∀z,lt3 z y=true->lt3 z x=true:=λz hz=>by
   rcases qil z x y hz with h|h
   ·exact h
   ·rw[c]at h;cases h
  have:=mono (λz=>lt3 z y) (λz=>lt3 z x) ks sub
  unfold qff
  omega
theorem qeu(ks:List qaT):(uZ ks).length=ks.length:=lM_ _
def K3V(h:Heap)(k:qaT)(u:Value):Prop:=∃p q t1 t2 its,u=.ref p/\IsTup h p #[.int k.1 t1,.int k.2.1 t2,.ref q]/\IsTup h q its/\ybP its.toList k.2.2
inductive qf7 (h:Heap):List qaT->List Value->Prop
 |nil:qf7 h [] []
 |cons {k:qaT} {v:Value} {ks:List qaT} {vs:List Value}:K3V h k v->qf7 h ks vs->qf7 h (k::ks) (v::vs)
theorem qf7.length {h:Heap} {ks:List qaT} {vs:List Value} (x:qf7 h ks vs):ks.length=vs.length:=by
 induction x with
 |nil=>rfl
 |cons _ _ ih=>rw[lC_,lC_,ih]
theorem qf7.get {h:Heap} {ks:List qaT} {vs:List Value} (x:qf7 h ks vs):∀{i:Nat},i<ks.length->K3V h (ks.getD i (0,0,[])) (vs.getD i yaA):=by
 induction x with
 |nil=>intro i hi;exact absurd hi (Nat.not_lt_zero _)
 |cons a _ ih=>
  intro i hi
  cases i with
  |zero=>exact a
  |succ i=>exact ih (by simpa using hi)
theorem qc2 {prog:yar} {w:World} {vs:List Value} {ns:List Int} (h:ybP vs ns):ItemsAre (yfu prog w) ns vs:=by
 induction h with
 |nil=>exact .nil
 |cons n t _ ih=>exact .cons (by simp[yfu,yfK]) ih
section
variable{prog:yar}{w:World}{A:yas}{E:Value->yab->Prop}{s:yab}
theorem qod {kx ky:qaT} {u v:Value} {Q:Bool->yab->Prop} (hu:A.units<cLine) (hx:K3V s.heap kx u) (hy:K3V s.heap ky v) (h:Q (lt3 kx ky) s) :
  wpAny (model prog w) A (ye1 (ycf true) u v) Q E s:=by
 obtain⟨p,q,t1,t2,its,rfl,hp,hq,hi⟩:=hx
 obtain⟨p',q',t1',t2',its',rfl,hp',hq',hi'⟩:=hy
 obtain⟨o,ho,hc,n,hd⟩:=id hp
 obtain⟨o',ho',hc',n',hd'⟩:=id hp'
 refine PySem.W.kat_lt ho hd ho' hd' ?_
 show PySem.W.KatLex prog w A true (decide (3<3)) Q [(.int kx.1 t1,.int ky.1 t1'),(.int kx.2.1 t2,.int ky.2.1 t2'),(.ref q,.ref q')] 0 s
 unfold lt3 at h
 refine yd1 (ydS ?_)
 by_cases c:kx.1=ky.1
 ·rw [if_pos c]at h
  rw[show(kx.1==ky.1)=true by simp[c]]
  refine yeg (yd1 (ydS ?_))
  by_cases d:kx.2.1=ky.2.1
  ·rw [if_pos d]at h
   rw[show(kx.2.1==ky.2.1)=true by simp[d]]
   refine yeg (yd1 ?_)
   have kq:IsTupleKey (yfu prog w) s.heap kx.2.2 q:=by
    obtain⟨o2,a1,a2,n2,a3⟩:=hq
    exact⟨o2,its,n2,a1,a2,a3,qc2 hi⟩
   have kq':IsTupleKey (yfu prog w) s.heap ky.2.2 q':=by
    obtain⟨o2,a1,a2,n2,a3⟩:=hq'
    exact⟨o2,its',n2,a1,a2,a3,qc2 hi'⟩
   refine wpAny_eqBool_tuple hu kq kq' ?_
   by_cases e:kx.2.2=ky.2.2
   ·rw[decide_eq_true e]
    rw[e,qfe]at h
    exact yeg (PySem.W.kat_nil h)
   ·rw[decide_eq_false e]
    exact yez (PySem.W.kat_one _ _ (HT.lt_tupInts hq hq' hi hi' hu h))
  ·rw[if_neg d]at h
   rw[show(kx.2.1==ky.2.1)=false by simp[d]]
   exact yez (PySem.W.kat_one _ _ (lt_int h))
 ·rw[if_neg c]at h
  rw[show(kx.1==ky.1)=false by simp[c]]
  exact yez (oneLt_int h)
theorem qjP {ks:List qaT} {vs:List Value} (x:qf7 s.heap ks vs):∃fs:List Value,PySem.W.KatTups s.heap vs fs/\fs.length=ks.length/\∀v∈fs,∃i t,v=ybB i t:=by
 induction x with
 |nil=>exact⟨[],.nil,rfl,λv hv=>by cases hv⟩
 | @cons k v ks vs a _ ih=>
  obtain⟨fs,h1,h2,h3⟩:=ih
  obtain⟨p,q,t1,t2,its,rfl,⟨o,ho,hc,n,hd⟩,_,_⟩:=a
  refine⟨.int k.1 t1::fs,.cons ho hc hd rfl h1,by rw[lC_,lC_,h2],λv hv=>?_⟩
  rcases List.mem_cons.mp hv with rfl|hv
  ·exact⟨_,_,rfl⟩
  ·exact h3 v hv
theorem qim {α:Type} {vs:List Value} {ks:List qaT} {R:α->Prop} {G:α->yab->Prop} (hu:A.units<cLine) (hk:qf7 s.heap ks vs):∀{t:PySem.W.KasT α},Srt.Fits ks.length R t ->
  G (Srt.runK (λi j=>decide ((uZ ks).getD i 0<(uZ ks).getD j 0)) t) s->t.kasWp (PySem.W.kas_ask prog w A (ycf true) vs) G s
 |.ret _,_,h=>h
 |.ask i j k,⟨h1,h2,h3⟩,h=>by
  have e1:(uZ ks).getD i 0=qff ks (ks.getD i (0,0,[])):=by unfold uZ;simp[h1]
  have e2:(uZ ks).getD j 0=qff ks (ks.getD j (0,0,[])):=by unfold uZ;simp[h2]
  have hm:ks.getD i (0,0,[])∈ks:=by simp[h1]
  have h':G (Srt.runK (λi j=>decide ((uZ ks).getD i 0<(uZ ks).getD j 0)) (k (decide ((uZ ks).getD i 0<(uZ ks).getD j 0)))) s:=h
  rw[e1,e2,qmb hm]at h'
  show wpAny (model prog w) A (ye1 (ycf true) (vs.getD i yaA) (vs.getD j yaA)) _ _ s
  exact qod hu (hk.get h1) (hk.get h2) (qim hu hk (h3 _) h')
end
end L2
namespace L2
open PySem PySem.Spec PyProof.Rows
end L2
namespace L2.Sk
open PySem PySem.Spec PyProof.Rows
def qqk:D->Option qaT
 |.tup [.int a,.int b,.tup ts]=>match wH ts with
  |some ns=>some (a,b,ns)
  |none=>none
 |_=>none
def qoe (F:List D->R D):List D->Option (List qaT)
 | []=>some []
 | d::ds=>match F [d],qoe F ds with
  |.ok k,some ks=>match qqk k with
   |some k=>some (k::ks)
   |none=>none
  |_,_=>none
def qql (F:List D->R D) (f:M D):M D:=bnd f λd Z=>match d with
 | .lst ds=>if ds.length<64 then match qoe F ds with
   |some ks => .ok (.lst (ql9 (Srt.ord (uZ ks)) ds),Z)
   |none => .bad
  else .bad
 |_ => .bad
end L2.Sk
set_option maxHeartbeats 1000000
namespace L2.Sk
open PySem PySem.Spec PyProof.Rows
def wA(F F':D->D->OD)(f g k:M D):M D:=bnd f λx=>bnd g λy=>bnd (lift (F x y)) λz=>bnd (lift (asB z)) λb=>if b then bnd k λw=>lift (F' y w)else ret (.bl false)
section
variable{X:Cx}{c:Fc}{a b e:Expr}{pos:Pos}
theorem qof {r r':R2} {F F':D->D->OD} {f g k:M D} {ta tb tc:TE} (hF:OpS X.K F r) (hF':OpS X.K F' r') (wa:∀Z σ H Q,Rep X.K c Z σ H->Wp X.K c σ H Q (f Z)->ta σ H Q) (wb:∀Z σ H Q,Rep X.K c Z σ H->Wp X.K c σ H Q (g Z)->tb σ H Q) (wc:∀Z σ H Q,Rep X.K c Z σ H->Wp X.K c σ H Q (k Z)->tc σ H Q) :
  ∀Z σ H Q,Rep X.K c Z σ H->Wp X.K c σ H Q (wA F F' f g k Z)->qkf r r' ta tb tc σ H Q:=λZ σ H Q rp h=>by
 refine wa Z σ H _ rp (Wp.bnd h λx Z1 v H1 r1 i1 g1 h1=>wb Z1 σ H1 _ r1 (Wp.bnd h1 λy Z2 u H2 r2 i2 g2 h2=>?_))
 cases ez:F x y with
 |none=>rw[ez]at h2;exact h2.elim
 | some z=>
  rw[ez]at h2
  cases eb:asB z with
  |none=>
   have h3:Wp X.K c σ H2 Q (bnd (lift (asB z)) (λb=>if b then bnd k λw=>lift (F' y w)else ret (.bl false)) Z2):=h2
   rw[eb]at h3
   exact h3.elim
  | some q=>
   have h3:Wp X.K c σ H2 Q (bnd (lift (asB z)) (λb=>if b then bnd k λw=>lift (F' y w)else ret (.bl false)) Z2):=h2
   rw[eb]at h3
   have hz:=qaI eb
   subst hz
   refine hF _ H2 x y (.bl q) v u _ (λa ha=>r2.new ha) (g2.is i1) i2 ez λw H' s i=>⟨q,i,?_⟩
   cases q with
   |false=>
    rw[if_neg (by simp)]
    have h4:Wp X.K c σ H2 Q (.ok (.bl false,Z2)):=h3
    exact h4 _ H' (r2.same s) rfl (.of_same s)
   |true=>
    rw[if_pos rfl]
    have h4:Wp X.K c σ H2 Q (bnd k (λw=>lift (F' y w)) Z2):=h3
    refine wc Z2 σ H' _ (r2.same s) (Wp.bnd (h4.gr (.of_same s)) λw' Z3 u3 H3 r3 i3 g3 h5=>?_)
    obtain⟨d,e,h6⟩:=h5.lift
    exact hF' _ H3 y w' d u u3 Q (λa ha=>r3.new ha) (g3.is (Gr.is (.of_same s) i2)) i3 e λw2 H4 s4 i4=>h6 w2 H4 (r3.same s4) i4 (.of_same s4)
theorem qjQ {op op':CmpOp} {e':Expr} {r r':R2} {F F':D->D->OD} {f g k:M D} (ho:OpR X (yaL op) r) (hF:OpS X.K F r) (ho':OpR X (yaL op') r') (hF':OpS X.K F' r') (ha:DE X c a f) (hb:DE X c b g) (hc:DE X c e' k)
  (hm:lastMarks [op,op'] [b,e']=false:=by with_unfolding_all rfl):DT X c (.Compare a [op,op'] [b,e'] pos) (tst (wA F F' f g k)):=by
 obtain⟨ta,pa,wa⟩:=ha
 obtain⟨tb,pb,wb⟩:=hb
 obtain⟨tc,pc,wc⟩:=hc
 refine⟨_,qi7 ho ho' pa pb pc hm,λZ σ H Q rp h=>qof hF hF' wa wb wc Z σ H _ rp (Wp.bndB h λd Z1 v H1 r1 i1 g1 h1=>?_)⟩
 obtain⟨b,e,h2⟩:=qdg h1
 have:=qaI e
 subst this
 exact⟨b,i1,h2 H1 r1 .refl⟩
end
theorem qjR {F F':D->D->OD} {f g k:M D} {Z:Env} {x y w d:D} (hf:f Z=.ok (x,Z)) (hg:g Z=.ok (y,Z)) (h1:F x y=some (.bl true)) (hk:k Z=.ok (w,Z)) (h2:F' y w=some d):wA F F' f g k Z=.ok (d,Z):=by
 unfold wA
 rw[qb6 hf,qb6 hg,h1]
 show bnd k _ Z=_
 rw[qb6 hk,h2]
 rfl
theorem qin {F F':D->D->OD} {f g k:M D} {Z:Env} {x y:D} (hf:f Z=.ok (x,Z)) (hg:g Z=.ok (y,Z)) (h1:F x y=some (.bl false)):wA F F' f g k Z=.ok (.bl false,Z):=by
 unfold wA
 rw[qb6 hf,qb6 hg,h1]
 rfl
end L2.Sk
set_option maxHeartbeats 1000000
namespace L2
open PySem PySem.Spec PyProof.Rows
theorem qc3 {h h':Heap} {a:Addr} {its:Array Value} (k:∀b u,h.get? b=some u->h'.get? b=some u) (t:IsTup h a its):IsTup h' a its:=by
 obtain⟨o,h1,h2,n,h3⟩:=t
 exact⟨o,k _ _ h1,h2,n,h3⟩
theorem qf7.kept {h h':Heap} {ks:List qaT} {vs:List Value} (k:∀b u,h.get? b=some u->h'.get? b=some u) (x:qf7 h ks vs):qf7 h' ks vs:=by
 induction x with
 |nil=>exact .nil
 |cons a _ ih=>
  obtain⟨p,q,t1,t2,its,e,h1,h2,h3⟩:=a
  exact .cons ⟨p,q,t1,t2,its,e,qc3 k h1,qc3 k h2,h3⟩ ih
section
variable{X:Cx}{pins:List (Addr×Obj)}{σ:St}{H0 H:Hp}{s0 s:yab}{a:Addr}{A:yas}{E:Value->yab->Prop}{vs:List Value}{ks:List qaT}{P:yfo->yab->Prop}
theorem qog {n:Nat} (I0:Inv X pins σ H0 s0) (hu:A.units<cLine) (kv:qf7 s0.heap ks vs) (z:SS X H0 s0 H s) (k0:∀b u,s0.heap.get? b=some u->s.heap.get? b=some u) (ho:s.heap.get? a=some (ycF "list" vs.toArray n)) (na:H a=none) (la:s0.heap.objs.size<=a) (h64:vs.length<64)
  (fin:qob X H0 s0 a (qkL (uZ ks) vs) P):wpAny (model X.prog X.w) A (ycn.«list.sort» ⟨[.ref a],[]⟩) P E s:=by
 have hlen:ks.length=vs.length:=kv.length
 have hrl:(uZ ks).length=vs.length:=(qeu ks).trans hlen
 have hlt:a<s.heap.objs.size:=yam ho
 have sb:=ycq s.heap a (yaK λ_=>(#[]:Array Value))
 obtain⟨e1,ho1⟩:∃e1,(s.heap.update a (yaK λ_=>(#[]:Array Value))).get? a=some (ycF "list" #[] e1):=⟨_,get?_update_seq ho λ_ => #[]⟩
 have z1:=z.poke na la sb s.toks
 have kp:∀b u,(s.heap.update a (yaK λ_=>(#[]:Array Value))).get? b=some u->(((s.heap.update a (yaK λ_=>(#[]:Array Value))).push (ycF "tuple" vs.toArray 0)).push (ycF "list" #[] 0)).get? b=some u :=
  λb u q=>Heap.get?_push_of_some _ (Heap.get?_push_of_some _ q)
 have z3:=z1.kept kp s.toks
 have ka:∀b u,s0.heap.get? b=some u->(((s.heap.update a (yaK λ_=>(#[]:Array Value))).push (ycF "tuple" vs.toArray 0)).push (ycF "list" #[] 0)).get? b=some u:=λb u q=>by
  refine kp b u ((sb.2 b ?_).trans (k0 b u q))
  exact yax (yaw (yam q) la)
 have kv3:=kv.kept ka
 rw[list_sort_plain]
 refine yaa (listItems_at ho rfl (yaa (yeW ho rfl ?_ (by rw[sT_,ybH];omega) (yaD _))))
 refine yaa (seqEpoch_at ho1 rfl (yaa (yew ?_ (by show vs.length<=_;rw[ybH];omega))))
 refine yaa (wpAny_newList (yba ?_) (yaD _))
 show wpAny (model X.prog X.w) A _ P E {s with heap:=((s.heap.update a (yaK λ_=>(#[]:Array Value))).push (ycF "tuple" vs.toArray 0)).push (ycF "list" #[] 0)}
 generalize hs3:({s with heap:=((s.heap.update a (yaK λ_=>(#[]:Array Value))).push (ycF "tuple" vs.toArray 0)).push (ycF "list" #[] 0)}:yab)=s3
 have z3':SS X H0 s0 H s3:=by rw[<-hs3];exact z3
 have ga:s3.heap.get? a=some (ycF "list" #[] e1):=by rw[<-hs3];exact kp _ _ ho1
 have kv3':qf7 s3.heap ks vs:=by rw[<-hs3];exact kv3
 dsimp only
 have tail:∀(st:SortSt),(arrOf st).map (·.2)=(qkL (uZ ks) vs).toArray->failedOf st=none ->
   wpAny (model X.prog X.w) A (do
    let touched:=(<-seqEpoch a) != e1
    yd8 (.ref a) λ_=>(arrOf st).map (·.2)
    if let some e:=failedOf st then rule "list.sort.comparison-raised";throw e
    if touched then rule "list.sort.modified";raiseError "ValueError" "list modified during sort"
    ret .none) P E s3:=λst ho hf=>by
  have ol:=qjN hrl
  have sb2:=ycq s3.heap a (yaK λ_=>(qkL (uZ ks) vs).toArray)
  have z4:=z3'.poke na la sb2 s3.toks
  refine yaa (seqEpoch_at ga rfl ?_)
  rw[ho,hf]
  refine yaa (yeW ga rfl ?_ (yaD _) (by show(qkL (uZ ks) vs).toArray.size<=_;rw[sT_,ybH];omega))
  simp only[bne_self_eq_false,yaX,if_false]
  exact yag (fin H _ _ z4 na (get?_update_seq ga λ_=>(qkL (uZ ks) vs).toArray))
 by_cases h2:vs.length<2
 ·have h2':vs.toArray.size<2:=by rw[sT_];exact h2
  rw[if_pos h2',if_pos h2']
  refine yaa (yag ?_)
  rw[StateT.run_pure]
  refine yaa (yag ?_)
  refine tail _ ?_ rfl
  have e0:qkL (uZ ks) vs=vs:=by
   show(Srt.ord (uZ ks)).map _=vs
   unfold Srt.ord
   rw[if_pos (by omega),hrl]
   exact Srt.map_getD_range _ vs
  rw[e0]
  apply Array.toList_inj.mp
  show((vs.toArray.zip vs.toArray).map (·.2)).toList=vs.toArray.toList
  rw[Array.toList_map,ksk_zip,List.map_snd_zip (yac _)]
 ·have h2':¬vs.toArray.size<2:=by rw[sT_];exact h2
  rw[if_neg h2',if_neg h2']
  obtain⟨fs,t1,t2,t3⟩:=qjP kv3'
  refine yaa ?_
  refine PySem.W.kat_kind (T:=.type "int") t1 (by omega) (λv hv=>?_) rfl ?_
  ·obtain⟨i,t,rfl⟩:=t3 v hv
   exact .now
  show wpAny _ _ _ _ _ _
  refine yaa (ybf (PySem.W.kat_run (κ:=ycf true) (Q:=λst' s'=>s'=s3/\(arrOf st').map (·.2)=(qkL (uZ ks) vs).toArray/\failedOf st'=none) (G:=λp s'=>s'=s3/\p.toList=Srt.ord (uZ ks)) rfl (by omega) h64 (λp st' s' a1 a2 a3 a4=>?_) ?_) ?_ λ_ _ x=>x)
  ·refine⟨a4.1,?_,a3⟩
   rw[PySem.W.kat_snds rfl a2,a4.2]
  ·have ft:=Srt.fits_sort (n:=ks.length) (by omega)
   rw[<-hlen]
   refine qim hu kv3' ft ⟨rfl,?_⟩
   unfold Srt.ord
   rw[if_neg (by omega),qeu]
  ·rintro⟨⟨⟩,st'⟩ s' ⟨rfl,h3,h4⟩
   exact tail st' h3 h4
end
end L2
namespace L2.Sk
open PySem PySem.Spec PyProof.Rows
def qoh:List D->Option (List qaT)
 | []=>some []
 |d::ds=>match qqk d,qoh ds with
  |some k,some ks=>some (k::ks)
  |_,_=>none
def qqm (i:Nat):M (List D):=λZ=>match jr i Z with
 | some ds=>if ds.length<64 then match qoh ds with
   |some ks => .ok (ql9 (Srt.ord (uZ ks)) ds,Z)
   |none => .bad
  else .bad
 |none => .bad
def ltB:D->D->OD
 |.int i,.int j=>some (.bl (decide (i<j)))
 |.tup xs,.tup ys=>match wH xs,wH ys with
  |some ns,some ms=>some (.bl (HT.lexLt ns ms))
  |_,_=>none
 |_,_=>none
end L2.Sk
set_option maxHeartbeats 1000000
namespace L2.Sk
open PySem PySem.Spec PyProof.Rows
def qoi (O:List Nat) (Z:Env):Bool:=O.all λj=>match Z[j]? with
 |some (some (.lst ds))=>immL ds
 |_=>true
open Classical in
noncomputable def qqn (i:Nat) (O:List Nat) (F:List D->R D) (g:M (List D)) (t:M Bool):MS:=λZ=>match g Z with
 | .ok (ds,Z1)=>if immFs ds=true/\qoi O Z1=true/\i<Z1.length then match F ds with
   | .ok (.tup [.lst xs,.lst ys])=>match t (Z1.set i (some (.tup [.lst xs,.lst ys]))) with
     |.ok (b,Z2)=>if b=true then .ok (.rt (.bl false) Z2)else if Z2=Z1.set i (some (.tup [.lst xs,.lst ys]))/\xs.length+ys.length<1000 then .ok (.nx (Z1.set i none))else .bad
     |_ => .bad
   |_ => .bad
  else .bad
 |_ => .bad
end L2.Sk
set_option maxHeartbeats 1000000
namespace L2.Sk
open PySem PySem.Spec PyProof.Rows
structure qmM (z:Str) (X:Cx) (scope:Scope) (N':List Str) (nt:Nat) (fr:List Nat):Prop where
 kind:scope.kind=.function
 cell:∀y∈scope.names,y.2=.cell->y.1=z
 cz:scope.names.lookup z=some .cell
 cf:∀n acc,ydu n scope.names acc=(z,n)::acc
 pc:∀h:Heap,pushCells h scope.names=h.push {cls:=.type "cell",data:=.cell none}
 names:∀y∈scope.names,y.2=.local->scope.names.lookup y.1=some .local
 frees:∀y∈scope.names,y.2=.free->X.env.kindOf y.1=some .cell/\y.1≠z
 len:N'.length=nt+fr.length
 slot:∀i j,fr[i]? = some j->∃x,N'[nt+i]? = some x/\X.N[j]? = some x/\scope.names.lookup x=some .free
end L2.Sk
set_option maxHeartbeats 1000000
namespace L2.Sk
open PySem PySem.Spec PyProof.Rows
abbrev qcn (h:Heap) (z TI TO:Addr) (a:Nat) (b:Bool):Prop :=
 h.get? z=some {cls:=.type "zip",dict:=none,data:=.fields #[ybI a,.bool b,.bool false,.ref TI,.ref TO],slots := #[]}
section
variable{prog:yar}{w:World}{A:yas}{E:Value->yab->Prop}{s:yab}{z TI TO i1 i2:Addr}{fp1 fp2:List Addr}{n1 n2 k:Nat}{P1 P2:Nat->Value->Prop}{S1 S2:Nat->Heap->Prop}
theorem qps {M:Model} {a:Addr} {Q:Option Obj->yab->Prop} (h:Q (s.heap.get? a) s):wpAny M A (loadIfAlive a) Q E s:=λΓ p _=>by
 show Sem.wp M Γ (.loadIfAlive a .pure) _ _ p s
 rw[Sem.wp_loadIfAlive]
 exact h
theorem qf8 {a:Nat} {b:Bool} {o:Obj} (zz:qcn s.heap z TI TO a b) (ho:s.heap.get? a=some o) {Q:Bool->yab->Prop}
  (fin:∀h',qcn h' z TI TO a true->ybX z s.heap h'->Q false {s with heap:=h' }):wpAny (model prog w) A (yaH (.ref z)) Q E s:=by
 unfold yaH
 refine yaa (yaC zz rfl (x:=ybI a) rfl ?_)
 show wpAny (model prog w) A (loadIfAlive (Int.toNat (a:Int)) >>= _) _ _ _
 refine yaa (qps ?_)
 have e:s.heap.get? (Int.toNat (a:Int))=some o:=ho
 rw[e]
 simp only[Option.isNone_some,yaX,if_false]
 refine yaa (yaC zz rfl (x:=yaQ b) rfl ?_)
 cases b with
 |true=>
  have e1:(yaQ true != yaQ true)=false:=by decide
  simp only[e1,yaX,if_false]
  exact yag (fin s.heap zz (yfF ..))
 |false=>
  have e1:(yaQ false != yaQ true)=true:=by decide
  simp only[e1,if_true]
  refine yaa (ybu zz (by simp) λh1 zz1 b1=>yag (fin h1 zz1 b1))
theorem qmc (D1:Draws prog w A i1 fp1 n1 P1 S1) (D2:Draws prog w A i2 fp2 n2 P2 S2) (ap:ZAp z TI TO i1 i2 fp1 fp2) {a:Nat} {b:Bool} {o:Obj} (zz:qcn s.heap z TI TO a b) (ho:s.heap.get? a=some o) (zI:ybm s.heap TI (.ref i1) (.ref i2))
  (t1:S1 k s.heap) (t2:S2 k s.heap) (l1:k<n1) (l2:k<n2) {Q:Value->yab->Prop}
  (fin:∀x y h' tk,P1 k x->P2 k y->qcn h' z TI TO a true->S1 (k+1) h'->S2 (k+1) h'->ybm h' s.heap.objs.size x y ->
   (∀c o,c≠z->c≠i1->c≠i2->s.heap.get? c=some o->h'.get? c=some o)->Q (.ref s.heap.objs.size) {s with heap:=h',toks:=tk}) :
  wpAny (model prog w) A (ycn.«zip.__next__» ⟨[.ref z],[]⟩) (λr s'=>∃v,r=.done (.ret v)/\Q v s') E s:=by
 show wpAny (model prog w) A (field (yaj z) 2 >>= _) _ _ _
 refine yaa (yaC zz rfl (x:=yaQ false) rfl ?_)
 show wpAny (model prog w) A (field (yaj z) 3 >>= _) _ _ _
 refine yaa (yaC zz rfl (x:=yaj TI) rfl (yaa (ybo zI rfl ?_)))
 show wpAny (model prog w) A (yaH (yaj z) >>= _) _ _ _
 refine yaa (qf8 zz ho λh1 zz1 b1=>?_)
 simp only[yaX,if_false]
 refine yaa ?_
 simp only[<-yfp,ycw,ydo]
 refine yaa (yaa (yba ?_))
 show wpAny (model prog w) A (yaE (yaj i1) >>= _) _ _ _
 refine yaa (D1.item k _ _ _ l1 (D1.frame _ _ _ t1 (jv b1 ap.z1)) λx h2 tk2 px u1 b2=>yag (yag ?_))
 refine yaa (yaa (yba ?_))
 show wpAny (model prog w) A (yaE (yaj i2) >>= _) _ _ _
 have t2':S2 k h2:=D2.frame _ _ _ (D2.frame _ _ _ t2 (jv b1 ap.z2)) (jv b2 ap.i12)
 refine yaa (D2.item k _ _ _ l2 t2' λy h3 tk3 py u2 b3=>yag (yag (yag ?_)))
 refine yaa (m:=newTuple [x,y]) (yew ?_)
 have sz:h3.objs.size=s.heap.objs.size:=by rw[b3.1,b2.1,b1.1]
 have zz3:qcn h3 z TI TO a true:=b3.extBut _ _ ap.zi2 (b2.extBut _ _ ap.zi1 zz1)
 have v1:S1 (k+1) h3:=D1.frame _ _ _ u1 (jv b3 ap.i21)
 have up:∀c o,h3.get? c=some o->(h3.push {cls:=.type "tuple",data:=.seq #[x,y]}).get? c=some o:=λc o e=>Heap.get?_push_of_some _ e
 have new:ybm (h3.push {cls:=.type "tuple",data:=.seq #[x,y]}) s.heap.objs.size x y:=by
  have:ybm (h3.push {cls:=.type "tuple",data:=.seq #[x,y]}) h3.objs.size x y:=Heap.get?_push_size _ rfl
  rw[sz]at this
  exact this
 refine yag ⟨_,rfl,?_⟩
 show Q (yaj h3.objs.size) _
 rw[sz]
 exact fin x y _ tk3 px py (up _ _ zz3) (D1.frame _ _ _ v1 λb hb o e=>up b o e) (D2.frame _ _ _ u2 λb hb o e=>up b o e) new λc o c1 c2 c3 e=>up c o (b3.extBut _ _ c3 (b2.extBut _ _ c2 (b1.extBut _ _ c1 e)))
theorem qio (hh:A.handled=none) (D1:Draws prog w A i1 fp1 n1 P1 S1) (D2:Draws prog w A i2 fp2 n2 P2 S2) (ap:ZAp z TI TO i1 i2 fp1 fp2) {a:Nat} {b:Bool} {o:Obj} (zz:qcn s.heap z TI TO a b) (ho:s.heap.get? a=some o) (zI:ybm s.heap TI (.ref i1) (.ref i2))
  (t1:S1 k s.heap) (t2:S2 k s.heap) (hk:k=min n1 n2) {Q:Fin->yab->Prop}
  (fin:∀h' tk e,(∀c o,c≠z->c≠i1->c≠i2->s.heap.get? c=some o->h'.get? c=some o)->(∃o,h'.get? e=some o/\o.cls=.type "StopIteration")->E (.ref e) {s with heap:=h',toks:=tk}) :
  wpAny (model prog w) A (ycn.«zip.__next__» ⟨[.ref z],[]⟩) Q E s:=by
 show wpAny (model prog w) A (field (yaj z) 2 >>= _) _ _ _
 refine yaa (yaC zz rfl (x:=yaQ false) rfl ?_)
 show wpAny (model prog w) A (field (yaj z) 3 >>= _) _ _ _
 refine yaa (yaC zz rfl (x:=yaj TI) rfl (yaa (ybo zI rfl ?_)))
 show wpAny (model prog w) A (yaH (yaj z) >>= _) _ _ _
 refine yaa (qf8 zz ho λh1 zz1 b1=>?_)
 simp only[yaX,if_false]
 refine yaa ?_
 simp only[<-yfp,ycw,ydo]
 refine yaa (yaa (yba ?_))
 show wpAny (model prog w) A (yaE (yaj i1) >>= _) _ _ _
 have t1':S1 k h1:=D1.frame _ _ _ t1 (jv b1 ap.z1)
 by_cases h12:n1<=n2
 ·have e1:k=n1:=by rw[hk];exact ydc h12
  rw[e1]at t1'
  refine yaa (D1.done _ _ _ t1' λh2 e b2 he=>?_)
  exact fin h2 s.toks e (λc o c1 c3 _ x=>b2 _ _ c3 (b1.extBut _ _ c1 x)) he
 ·have e1:k=n2:=by rw[hk];exact Nat.min_eq_right (by omega)
  refine yaa (D1.item k _ _ _ (by omega) t1' λx h2 tk2 px u1 b2=>yag (yag ?_))
  refine yaa (yaa (yba ?_))
  show wpAny (model prog w) A (yaE (yaj i2) >>= _) _ _ _
  have t2':S2 k h2:=D2.frame _ _ _ (D2.frame _ _ _ t2 (jv b1 ap.z2)) (jv b2 ap.i12)
  rw[e1]at t2'
  refine yaa (D2.done _ _ _ t2' λh4 e b4 he=>?_)
  exact fin h4 tk2 e (λc o c1 c3 c4 x=>b4 _ _ c4 (b2.extBut _ _ c3 (b1.extBut _ _ c1 x))) he
end
def u0 (h:Heap) (lo:Nat) (ch:List Addr) (u v acc:Array Value) (n:Nat):Prop :=
 acc.size=n/\(∀(i:Nat)(x y:Value),i<n->u[i]? = some x->v[i]? = some y->∃p:Addr,acc[i]? = some (yaj p)/\ybm h p x y/\lo<=p/\p ∉ ch)/\∀(i j:Nat)(p:Addr),acc[i]? = some (yaj p)->acc[j]? = some (yaj p)->i=j
theorem u0.keep {h h':Heap} {lo:Nat} {ch:List Addr} {u v acc:Array Value} {n:Nat} (P:u0 h lo ch u v acc n) (k:∀c o,c ∉ ch->h.get? c=some o->h'.get? c=some o):u0 h' lo ch u v acc n :=
 ⟨P.1,λi x y hi h1 h2=>by
  obtain⟨p,e1,e2,e3,e4⟩:=P.2.1 i x y hi h1 h2
  exact⟨p,e1,k p _ e4 e2,e3,e4⟩,P.2.2⟩
theorem u0.push {h:Heap} {lo:Nat} {ch:List Addr} {u v acc:Array Value} {n:Nat} {x y:Value} {p:Addr} (P:u0 h lo ch u v acc n) (hx:u[n]? = some x) (hy:v[n]? = some y) (hp:ybm h p x y) (hlo:lo<=p) (hc:p ∉ ch) (hnew:∀i:Nat,acc[i]? ≠ some (yaj p)):u0 h lo ch u v (acc.push (.ref p)) (n+1):=by
 refine⟨by rw[Array.size_push,P.1],λi x' y' hi h1 h2=>?_,λi j q h1 h2=>?_⟩
 rotate_left
 ·rw [Array.getElem?_push]at h1 h2
  split at h1<;>split at h2
  ·omega
  ·cases h1
   exact absurd h2 (hnew j)
  ·cases h2
   exact absurd h1 (hnew i)
  ·exact P.2.2 i j q h1 h2
 by_cases e:i=n
 ·subst e
  rw[hx]at h1
  rw[hy]at h2
  cases h1
  cases h2
  refine⟨p,?_,hp,hlo,hc⟩
  rw[<-P.1]
  simp
 ·obtain⟨q,e1,e2,e3,e4⟩:=P.2.1 i x' y' (by omega) h1 h2
  refine⟨q,?_,e2,e3,e4⟩
  rw[Array.getElem?_push,if_neg (by rw[P.1];exact e)]
  exact e1
def LZ (z TI TO i1 i2 a1 a2 S:Addr) (u v:Array Value) (k:Nat) (h:Heap):Prop :=
 ((IsZip h z TI TO .none/\∃p q,ybm h TO p q)\/∃(a:Nat)(b:Bool)(o o':Obj),qcn h z TI TO a b/\h.get? a=some o/\h.get? TO=some o'/\(a:Addr) ∉ [z,TO,i1,i2,S])/\ybm h TI (.ref i1) (.ref i2)/\(h.IsTupleIter i1 a1 k/\h.IsTuple a1 u)/\(h.IsTupleIter i2 a2 k/\h.IsTuple a2 v)
section
variable{prog:yar}{w:World}{A:yas}{s:yab}{R:ydT->yab->Prop}{z TI TO i1 i2 a1 a2 S:Addr}{u v:Array Value}
theorem LZ.keep {k:Nat} {h h':Heap} (L:LZ z TI TO i1 i2 a1 a2 S u v k h) (n1:S≠z) (n2:S≠TO) (n3:S≠TI) (n4:S≠i1) (n5:S≠i2) (n6:S≠a1) (n7:S≠a2) (kp:∀c o,c≠S->h.get? c=some o->h'.get? c=some o):LZ z TI TO i1 i2 a1 a2 S u v k h':=by
 obtain⟨f,q1,⟨q2,o2,g2,r2⟩,⟨q3,o3,g3,r3⟩⟩:=L
 refine⟨?_,kp _ _ n3.symm q1,⟨q2.at λo e=>kp _ o n4.symm e,o2,kp _ _ n6.symm g2,r2⟩,⟨q3.at λo e=>kp _ o n5.symm e,o3,kp _ _ n7.symm g3,r3⟩⟩
 rcases f with⟨f1,p,q,f2⟩|⟨a,b,o,o',f1,f2,f4,f3⟩
 ·exact .inl ⟨kp _ _ n1.symm f1,p,q,kp _ _ n2.symm f2⟩
 ·refine .inr ⟨a,b,o,o',kp _ _ n1.symm f1,kp _ _ (λe=>f3 ?_) f2,kp _ _ n2.symm f4,f3⟩
  rw[e]
  simp
theorem qmd {E:Value->yab->Prop} (hh:A.in1.handled=none) (ap:ZAp z TI TO i1 i2 [i1,a1] [i2,a2]) (m1:a1≠i1) (m2:a2≠i2) {k:Nat} (L:LZ z TI TO i1 i2 a1 a2 S u v k s.heap) (l1:k<u.size) (l2:k<v.size) (hS:∃o,s.heap.get? S=some o) (sa1:a1 ∉ [z,TO,i1,i2]) (sa2:a2 ∉ [z,TO,i1,i2]) {Q:Option Value->yab->Prop}
  (fin:∀x y h' tk,u[k]? = some x->v[k]? = some y->LZ z TI TO i1 i2 a1 a2 S u v (k+1) h'->ybm h' s.heap.objs.size x y->(∀c o,c ∉ [z,TO,i1,i2]->s.heap.get? c=some o->h'.get? c=some o)->(s.heap.objs.size:Addr) ∉ [z,TO,i1,i2,S]->Q (some (.ref s.heap.objs.size)) {s with heap:=h',toks:=tk}) :
  wpAny (model prog w) A (ycL (.ref z)) Q E s:=by
 obtain⟨f,q1,q2,q3⟩:=L
 have D1:=w8 (prog:=prog) (w:=w) hh i1 a1 m1 u
 have D2:=w8 (prog:=prog) (w:=w) hh i2 a2 m2 v
 have hT:s.TypeIs (.ref z) "zip":=by
  rcases f with⟨f1,_⟩|⟨a,b,o,o',f1,_⟩
  ·exact⟨_,f1,rfl⟩
  ·exact⟨_,f1,rfl⟩
 have lt:∀c∈[z,TO,i1,i2,S],c≠s.heap.objs.size:=λc hc=>by
  have hz:∃o,s.heap.get? c=some o:=by
   simp only[yav,nN_,or_false]at hc
   obtain⟨⟨o4,g4,_⟩,_⟩:=q2
   obtain⟨⟨o5,g5,_⟩,_⟩:=q3
   rcases hc with rfl|rfl|rfl|rfl|rfl
   ·obtain⟨o,e,_⟩:=hT
    exact⟨o,e⟩
   ·rcases f with⟨_,p,q,f2⟩|⟨_,_,_,o',_,_,f4,_⟩
    ·exact⟨_,f2⟩
    ·exact⟨_,f4⟩
   ·exact⟨_,g4⟩
   ·exact⟨_,g5⟩
   ·exact hS
  obtain⟨o,e⟩:=hz
  exact yax (yam e)
 unfold ycL
 refine yaa (wpAny_attempt (wpAny_callSpecial?_slot (name:=ybJ "__next__") hT yde (ybG yde hT F.entry_zip_next ?_ (yfI _))))
 rcases f with⟨f1,p,q,f2⟩|⟨a,b,o,o',f1,f2,f4,f3⟩
 ·refine qnK D1 D2 ap f1 q1 f2 q2 q3 l1 l2 λx y h' tk px py zz zO u1 u2 new kp=>yag ?_
  have hsz:s.heap.objs.size<h'.objs.size:=yam new
  refine fin x y h' tk px py ⟨.inr ⟨s.heap.objs.size,false,_,_,zz,new,zO,λhm=>lt _ hm rfl⟩,kp _ _ ap.zTI.symm ap.IO ap.Ii1 ap.Ii2 q1,u1,u2⟩ new (λc o hc e=>?_) (λhm=>lt _ hm rfl)
  simp only[yav,nN_,or_false,not_or]at hc
  exact kp c o hc.1 hc.2.1 hc.2.2.1 hc.2.2.2 e
 ·refine qmc D1 D2 ap f1 f2 q1 q2 q3 l1 l2 λx y h' tk px py zz u1 u2 new kp=>yag ?_
  have hsz:s.heap.objs.size<h'.objs.size:=yam new
  have f3':=f3
  simp only[yav,nN_,or_false,not_or]at f3'
  refine fin x y h' tk px py ⟨.inr ⟨a,true,o,o',zz,kp _ _ f3'.1 f3'.2.2.1 f3'.2.2.2.1 f2,kp _ _ ap.zTO.symm ap.Oi1 ap.Oi2 f4,f3⟩,kp _ _ ap.zTI.symm ap.Ii1 ap.Ii2 q1,u1,u2⟩ new (λc o hc e=>?_) (λhm=>lt _ hm rfl)
  simp only[yav,nN_,or_false,not_or]at hc
  exact kp c o hc.1 hc.2.2.1 hc.2.2.2 e
theorem qme {E:Value->yab->Prop} (hh:A.in1.handled=none) (ap:ZAp z TI TO i1 i2 [i1,a1] [i2,a2]) (m1:a1≠i1) (m2:a2≠i2) {k:Nat} (L:LZ z TI TO i1 i2 a1 a2 S u v k s.heap) (hk:k=min u.size v.size) {Q:Option Value->yab->Prop}
  (fin:∀h' tk,(∀c o,c ∉ [z,TO,i1,i2]->s.heap.get? c=some o->h'.get? c=some o)->Q none {s with heap:=h',toks:=tk}) :
  wpAny (model prog w) A (ycL (.ref z)) Q E s:=by
 obtain⟨f,q1,q2,q3⟩:=L
 have D1:=w8 (prog:=prog) (w:=w) hh i1 a1 m1 u
 have D2:=w8 (prog:=prog) (w:=w) hh i2 a2 m2 v
 have hT:s.TypeIs (.ref z) "zip":=by
  rcases f with⟨f1,_⟩|⟨a,b,o,o',f1,_⟩
  ·exact⟨_,f1,rfl⟩
  ·exact⟨_,f1,rfl⟩
 unfold ycL
 refine yaa (wpAny_attempt (wpAny_callSpecial?_slot (name:=ybJ "__next__") hT yde (ybG yde hT F.entry_zip_next ?_ (yfI _))))
 rcases f with⟨f1,p,q,f2⟩|⟨a,b,o,o',f1,f2,f4,f3⟩
 ·refine qjs hh D1 D2 ap f1 q1 f2 q2 q3 hk λh' tk e kp he=>?_
  obtain⟨o,ho,hcl⟩:=he
  refine yaa (wpAny_isInstance (T:="StopIteration") (b:=true) ⟨o,ho,hcl⟩ isSubtype_stop (yag (fin h' tk λc o hc e=>?_)))
  simp only[yav,nN_,or_false,not_or]at hc
  exact kp c o hc.1 hc.2.1 hc.2.2.1 hc.2.2.2 e
 ·refine qio hh D1 D2 ap f1 f2 q1 q2 q3 hk λh' tk e kp he=>?_
  obtain⟨o,ho,hcl⟩:=he
  refine yaa (wpAny_isInstance (T:="StopIteration") (b:=true) ⟨o,ho,hcl⟩ isSubtype_stop (yag (fin h' tk λc o hc e=>?_)))
  simp only[yav,nN_,or_false,not_or]at hc
  exact kp c o hc.1 hc.2.2.1 hc.2.2.2 e
theorem qmf (hh:A.handled=none) (ap:ZAp z TI TO i1 i2 [i1,a1] [i2,a2]) (m1:a1≠i1) (m2:a2≠i2) (sa1:a1 ∉ [z,TO,i1,i2]) (sa2:a2 ∉ [z,TO,i1,i2]) (hS:S ∉ [z,TI,TO,i1,i2,a1,a2]) (lo:Nat) (hmin:min u.size v.size<=1000) (res:Value) :
  ∀(m k:Nat)(s:yab)(acc:Array Value)(c:Nat),m=min u.size v.size-k->k<=min u.size v.size->lo<=s.heap.objs.size->LZ z TI TO i1 i2 a1 a2 S u v k s.heap->u0 s.heap lo [z,TO,i1,i2,S] u v acc k->s.heap.get? S=some {cls:=.type "list",dict:=none,data:=.seq acc c,slots := #[]} ->
  (∀h' tk acc' c',(∀b o,b ∉ [z,TO,i1,i2,S]->s.heap.get? b=some o->h'.get? b=some o)->h'.get? S=some {cls:=.type "list",dict:=none,data:=.seq acc' c',slots := #[]}->u0 h' lo [z,TO,i1,i2,S] u v acc' (min u.size v.size)->R (.ok (.ret res)) {s with heap:=h',toks:=tk}) ->
  ybW (model prog w) A (.builtin "list.extend.loop" ⟨[.ref S,.ref z,res],[]⟩) R s:=by
 have hS':=hS
 simp only[yav,nN_,or_false,not_or]at hS'
 have cut:∀c,c ∉ [z,TO,i1,i2,S]->c ∉ [z,TO,i1,i2]:=λc hc h=>hc (by
  simp only[yav,nN_,or_false]at h
  rcases h with h|h|h|h<;>rw[h]<;>simp)
 have sS:S ∉ [z,TO,i1,i2]:=by
  simp only[yav,nN_,or_false,not_or]
  exact⟨hS'.1,hS'.2.2.1,hS'.2.2.2.1,hS'.2.2.2.2.1⟩
 intro m
 induction m with
 |zero=>
  intro k s acc c hm hk hlo L P hs fin
  refine yed ye2 ?_
  rw[yeO ycs _]
  show wpAny (model prog w) A.in1 (ycL (yaj z) >>= _) _ _ s
  refine yaa (qme (A:=A.in1) hh ap m1 m2 L (by omega) λh' tk kp=>yag ?_)
  have ek:k=min u.size v.size:=by omega
  rw[ek]at P
  exact fin h' tk acc c (λb o hb e=>kp b o (cut b hb) e) (kp S _ sS hs) (P.keep λb o hb e=>kp b o (cut b hb) e)
 | succ m ih=>
  intro k s acc c hm hk hlo L P hs fin
  refine yed ye2 ?_
  rw[yeO ycs _]
  show wpAny (model prog w) A.in1 (ycL (yaj z) >>= _) _ _ s
  refine yaa (qmd (A:=A.in1) hh ap m1 m2 L (by omega) (by omega) ⟨_,hs⟩ sa1 sa2 λx y h' tk px py L' new kp nin=>?_)
  have hs':=kp S _ sS hs
  show wpAny (model prog w) A.in1 (updateSeq S (·.push (yaj s.heap.objs.size)) >>= _) _ _ _
  refine yaa ?_
  have P':u0 h' lo [z,TO,i1,i2,S] u v (acc.push (.ref s.heap.objs.size)) (k+1):=u0.push (P.keep λb o hb e=>kp b o (cut b hb) e) px py new hlo nin λi hi=>by
   have hik:i<k:=by
    have:=(Array.getElem?_eq_some_iff.mp hi).1
    rw[P.1]at this
    exact this
   obtain⟨p,e1,e2,_⟩:=P.2.1 i u[i] v[i] hik (Array.getElem?_eq_getElem (by omega)) (Array.getElem?_eq_getElem (by omega))
   rw[hi]at e1
   cases e1
   exact ybC _ (yam e2)
  have oth:∀b o,b≠S->h'.get? b=some o->(h'.update S (yaK (·.push (yaj s.heap.objs.size)))).get? b=some o:=λb o hb e=>(Heap.get?_update_other _ _ (ybk hb)).trans e
  have nS:∀b,b ∉ [z,TO,i1,i2,S]->b≠S:=λb hb e=>hb (by rw[e];simp)
  refine yeh hs' rfl (yag ⟨plainId_quiet ycs _,ih (k+1) _ (acc.push (.ref s.heap.objs.size)) _ (by omega) (by omega) ?_ (L'.keep hS'.1 hS'.2.2.1 hS'.2.1 hS'.2.2.2.1 hS'.2.2.2.2.1 hS'.2.2.2.2.2.1 hS'.2.2.2.2.2.2 oth) (P'.keep λb o hb e=>oth b o (nS b hb) e) (Heap.get?_update_self _ hs' rfl) λh'' tk' acc' c' kp2 hs'' P''=>?_⟩) (by have:=P.1;rw[ybH];omega) (by show(acc.push _).size<=yaq+1;rw[Array.size_push,ybH];have:=P.1;omega)
  ·show lo<=(h'.update S _).objs.size
   rw[ycY]
   have:=yam new
   exact yau hlo (ycx this)
  ·exact fin h'' tk' acc' c' (λb o hb e=>kp2 b o hb (oth b o (nS b hb) (kp b o (cut b hb) e))) hs'' P''
end
end L2.Sk
set_option maxHeartbeats 1000000
namespace L2.Sk
open PySem PySem.Spec PyProof.Rows
theorem qgP:yfU (.type "zip") "__len__"=pure none:=by
 rw[typeLookup_type,yeA]
 kernel_rfl
theorem qfg:yfU (.type "zip") "__length_hint__"=pure none:=by
 rw[typeLookup_type,yeA]
 kernel_rfl
section
variable{prog:yar}{w:World}{A:yas}{s:yab}{R:ydT->yab->Prop}{z TI TO i1 i2 a1 a2 S:Addr}{u v:Array Value}
theorem qpt (hh:A.handled=none) (ap:ZAp z TI TO i1 i2 [i1,a1] [i2,a2]) (m1:a1≠i1) (m2:a2≠i2) (sa1:a1 ∉ [z,TO,i1,i2]) (sa2:a2 ∉ [z,TO,i1,i2]) (hS:S ∉ [z,TI,TO,i1,i2,a1,a2]) (hmin:min u.size v.size<=1000)
  (zz:IsZip s.heap z TI TO .none) (zO:∃p q,ybm s.heap TO p q) (zI:ybm s.heap TI (.ref i1) (.ref i2)) (t1:s.heap.IsTupleIter i1 a1 0/\s.heap.IsTuple a1 u) (t2:s.heap.IsTupleIter i2 a2 0/\s.heap.IsTuple a2 v)
  (lo:Nat) (hlo:lo<=s.heap.objs.size) (hs:s.heap.get? S=some {cls:=.type "list",data:=.seq #[]})
  (fin:∀h' tk acc' c',(∀b o,b ∉ [z,TO,i1,i2,S]->s.heap.get? b=some o->h'.get? b=some o)->h'.get? S=some {cls:=.type "list",dict:=none,data:=.seq acc' c',slots := #[]}->u0 h' lo [z,TO,i1,i2,S] u v acc' (min u.size v.size)->R (.ok (.ret .none)) {s with heap:=h',toks:=tk}) :
  wpAny (model prog w) A.in1 (ycn.«list.__init__» ⟨[.ref S,.ref z],[]⟩)
   (λr s'=>match r with|.done f=>R (.ok f) s'|.again c'=>c'.quiet=true/\ybW (model prog w) A c' R s') (λe s'=>R (.error e) s') s:=by
 have hS':=hS
 simp only[yav,nN_,or_false,not_or]at hS'
 have hT:s.TypeIs (.ref z) "zip":=⟨_,zz,rfl⟩
 show wpAny (model prog w) A.in1 (Builtin.List.listItems (yaj S) >>= λold=>yd8 (yaj S) (λ_ => #[]) >>= λ_=>letGo old.toList.reverse >>= λ_=>ydz (yaj S) (yaj z) yaA) _ _ s
 refine yaa (listItems_at hs rfl (yaa (yeW hs rfl ?_ (yaD _) (yaD _))))
 have hs2:=Heap.get?_update_self (yaK λ_=>(#[]:Array Value)) hs rfl
 have o2:∀b o,b≠S->s.heap.get? b=some o->(s.heap.update S (yaK λ_=>(#[]:Array Value))).get? b=some o:=λb o hb e=>(Heap.get?_update_other _ _ (ybk hb)).trans e
 refine yaa (yen ?_)
 generalize hm:s.heap.update S (yaK λ_=>(#[]:Array Value))=m at hs2 o2
 have szm:m.objs.size=s.heap.objs.size:=by rw[<-hm,ycY]
 unfold ydz
 have hT2:({s with heap:=m}:yab).TypeIs (.ref z) "zip":=⟨_,o2 _ _ (ybk hS'.1) zz,rfl⟩
 refine yaa (yc7 hT2 ?_)
 have e1:yd2 (yaj S) (yaj z)=false:=by simp[yd2,hS'.1]
 have e2:(yb2 "zip"==yb2 "list")=false:=by decide
 have e3:(yb2 "zip"==yb2 "tuple")=false:=by decide
 simp only[e1,e2,e3,Bool.or_false,yaX,if_false]
 have zz2:IsZip m z TI TO .none:=o2 _ _ (ybk hS'.1) zz
 refine yaa (wpAny_pyIter_zip zz2 (yaa (yba ?_)))
 unfold Builtin.List.listLengthHint
 refine yaa (wpAny_specialOf hT2 qgP ?_)
 show wpAny (model prog w) A.in1 (specialOf (yaj z) (ybJ "__length_hint__") >>= _) _ _ _
 refine yaa (wpAny_specialOf hT2 qfg (yag ?_))
 show wpAny (model prog w) A.in1 (rule "list.extend.makes-room" >>= λ_=>Builtin.List.listTouch (yaj S) >>= λ_=>again (.builtin "list.extend.loop" ⟨[yaj S,yaj z,yaA],[]⟩)) _ _ _
 refine yaa (yc5 (yaa ?_))
 show wpAny (model prog w) A.in1 (updateSeq S (·.push yaA) >>= λ_=>updateSeq S (·.pop)) _ _ _
 refine yaa (yeh hs2 rfl ?_)
 have hs3:=Heap.get?_update_self (yaK (·.push yaA)) hs2 rfl
 refine yeh (hz:=by seq_fits) hs3 rfl ?_
 have hs4:=Heap.get?_update_self (yaK (·.pop)) hs3 rfl
 have o4:∀b o,b≠S->s.heap.get? b=some o->((m.update S (yaK (·.push yaA))).update S (yaK (·.pop))).get? b=some o:=λb o hb e=>(Heap.get?_update_other _ _ (ybk hb)).trans ((Heap.get?_update_other _ _ (ybk hb)).trans (o2 b o hb e))
 have sz4:((m.update S (yaK (·.push yaA))).update S (yaK (·.pop))).objs.size=s.heap.objs.size:=by rw[ycY,ycY,szm]
 have L:LZ z TI TO i1 i2 a1 a2 S u v 0 ((m.update S (yaK (·.push yaA))).update S (yaK (·.pop))):=LZ.keep (h:=s.heap) ⟨.inl ⟨zz,zO⟩,zI,t1,t2⟩ hS'.1 hS'.2.2.1 hS'.2.1 hS'.2.2.2.1 hS'.2.2.2.2.1 hS'.2.2.2.2.2.1 hS'.2.2.2.2.2.2 o4
 have nS:∀b,b ∉ [z,TO,i1,i2,S]->b≠S:=λb hb e=>hb (by rw[e];simp)
 exact yag ⟨plainId_quiet ycs _,qmf hh ap m1 m2 sa1 sa2 hS lo hmin .none _ 0 _ _ _ rfl (yaD _) (by show lo<=_;rw[sz4];exact hlo) L ⟨rfl,λi x y hi=>absurd hi (Nat.not_lt_zero _),λi j p h=>by simp at h⟩ hs4 λh' tk acc' c' kp hs' P=>fin h' tk acc' c' (λb o hb e=>kp b o hb (o4 b o (nS b hb) e)) hs' P⟩
end
end L2.Sk
set_option maxHeartbeats 1000000
namespace L2.Sk
open PySem PySem.Spec PyProof.Rows
end L2.Sk
set_option maxHeartbeats 1000000
namespace L2.Sk
open PySem PySem.Spec PyProof.Rows
end L2.Sk
set_option maxHeartbeats 1000000
namespace L2.Sk
open PySem PySem.Spec PyProof.Rows
def qrn:D->D->OD
 |.tup ds,.int k=>if ds.isEmpty then none else if k=0 then some (.tup [])else if k=1 then some (.tup ds)else zE (.tup ds) (.int k)
 |x,y=>zE x y
end L2.Sk
set_option maxHeartbeats 1000000
namespace L2.Sk
open PySem PySem.Spec PyProof.Rows
section
variable{X:Cx}{pins:List (Addr×Obj)}{σ:St}{H:Hp}{s:yab}{A:Addr->Prop}
def Shw(X:Cx)(s:yab)(d:D)(u:Value):Prop:=∃bs,ReadAtMost s.heap (qX d).depth bs/\ReprK X.prog X.w bs s.heap (qX d).depth u (qX d).shown
theorem qfh (I:Inv X pins σ H s) {d:D} {v:V} {u:Value} (hs:(qX d).showable=true) (hd:(qX d).hasDict=true->noL d=true) (i:Is X.K A H d v) (r:yg v u) (hz:(qX d).shown.length<=yaq):Shw X s d u:=by
 obtain⟨as,q,nl⟩:=ju I (qcT hs) i r
 exact ReprK.of_reads q hs (λe=>nl (hd e)) hz
theorem qip:∀ns:List Int,yfJ (ns.map .int)=false
 | []=>rfl
 |n::ns=>by
  rw[mC_,yfJ,qip ns]
  rfl
theorem qmg (ns:List Int):(qX (.fz ns)).hasDict=false:=by
 simp only[qX,PyData.hasDict]
 exact qip ns
theorem qco:∀(ds:List D)(xs:List V)(us:List Value),(∀d∈ds,∀(v:V)(u:Value),(qX d).showable=true->Is X.K A H d v->yg v u->(qX d).shown.length<=yaq->Shw X s d u)->yaI (toPDs ds)=true->IsL X.K A H ds xs->zM xs us->(∀t∈ybj (toPDs ds),t.length<=yaq) ->
  ∃bs,ReadAtMost s.heap (yaB (toPDs ds)) bs/\ReprAllK X.prog X.w bs s.heap (yaB (toPDs ds)) us (ybj (toPDs ds))
 | [],_,_,_,_,i,r,_=>by
  cases i
  cases r
  exact⟨[],(λ_ h=>nomatch h),by simp only[toPDs,ybj];exact .nil⟩
 | d::ds,_,_,ih,hs,⟨x,ys,hx,i1,i2⟩,r,hz=>by
  subst hx
  cases r with
  |cons r1 r2=>
   simp only[toPDs,yaI,yal]at hs
   simp only[toPDs,ybj,yav]at hz
   obtain⟨b1,g1,k1⟩:=ih d mS_ _ _ hs.1 i1 r1 (hz _ (.inl rfl))
   obtain⟨b2,g2,k2⟩:=qco ds _ _ (λy hy=>ih y (mM _ hy)) hs.2 i2 r2 λt ht=>hz t (.inr ht)
   simp only[toPDs,yaB,ybj]
   exact⟨b1++b2,(g1.mono (yei _ _)).append (g2.mono (yd3 _ _)),.cons ((k1.more λb hb=>ycd _ hb).level_le (yei _ _)) (k2.more_le (λb hb=>mr_ _ hb) (yd3 _ _))⟩
theorem qcp:∀{ds:List D}{d:D},d∈ds->(qX d).depth<=yaB (toPDs ds)
 |e::ds,d,h=>by
  simp only[toPDs,yaB]
  rcases List.mem_cons.mp h with rfl|h
  ·exact yei _ _
  ·exact yau (qcp h) (yd3 _ _)
theorem qkM (I:Inv X pins σ H s):∀(n:Nat)(d:D)(v:V)(u:Value),(qX d).depth<=n->(qX d).showable=true->Is X.K A H d v->yg v u->(qX d).shown.length<=yaq->Shw X s d u:=λn=>by
 induction n with
 |zero=>
  intro d v u hn hs i r hz
  refine qfh I hs (λe=>?_) i r hz
  have nx:=qcT hs
  cases d with
  |non=>cases e
  |bl b=>cases e
  |int j=>cases e
  |str x=>cases e
  |dic kvs=>rfl
  |exc c=>simp[noX]at nx
  |fz ns=>rw[qmg]at e;cases e
  |tup ds=>simp only[qX,ya0]at hn;omega
  |lst ds=>simp only[qX,ya0]at hn;omega
 | succ n ih=>
  intro d v u hn hs i r hz
  have nx:=qcT hs
  obtain⟨as,q,_⟩:=ju I nx i r
  cases d with
  |non=>exact qfh I hs (λe=>by cases e) i r hz
  |bl b=>exact qfh I hs (λe=>by cases e) i r hz
  |int j=>exact qfh I hs (λe=>by cases e) i r hz
  |str x=>exact qfh I hs (λe=>by cases e) i r hz
  |dic kvs=>exact qfh I hs (λe=>rfl) i r hz
  |exc c=>simp[noX]at nx
  |fz ns=>exact qfh I hs (λe=>by rw[qmg]at e;cases e) i r hz
  |tup ds=>
   obtain⟨a,xs,hv,ta,il⟩:=i
   subst hv
   cases r
   obtain⟨its,rv,p,_⟩:=I.tuple ta.sq
   obtain⟨o,h1,h2,m,h3⟩:=p
   have e:(qX (.tup ds)).depth=yaB (toPDs ds)+1:=by simp only[qX,ya0]
   have hs':yaI (toPDs ds)=true:=by simpa [qX,ya6] using hs
   have hz':(tupleText (ybj (toPDs ds))).length<=yaq:=by simpa only[qX,ybL] using hz
   obtain⟨bs,hb,hk⟩:=qco ds xs its (λy hy v u=>ih y v u (by have:=qcp hy;omega)) hs' il rv λt ht=>yau (tupleText_mem_le ht) hz'
   have hna:a ∉ bs:=ycK q (by rw[e];omega) hb
   refine⟨a::bs,ReadAtMost.cons q (by rw[e];omega) hb,?_⟩
   simp only[qX,ya0,ybL]
   exact ReprK.tuple h1 h2 h3 hna (by simpa using hk)
  | lst ds=>
   obtain⟨a,xs,hv,_,ta,il⟩:=i
   subst hv
   cases r
   obtain⟨its,rv,p,_⟩:=I.list (SqL.of ta)
   obtain⟨o,h1,h2,m,h3⟩:=p.isList
   have e:(qX (.lst ds)).depth=yaB (toPDs ds)+1:=by simp only[qX,ya0]
   have hs':yaI (toPDs ds)=true:=by simpa [qX,ya6] using hs
   have hz':(listText (ybj (toPDs ds))).length<=yaq:=by simpa only[qX,ybL] using hz
   obtain⟨bs,hb,hk⟩:=qco ds xs its (λy hy v u=>ih y v u (by have:=qcp hy;omega)) hs' il rv λt ht=>yau (listText_mem_le ht) hz'
   have hna:a ∉ bs:=ycK q (by rw[e];omega) hb
   refine⟨a::bs,ReadAtMost.cons q (by rw[e];omega) hb,?_⟩
   simp only[qX,ya0,ybL]
   cases its with
   | nil=>
    have e0:toPDs ds=[]:=by
     have g1:=il.length
     have g2:=rv.length
     cases ds with
     |nil=>rfl
     |cons d ds=>exact absurd (g1.symm.trans g2) (by simp)
    rw[e0]
    simp only[ybj,listText_nil]
    exact ReprK.listEmpty h1 h2 h3
   |cons y its=>exact ReprK.list h1 h2 h3 hna (by simpa using hk.length_eq) λj w g=>hk.item j w (by simpa using g)
end
def qav(d:D):Bool:=(qX d).showable&&decide ((qX d).shown.length<=yaq)&&decide ((qX d).depth<=50)
def qkN(K:Fr0):List V->Hp->VK->Prop:=λxs H Q=>∃v d A,xs=[v]/\Is K A H d v/\qav d=true/\Q (.str (qX d).shown) H
section
variable{X:Cx}
theorem qc4 {k:Nat} (hr:vy k X.A):uC X (.builtin "repr") (qkN X.K):=by
 intro pins s σ H xs us Q I r h
 obtain⟨v,d,A,rfl,hi,ok,q⟩:=h
 obtain⟨u,rfl,ru⟩:=zM.one r
 have ok':=ok
 unfold qav at ok'
 simp only[yal,decide_eq_true_eq]at ok'
 obtain⟨⟨o1,o2⟩,o3⟩:=ok'
 have nx:=qcT o1
 have hun:=hr.un
 have leaf:((qX d).hasDict=true->noL d=true)->wpAny (model X.prog X.w) X.A (call (.builtin "repr") [u]) (EP X pins σ Q) X.xe s:=λhl=>by
  refine qgC hr pins s σ H [v] [u] Q I r ⟨v,d,A,rfl,hi,?_,q⟩
  unfold qfN
  simp only[o1,o2,o3,decide_true,ybb,yda,yb8]
  cases e:(qX d).hasDict with
  |false=>exact .inl rfl
  |true=>exact .inr (hl e)
 have fin:∀h' (t:Tok) tk,(∀b o,s.heap.get? b=some o->h'.get? b=some o)->EP X pins σ Q (.str (qX d).shown t) {s with heap:=h',toks:=tk}:=λh' t tk hk=>⟨.str _,H,I.kept hk,⟨_,rfl⟩,q⟩
 obtain⟨as,rd,_⟩:=ju I nx hi ru
 cases d with
 |non=>exact leaf λe=>by cases e
 |bl b=>exact leaf λe=>by cases e
 |int j=>exact leaf λe=>by cases e
 |str x=>exact leaf λe=>by cases e
 |dic kvs=>exact leaf λe=>rfl
 |exc c=>simp[noX]at nx
 |fz ns=>exact leaf λe=>by rw[qmg]at e;cases e
 |tup ds=>
  obtain⟨a,xs,hv,ta,il⟩:=hi
  subst hv
  cases ru
  obtain⟨its,rv,p,_⟩:=I.tuple ta.sq
  obtain⟨o,h1,h2,m,h3⟩:=p
  have e:(qX (.tup ds)).depth=yaB (toPDs ds)+1:=by simp only[qX,ya0]
  have hs':yaI (toPDs ds)=true:=by simpa [qX,ya6] using o1
  have hz':(tupleText (ybj (toPDs ds))).length<=yaq:=by simpa only[qX,ybL] using o2
  obtain⟨bs,hb,hk⟩:=qco (X:=X) (s:=s) ds xs its (λy hy v u=>qkM I _ y v u (yac _)) hs' il rv λt ht=>yau (tupleText_mem_le ht) hz'
  have hna:a ∉ bs:=ycK rd (by rw[e];omega) hb
  refine call_repr_slot (by omega) ⟨o,h1,h2⟩ F.slot_tuple_repr (call_tuple_reprK h1 h2 h3 hna (by simpa using hk) hr.gd (λb _=>Clear.nil b) (by show X.A.units+1+_<cLine;omega) (λ_ _ z=>z) (λh' t tk hk'=>⟨_,_,rfl,?_⟩) hz')
  have:=fin h' t tk hk'
  simp only[qX,ybL]at this
  exact this
 | lst ds=>
  obtain⟨a,xs,hv,_,ta,il⟩:=hi
  subst hv
  cases ru
  obtain⟨its,rv,p,_⟩:=I.list (SqL.of ta)
  obtain⟨o,h1,h2,m,h3⟩:=p.isList
  have e:(qX (.lst ds)).depth=yaB (toPDs ds)+1:=by simp only[qX,ya0]
  have hs':yaI (toPDs ds)=true:=by simpa [qX,ya6] using o1
  have hz':(listText (ybj (toPDs ds))).length<=yaq:=by simpa only[qX,ybL] using o2
  obtain⟨bs,hb,hk⟩:=qco (X:=X) (s:=s) ds xs its (λy hy v u=>qkM I _ y v u (yac _)) hs' il rv λt ht=>yau (listText_mem_le ht) hz'
  have hna:a ∉ bs:=ycK rd (by rw[e];omega) hb
  cases its with
  | nil=>
   have e0:ds=[]:=by
    have g1:=il.length
    have g2:=rv.length
    cases ds with
    |nil=>rfl
    |cons d ds=>exact absurd (g1.symm.trans g2) (by simp)
   subst e0
   exact leaf λz=>by cases z
  |cons y its=>
   refine call_repr_slot (by omega) ⟨o,h1,h2⟩ F.slot_list_repr.toG (call_list_reprK h1 h2 h3 hna (by simpa using hk.length_eq) (λj w g=>hk.item j w (by simpa using g)) hr.gd (λb _=>Clear.nil b) (by show X.A.units+1+_<cLine;omega) (λ_ _ z=>z) (λh' t tk hk'=>⟨_,_,rfl,?_⟩) hz')
   have:=fin h' t tk hk'
   simp only[qX,ybL]at this
   exact this
end
def vn:List D->OD
 | [d]=>if qav d then some (.str (qX d).shown)else none
 |_=>none
theorem qcq {K:Fr0}:qbI K vn (qkN K):=by
 intro A H xs d vs Q hn h e k
 unfold vn at e
 split at e
 ·rename_i d0
  obtain⟨v,rfl,e2⟩:=IsL.inv1 h
  obtain⟨e6,e7⟩:=jt e
  subst e7
  exact⟨v,d0,A,rfl,e2,e6,k _ H (yn.refl H) rfl⟩
 ·cases e
end L2.Sk
namespace L2
open PySem PySem.Spec PyProof.Rows
section
variable{κ:Type}[DecidableEq κ]
def qoj(kvs:List (κ×V))(k:κ):List (κ×V):=kvs.filter λkv=>decide (kv.1≠k)
theorem qmR.getD {o:Option V} {u:Option Value} {d:V} {d':Value} (r:qmR o u) (rd:yg d d'):yg (o.getD d) (u.getD d'):=by
 cases o with
 |none=>cases u with
  |none=>exact rd
  |some _=>exact(show False from r).elim
 |some _=>cases u with
  |none=>exact(show False from r).elim
  |some _=>exact r
theorem KV.any {kvs:List (κ×V)} {vs:List (κ×Value)} (r:KV kvs vs) (k:κ):(kvs.any λkv=>decide (kv.1=k))=vs.any λkv=>decide (kv.1=k):=by
 unfold KV at r
 induction r with
 |nil=>rfl
 |cons h t ih=>rw[ycS,ycS,ih,h.1]
theorem KV.drop {kvs:List (κ×V)} {vs:List (κ×Value)} (r:KV kvs vs) (k:κ):KV (qoj kvs k) (without vs k):=by
 unfold KV at r |-
 unfold qoj without
 induction r with
 |nil=>exact .nil
 | @cons p q ps qs h t ih=>
  obtain⟨h1,h2⟩:=h
  rw[ft_,ft_]
  by_cases e:p.1=k
  ·have a:¬decide (p.1≠k)=true:=by simp[e]
   have b:¬decide (q.1≠k)=true:=by simp[h1.symm.trans e]
   rw[if_neg a,if_neg b];exact ih
  ·have e':¬q.1=k:=λz=>e (h1.trans z)
   have a:decide (p.1≠k)=true:=by simp[e]
   have b:decide (q.1≠k)=true:=by simp[e']
   rw[if_pos a,if_pos b];exact .cons ⟨h1,h2⟩ ih
theorem KV.length{kvs:List (κ×V)}{vs:List (κ×Value)}(r:KV kvs vs):kvs.length=vs.length:=Paired.length r
end
structure M1 (X:Cx) (o:Expr) (m:Str) (apos:Pos) (e:Expr) (cpos:Pos):Prop where
 base:ycT o m X.env (eval o X.env)=eval o X.env
 few:((yaR cpos (yah [e] X.env)).all (λx => !x.1)&&(yeH cpos (ydq [] X.env)).all (λx=>x.1.isSome)
  && decide (([e]:List Expr).length+([]:List ycm).length+(if([]:List ycm).isEmpty then 0 else 1)<30))=true
 line:(apos.endLine==cpos.line)=true
 trees:yaR cpos (yah [e] X.env)=[(false,eval e X.env)]
structure M2 (X:Cx) (o:Expr) (m:Str) (apos:Pos) (e f:Expr) (cpos:Pos):Prop where
 base:ycT o m X.env (eval o X.env)=eval o X.env
 few:((yaR cpos (yah [e,f] X.env)).all (λx => !x.1)&&(yeH cpos (ydq [] X.env)).all (λx=>x.1.isSome)
  && decide (([e,f]:List Expr).length+([]:List ycm).length+(if([]:List ycm).isEmpty then 0 else 1)<30))=true
 line:(apos.endLine==cpos.line)=true
 trees:yaR cpos (yah [e,f] X.env)=[(false,eval e X.env),(false,eval f X.env)]
end L2
namespace L2
open PySem PySem.Spec PyProof.Rows
end L2
namespace L2.Sk
open PySem PySem.Spec PyProof.Rows
abbrev Kv:=List (Key×Int)
def toV(kvs:Kv):List (Key×V):=kvs.map λp=>(p.1,V.int p.2)
def qoN(kvs:Kv)(k:Int):Option Int:=(kvs.find? λp=>decide (p.1=yck k)).map (·.2)
def qqY(kvs:Kv)(k v:Int):Kv:=if(kvs.any λp=>decide (p.1=yck k))=true then kvs.map (λp=>if p.1=yck k then(p.1,v)else p)else kvs++[(yck k,v)]
section
variable{X:Cx}{c:Fc}{a b e:Expr}{pos:Pos}
def qqZ:D->D->OD
 |.dic kvs,.int k=>(qoN kvs k).map D.int
 |_,_=>none
end
def gin (kvs0:Kv) (e1:M D) (jP jF jL jT jH:Nat):List D->Env->Kv->Option (Env×Kv)
 | [],Z,kvs=>some (Z,kvs)
 | d :: ds,Z,kvs=>match d with
  | .tup [x,y]=>(match e1 ((Z.set jF (some x)).set jL (some y)) with
   | .ok (.int t,Z2)=>(match (Z2.set jT (some (.int t)))[jP]?,(Z2.set jT (some (.int t)))[jL]? with
    | some (some (.int k)),some (some (.int l))=>(match qoN kvs0 k with
     | some v=>(match ((Z2.set jT (some (.int t))).set jH (some (.int (v+l))))[jT]?,((Z2.set jT (some (.int t))).set jH (some (.int (v+l))))[jH]? with
      | some (some (.int t')),some (some (.int h))=>if kvs.length<1000 then
        gin kvs0 e1 jP jF jL jT jH ds ((Z2.set jT (some (.int t))).set jH (some (.int (v+l)))) (qqY kvs t' (if h<(qoN kvs t').getD h then h else(qoN kvs t').getD h))
       else none
      |_,_=>none)
     |none=>none)
    |_,_=>none)
   |_=>none)
  |_=>none
def qqo (kvs0:Kv) (it:M (List D)) (e1:M D) (jP jF jL jT jH:Nat):List Key->Env->Kv->Option (Env×Kv)
 | [],Z,kvs=>some (Z,kvs)
 | k :: ks,Z,kvs=>match k with
  | .inl n=>(match it (Z.set jP (some (.int n))) with
   |.ok (ds,Z2)=>(match gin kvs0 e1 jP jF jL jT jH ds Z2 kvs with
    |some (Z3,kvs3)=>qqo kvs0 it e1 jP jF jL jT jH ks Z3 kvs3
    |none=>none)
   |_=>none)
  |.inr _=>none
def qq0 (Z:Env):Bool:=Z.all λo=>match o with
 |some d=>imm d
 |none=>true
def qq1 (i iF:Nat) (it:M (List D)) (e1:M D) (jP jF jL jT jH:Nat):MS:=λZ=>match Z[iF]? with
 |some (some (.dic kvs0))=>if(qq0 ((Z.set i none).set iF none)&&decide (i<Z.length))=true then(match qqo kvs0 it e1 jP jF jL jT jH (kvs0.map (·.1)) ((Z.set i none).set iF none) kvs0 with
  |some (Z',kvs') => .ok (.nx ((Z'.set i (some (.dic kvs'))).set iF (some (.dic kvs'))))
  |none => .bad)else .bad
 |_ => .bad
abbrev cg(a:Addr)(Hf:Hp):Fc:=⟨[],[],λx=>Hf x=none,Hf,λx=>x=a,λ_ _=>False,λ_=>none⟩
structure RP (K:Fr0) (i iF:Nat) (a b:Addr) (Hf:Hp) (Z:Env) (kvs:Kv) (σ:St) (H:Hp):Prop where
 rep:Rep K (cg a Hf) Z σ H
 si:σ[i]? = some (some (.ref a))
 sF:σ[iF]? = some (some (.ref b))
 ha:H a=some (.dK (toV kvs))
def GA(a:Addr)(H H':Hp):Prop:=∀x o,x≠a->H x=some o->H' x=some o
theorem GA.trans{a:Addr}{H H1 H2:Hp}(g:GA a H H1)(k:GA a H1 H2):GA a H H2:=λx o n h=>k x o n (g x o n h)
section
variable{K:Fr0}{i iF:Nat}{a b:Addr}{Hf:Hp}{Z:Env}{kvs:Kv}{σ:St}{H H':Hp}
theorem RP.gr {Z':Env} (r:RP K i iF a b Hf Z kvs σ H) (rep:Rep K (cg a Hf) Z' σ H') (g:Gr [] σ H H'):RP K i iF a b Hf Z' kvs σ H' :=
 ⟨rep,r.si,r.sF,g.ext.at_ a _ (λ_ z=>by cases z) r.ha⟩
end
def qro:List D->OD
 | [.int i]=>if decide (i.natAbs.log2<1920)then some (.str (toString i))else none
 |_=>none
section
variable{X:Cx}{c:Fc}{e:Expr}{pos:Pos}
def qq2 (i j1 j2:Nat) (f:M D):MS:=sbnd f λd Z=>match d,jr i Z,Z[j1]?,Z[j2]? with
 |.tup [d1,d2],some ds,some (some (.int n1)),some (some (.int n2))=>(match ixN ds.length n1,ixN ds.length n2 with
  |some q1,some q2=>if(imm d1&&imm d2)=true then .ok (.nx (Z.set i (some (.lst ((ds.set q1 d1).set q2 d2)))))else .bad
  |_,_ => .bad)
 |_,_,_,_ => .bad
end
def qq3:List D->OD
 | [.tup ds]=>match wH ds with
  |some (n::ns)=>some (.int (qp9 (n::ns)))
  |_=>none
 |_=>none
section
variable{P:yar}{w:World}{K:yan}{mg:Str->Option Value}{base:Heap}{k:Nat}{f:Addr}{fd:yaP}{ps:List Str}{x:Str}
theorem qkO:vV P w K mg base CX0 k f fd ps (spD K λ_ => .bad):=⟨λvs H Q E ⟨_,_,_,_,h⟩=>h.elim,λA outer s H args us vs Q E _ _ _ _ ⟨_,_,_,_,h⟩=>h.elim⟩
theorem qf9:vV P w K mg base CX0 k f fd ps (qba K λ_ _ => .bad):=⟨λvs H Q E ⟨_,_,_,_,_,_,_,_,_,_,_,_,h⟩=>h.elim,λA outer s H args us vs Q E _ _ _ _ ⟨_,_,_,_,_,_,_,_,_,_,_,_,h⟩=>h.elim⟩
theorem qfi {L off:Nat} {Fr:Nat->List D->R D} (b:qB P w K mg base L x ps (spD K (Fr 0))) (st:∀kR n,L<=kR->qB P w K mg base kR x ps (spD K (Fr n))->qB P w K mg base (kR+off) x ps (spD K (Fr (n+1)))):∀n,qB P w K mg base (L+off*n) x ps (spD K (Fr n))
 |0=>b
 |n+1=>by
  rw[Nat.mul_succ,<-Nat.add_assoc]
  exact st (L+off*n) n (ydZ _ _) (qfi b st n)
theorem qcr {L off:Nat} {Fr:Nat->List D->List D->R (D×List D)} (b:qB P w K mg base L x ps (qba K (Fr 0))) (st:∀kR n,L<=kR->qB P w K mg base kR x ps (qba K (Fr n))->qB P w K mg base (kR+off) x ps (qba K (Fr (n+1)))):∀n,qB P w K mg base (L+off*n) x ps (qba K (Fr n))
 |0=>b
 |n+1=>by
  rw[Nat.mul_succ,<-Nat.add_assoc]
  exact st (L+off*n) n (ydZ _ _) (qcr b st n)
end
end L2.Sk
namespace L2.Sk
namespace Law
open PySem PySem.Spec PyProof.Rows
set_option maxHeartbeats 4000000
theorem qkP(ds:List D)(r:Env):jr 0 (some (.lst ds)::r)=some ds:=rfl
theorem qkQ(i:Nat)(o:OD)(r:Env):jr (i+1) (o::r)=jr i r:=rfl
theorem ix0(a b c:D):ixD (.tup [a,b,c]) (.int 0)=some a:=rfl
theorem ix1(a b c:D):ixD (.tup [a,b,c]) (.int 1)=some b:=rfl
theorem ix2(a b c:D):ixD (.tup [a,b,c]) (.int 2)=some c:=rfl
theorem qaw(i j:Int):neB (.int i) (.int j)=some (.bl (!decide (i=j))):=rfl
theorem v0(i j:Int):eqB (.int i) (.int j)=some (.bl (decide (i=j))):=rfl
theorem yF(ds:List D):vB (tyD (.tup ds)) "tuple"=true:=rfl
theorem zP(ds:List D):yh [.tup ds]=some (.int ds.length):=rfl
theorem qbC(d:D):isN d .non=some (.bl (yp d)):=rfl
theorem qfj(d:D):qeO d .non=some (.bl (!yp d)):=rfl
theorem qbh(i j:Int):gtD (.int i) (.int j)=some (.bl (decide (j<i))):=rfl
theorem qdw(i j:Int):ltD (.int i) (.int j)=some (.bl (decide (i<j))):=rfl
theorem qdx(i j:Int):leD (.int i) (.int j)=some (.bl (decide (i<=j))):=rfl
local macro_rules | `(tactic| push_cast [$xs,*]) => `(tactic| simp only [uv, vE, qnS, zg, wM, vc, qhT, qnT, qp8, qau, w9, qhU, qjw, qan, qhV, qeh, qbL, qfR, qjx, qkv, qhW, qgE, qaO, vF, qe4, qbb, qhX, qhY, qhZ, vG, qfS, qh0, qkx, wN, qh1, qky, qh2, qh3, qe5, qkz, qcg, qnU, qe6, lC_, lN_, mC_, List.map_nil, List.replicate, List.nil_append, List.cons_append, List.append_nil, List.getElem?_cons_zero, List.getElem?_cons_succ, List.set_cons_zero, List.set_cons_succ, Nat.reduceAdd, Nat.reduceSub, Nat.sub_self, Nat.zero_add, reduceIte, Bool.not_true, Bool.not_false, Bool.false_eq_true, if_true, if_false, ite_true, ite_false, cond_true, cond_false, decide_true, decide_false, ix0, ix1, ix2, yF, zP, qaw, v0, qbC, qfj, qbh, qdw, qdx, qkP, qkQ, qbS, qdt, qf2, qkH, qdu, qe8, $xs,*])
theorem yP {n p:Nat} {body:MS} {ds:List D} {d:D} (h:ds.length=p) (e:∃Z,body (uv n ds)=.ok (.rt d Z)):dfn n p body ds=.ok d:=by
 obtain⟨Z,e⟩:=e
 exact qlR h e
def vo:D->Bool
 |.int _=>true
 |_=>false
def ja:D->Bool
 |.int i=>decide (0<=i)
 |_=>false
def qiq:D->Bool
 |.int i=>decide (0<i)
 |_=>false
def qao:D->Bool
 |.tup [a,b,c]=>qiq a&&ja b&&(yp c||ja c)
 |_=>false
theorem qq4 {ds:List D} (h:ds.length=3):∃a b c,ds=[a,b,c]:=by
 match ds,h with
 | [a,b,c],_=>exact⟨a,b,c,rfl⟩
theorem qgQ {ds:List D} (h:ds.length≠3):qao (.tup ds)=false:=by
 match ds,h with
 | [],_=>rfl
 | [_],_=>rfl
 | [_,_],_=>rfl
 | [a,b,c],h=>exact absurd rfl h
 |_::_::_::_::_,_=>rfl
theorem qk{p q:MS}{Z Z':Env}(h:p Z=.ok (.nx Z')):qE p q Z=q Z':=by rw[qkw,h]
theorem zd{p q:MS}{Z Z':Env}{d:D}(h:p Z=.ok (.rt d Z')):qE p q Z=.ok (.rt d Z'):=by rw[qkw,h]
theorem qok {e:M D} {f:D->D}:∀(ds acc:List D)(o:OD),(∀d∈ds,e [some d]=.ok (f d,[some d]))->acc.length+ds.length<=1000->∃Z',jh (qt 0) (ret true) e ds acc [o]=.ok (acc++ds.map f,Z')
 | [],acc,o,_,_=>⟨[o],by simp[jh]⟩
 |d::ds,acc,o,h,hl=>by
  have hl':acc.length+(ds.length+1)<=1000:=hl
  obtain⟨Z',q⟩:=qok ds (acc++[f d]) (some d) (λx hx=>h x (mM _ hx)) (by rw[lA_,yaJ];omega)
  refine⟨Z',?_⟩
  unfold jh
  simp only[qt,ybM,ret,h d mS_,zA (show acc.length+1<=1000000 by omega),if_true,q]
  simp
theorem qev (f:D->Bool):∀ds:List D,wz (ds.map λd=>D.bl (f d))=some (ds.map f)
 | []=>rfl
 |d::ds=>by simp[wz,qev f ds]
theorem all_map {ds:List D} {f:D->Bool}:qmK [.lst (ds.map λd=>D.bl (f d))]=some (.bl (ds.all f)):=by
 simp only[qmK,qev,ydd]
 congr 2
 rw[yfq]
 rfl
theorem qmh {F:List D->R D} {f:D->Bool} {xs:M (List D)} {ds:List D} {Z:Env} (hx:xs Z=.ok (ds,Z)) (hF:∀d∈ds,F [d]=.ok (.bl (f d))) (hl:ds.length<=1000) :
  qw qmK (qa (jJ 1 [] none xs (qt 0) (ret true) (qj F (qa (dv 0) (ret [])))) (ret [])) Z=.ok (.bl (ds.all f),Z):=by
 obtain⟨Z',q⟩:=qok (e:=qj F (qa (dv 0) (ret []))) (f:=λd=>D.bl (f d)) ds [] none (λx hm=>by push_cast [];rw[hF x hm]) (by simpa using hl)
 have q':jh (qt 0) (ret true) (qj F (qa (dv 0) (ret []))) ds [] (uA 1 [] Z)=.ok ([]++ds.map λd=>D.bl (f d),Z'):=q
 simp only[qau,zg,qdo,hx,q',vE,ybz,all_map]
 rfl
def vp:D->Bool
 |.tup ds=>decide (ds.length<=12)&&ds.all qao
 |_=>false
def leI:D->D->Bool
 |.int i,.int j=>decide (i<=j)
 |_,_=>false
def qpu (k x:D):Bool:=match k with
 |.tup [_,_,m]=>ja x&&(yp m||leI x m)
 |_=>false
def qga:List D->List D->Bool
 |k::ks,x::xs=>qpu k x&&qga ks xs
 |_,_=>true
def qqp:D->D->Bool
 |.tup xs,.tup ks=>decide (xs.length=ks.length)&&qga ks xs
 |_,_=>false
theorem qew {ds:List D} {i:Nat} {d:D} (h:ds[i]? = some d):ixD (.tup ds) (.int (i:Nat))=some d:=by
 have hi:i<ds.length:=(gI_.mp h).1
 show atI ds (i:Int)=some d
 unfold atI ixN
 rw[if_pos (by omega),if_pos (by omega)]
 simpa using h
theorem uD {l:M (List D)} {Z Z1:Env} {j:Int} (e:l Z=.ok ([.int j],Z1)) (h0:0<=j) (h:j<=1000000):jO l Z=.ok (qdl 0 j.toNat,Z1):=by
 have h1:(-(2 ^ 62)<=j):=by omega
 have h2:(j<2 ^ 62):=by omega
 have e2:qko [.int j]=some (qdl 0 j.toNat):=by
  simp only[qko,h1,h2,decide_true,yaF,if_true]
 have e3:jO l Z=lift (qko [.int j]) Z1:=by
  show bnd l (λds=>lift (qko ds)) Z=_
  rw[qph,e]
 rw[e3,e2]
 rfl
theorem qir {n m:Int} (h0:0<m) (h1:m<1606938044258990275541962092341162602522202993782792835301376):qb9 [.int n,.int m]=some (.tup [.int (n/m),.int (n%m)]):=by
 simp only[qb9,qgy,h0,h1,decide_true,yaF,if_true]
theorem at0 (d:D) (r:List D):atI (d::r) 0=some d:=by
 unfold atI ixN
 rw[if_pos (by omega),if_pos (by simp)]
 rfl
theorem qq5:ixN 1 0=some 0:=by decide
theorem yi(i j:Int):zf (.int i) (.int j)=some (.int (i+j)):=rfl
theorem uE(i j:Int):yO (.int i) (.int j)=some (.int (i-j)):=rfl
theorem qex {ds:List D} {k:Int} (h0:0<=k) (h1:k<ds.length):∃d∈ds,ixD (.lst ds) (.int k)=some d:=by
 obtain⟨i,rfl⟩:=yd9 h0
 have hi:i<ds.length:=by omega
 refine⟨ds[i],ybn hi,?_⟩
 show atI ds (i:Int)=_
 unfold atI ixN
 rw[if_pos (by omega),if_pos (by omega)]
 show ds[(i:Int).toNat]? = _
 rw[yaO,gG hi]
theorem qq6 (i:Int):zE (.int 2) (.int i)=some (.int (2*i)):=by
 have h:qeY 2 i=true:=by
  unfold qeY
  have:ug 2=true:=by decide
  rw[this];rfl
 simp only[zE,h,if_true]
def qmi(c m:D):Prop:=m=c\/∃j,m=.int j/\0<=j/\j<=5
def jx(k:D):Prop:=∃a b m,k=.tup [.int a,.int b,m]/\1<=a/\a<=25/\0<=b/\b<=39/\qmi .non m
theorem jx.imm {k:D} (h:jx k):imm k=true:=by
 obtain⟨a,b,m,rfl,_,_,_,_,hm⟩:=h
 rcases hm with rfl|⟨j,rfl,_⟩<;>rfl
theorem jx.lay {k:D} (h:jx k):(qX k).canLay0=true/\(qX k).depth=1:=by
 obtain⟨a,b,m,rfl,_,_,_,_,hm⟩:=h
 rcases hm with rfl|⟨j,rfl,_⟩<;>exact⟨rfl,rfl⟩
theorem qkR:∀ks:List D,(∀k∈ks,jx k)->ybd (toPDs ks)=true/\yaB (toPDs ks)<=1
 | [],_=>⟨rfl,yaD _⟩
 |k::ks,h=>by
  obtain⟨h1,h2⟩:=qkR ks λx hx=>h x (mM _ hx)
  obtain⟨g1,g2⟩:=(h k mS_).lay
  unfold toPDs
  simp only[ybd,yaB,h1,g1,g2,yaF,true_and]
  omega
theorem qfk {ks:List D} (h:∀k∈ks,jx k):∃b,neA (.lst ks) (.lst [])=some (.bl b)/\(b=true->ks≠[]):=by
 obtain⟨h1,h2⟩:=qkR ks h
 have e1:qal (.lst ks)=true:=by
  have e:qal (.lst ks)=(ybd (toPDs ks)&&decide (yaB (toPDs ks)+1<=50)):=by
   simp only[qal,qX,ybt,ya0]
  rw[e,h1,ybb,decide_eq_true_eq]
  omega
 have e2:qal (.lst [])=true:=rfl
 refine⟨!ya1 (qX (.lst ks)) (qX (.lst [])),by simp only[neA,e1,e2,yaF,if_true],λhb hn=>?_⟩
 subst hn
 exact absurd hb (by decide)
theorem qol {ds:List D} {k:Int} (h0:0<=k) (h1:k<ds.length):∃d∈ds,atI ds k=some d:=by
 obtain⟨d,hd,e⟩:=qex h0 h1
 exact⟨d,hd,e⟩
theorem qjS(j:Nat):(qdl 0 j).length=j:=by simp[qdl]
theorem v3 {i j:Int} (h:0<j):qeZ (.int i) (.int j)=some (.int (i%j)):=by
 simp only[qeZ,qkj,h,decide_true,if_true]
theorem vH {i j:Int} (h:0<j) (h1:j<1606938044258990275541962092341162602522202993782792835301376):vA (.int i) (.int j)=some (.int (i/j)):=by
 simp only[vA,qkj,qgy,h,h1,decide_true,yaF,if_true]
theorem qfl {i j:Int} (h:ug i=true):zE (.int i) (.int j)=some (.int (i*j)):=by
 simp only[zE,qeY,h,Bool.true_or,if_true]
theorem qjT {i j:Int} (h:ug j=true):zE (.int i) (.int j)=some (.int (i*j)):=by
 simp only[zE,qeY,h,yfj,if_true]
theorem qfm {i:Int} (h0:0<=i) (h1:i<2000000000):ug i=true:=by
 unfold ug
 rw[yal,decide_eq_true_eq,decide_eq_true_eq]
 constructor<;>omega
def facts:List Int:=[48271,69621,16807,39373,30269,40014,40692,50021,61687,71993,83869,95561,30307]
structure yG (w e:Nat) (d:D):Prop where
 lv:(qX d).leavesShort 40=true
 sh:(qX d).showable=true
 wt:(qX d).weight<=w
 dp:(qX d).depth<=e
theorem yG.mono{w e w' e':Nat}{d:D}(h:yG w e d)(h1:w<=w')(h2:e<=e'):yG w' e' d:=⟨h.lv,h.sh,yau h.wt h1,yau h.dp h2⟩
theorem qdy {w e:Nat}:∀ds:List D,(∀d∈ds,yG w e d)->ybv 40 (toPDs ds)=true/\yaI (toPDs ds)=true/\yb0 (toPDs ds)<=ds.length*(w+1)/\yaB (toPDs ds)<=e
 | [],_=>⟨rfl,rfl,yaD _,yaD _⟩
 |d::ds,h=>by
  obtain⟨h1,h2,h3,h4⟩:=qdy ds λx hx=>h x (mM _ hx)
  have g:=h d mS_
  have g3:=g.wt
  have g4:=g.dp
  simp only[toPDs,ybv,yaI,yb0,yaB,h1,h2,g.lv,g.sh,yaF,true_and,lC_,yfg]
  omega
theorem qdz {w e n:Nat} {ds:List D} (h:∀d∈ds,yG w e d) (hl:ds.length<=n):yG (n*(w+1)) (e+1) (.tup ds):=by
 obtain⟨h1,h2,h3,h4⟩:=qdy ds h
 refine⟨?_,?_,?_,?_⟩
 ·simp only[qX,ybN,h1]
 ·simp only[qX,ya6,h2]
 ·simp only[qX,ycj]
  exact yau h3 (ydf _ hl)
 ·simp only[qX,ya0]
  omega
theorem qjU {w e n:Nat} {ds:List D} (h:∀d∈ds,yG w e d) (hl:ds.length<=n):yG (n*(w+1)) (e+1) (.lst ds):=by
 obtain⟨h1,h2,h3,h4⟩:=qdy ds h
 refine⟨?_,?_,?_,?_⟩
 ·simp only[qX,ybN,h1]
 ·simp only[qX,ya6,h2]
 ·simp only[qX,ycj]
  exact yau h3 (ydf _ hl)
 ·simp only[qX,ya0]
  omega
def qmj(d:D):Bool:=(qX d).leavesShort 40&&(qX d).showable&&decide ((qX d).weight<=130)&&decide ((qX d).depth<=5)
theorem qis {d:D} (h:qmj d=true):yG 130 5 d:=by
 simp only[qmj,yal,decide_eq_true_eq]at h
 exact⟨h.1.1.1,h.1.1.2,h.1.2,h.2⟩
def dl(d:D):Bool := !(qX d).hasDict||noL d
def plain(d:D):Bool := !(qX d).hasDict&&noL d
def qey:List D:=[.non,.bl true,.bl false,.int (-1),.str "",.str "1",.tup [.int 0],.lst [.int 1],.dic [(.inr "a",1)],.tup [.int (-1)],.tup [.bl true],.tup [.tup [.int 1,.int 2]],.tup [.non],.int 100000000000000000000000000000]
def qez:List D:=[.tup [.int 1,.int 2,.int 3],.tup [.tup [.int 0,.int 1,.int 1]],.tup [.tup [.int 1,.int (-1),.int 1]],.tup [.tup [.int 1,.int 1,.int (-1)]],.lst [.tup [.int 1,.int 1,.int 1]],.dic [(.inl 0,1)],.str "1/1*1",.tup [.tup [.int 1,.int 1,.bl true]]]
theorem qit:(qey++qez).all (λd=>qmj d&&dl d)=true:=by decide +kernel
theorem neg_int(i:Int):qbA (.int i)=some (.int (-i)):=rfl
theorem qmk:qoJ (.int 10) (.int 29)=some (.int 100000000000000000000000000000):=by
 have h:qlL 10 29=true:=by decide +kernel
 have e:(10:Int) ^ (29:Int).toNat=100000000000000000000000000000:=by decide +kernel
 simp only[qoJ,qkj,h,if_true,e]
theorem ua {xs ys:List D} (h:xs.length+ys.length<=1000000):zf (.lst xs) (.lst ys)=some (.lst (xs++ys)):=by
 simp only[zf,zA h,if_true]
theorem vf {xs ys:List D} (h:xs.length+ys.length<=1000000):zf (.tup xs) (.tup ys)=some (.tup (xs++ys)):=by
 simp only[zf,zA h,if_true]
def pt (p:Int):D->Int
 |.tup [.int a,.int b,_]=>if p=0 then a else b
 |_=>0
def num:D->Int
 |.int x=>x
 |_=>0
def qpv (p:Int):List D->List D->List Int
 |k::ks,x::xs=>(pt p k*num x)::qpv p ks xs
 |_,_=>[]
theorem qdA:∀ns:List Int,wH (ns.map D.int)=some ns
 | []=>rfl
 |n::ns=>by simp[wH,qdA ns]
theorem qjV {i:Int} (h:i.natAbs<10 ^ 39):yG 130 0 (.int i):=by
 have hl:i.natAbs.log2<130:=by
  by_cases h0:i.natAbs=0
  ·rw[h0];decide
  ·refine(yfM h0).mpr (yaw h (by decide +kernel))
 refine⟨?_,?_,?_,yac _⟩
 ·show decide ((ybL (.int i)).length<=40)=true
  refine decide_eq_true ?_
  have e:=int_text_length_le10 (k:=39) (by decide) h
  show(ybJ (toString i)).length<=40
  rw[PySem.ofString_length]
  exact e
 ·show decide (i.natAbs.log2<1920)=true
  exact decide_eq_true (by omega)
 ·show(if(i==0)=true then 0 else i.natAbs.log2+1)<=130
  split<;>omega
theorem qeA(xs:List D):qbJ [.tup xs]=some (.lst xs):=rfl
theorem qiu (x:Str):neB (.str x) (.str x)=some (.bl false):=by
 show some (D.bl (!decide (x=x)))=_
 rw[decide_eq_true rfl];rfl
theorem qfn (xs:List D) (a b:Option Int):(qbK xs a b).length<=xs.length:=by
 unfold qbK
 simp only[yaT,ybF]
 omega
theorem qom {F:List D->R D} {f g h:M D} {Z:Env} {a b c d:D} (hf:f Z=.ok (a,Z)) (hg:g Z=.ok (b,Z)) (hh:h Z=.ok (c,Z)) (e:F [a,b,c]=.ok d):qj F (qa f (qa g (qa h (ret [])))) Z=.ok (d,Z):=by
 have e1:qa h (ret []) Z=.ok ([c],Z):=by rw[zg,hh];rfl
 have e2:qa g (qa h (ret [])) Z=.ok ([b,c],Z):=by rw[zg,hg];dsimp only;rw[e1]
 have e3:qa f (qa g (qa h (ret []))) Z=.ok ([a,b,c],Z):=by rw[zg,hf];dsimp only;rw[e2]
 rw[w9,e3]
 dsimp only
 rw[e]
theorem yH {F:List D->OD} {f:M D} {Z:Env} {a d:D} (hf:f Z=.ok (a,Z)) (e:F [a]=some d):qw F (qa f (ret [])) Z=.ok (d,Z):=by
 have e0:qa f (ret []) Z=.ok ([a],Z):=by rw[zg,hf];rfl
 rw[qau,e0]
 dsimp only
 rw[e]
theorem qbT(i j:Int):qaf [.int i,.int j]=some (.int (if j<i then j else i)):=rfl
theorem sl_tup(xs:List D)(a b:Option Int):slD (.tup xs) a b=some (.tup (qbK xs a b)):=rfl
theorem qml {α:Type} {e:M D} {t:M Bool} {k f:α->D} {p:α->Bool} {r:Env}:∀(as:List α)(acc:List D)(o:OD),(∀a∈as,t (some (k a)::r)=.ok (p a,some (k a)::r))->(∀a∈as,p a=true->e (some (k a)::r)=.ok (f a,some (k a)::r))->acc.length+as.length<=1000000 ->
  ∃o',jh (qt 0) t e (as.map k) acc (o::r)=.ok (acc++(as.filter p).map f,o'::r)
 | [],acc,o,_,_,_=>⟨o,by simp[jh]⟩
 | a::as,acc,o,ht,he,hl=>by
  have hl':acc.length+(as.length+1)<=1000000:=hl
  have h1:=ht a mS_
  rw[mC_]
  unfold jh
  simp only[qt,ybM,h1]
  cases hp:p a with
  |false=>
   obtain⟨o',q⟩:=qml as acc (some (k a)) (λx hx=>ht x (mM _ hx)) (λx hx=>he x (mM _ hx)) (by omega)
   refine⟨o',?_⟩
   simp only[q,ft_,hp,yaX,if_false]
  |true=>
   obtain⟨o',q⟩:=qml as (acc++[f a]) (some (k a)) (λx hx=>ht x (mM _ hx)) (λx hx=>he x (mM _ hx)) (by rw[lA_,yaJ];omega)
   refine⟨o',?_⟩
   simp only[he a mS_ hp,zA (show acc.length+1<=1000000 by omega),if_true,q,ft_,hp,mC_,aA_,yeB]
theorem qgb {α:Type} {e:M D} {t:M Bool} {k:α->D} {xs:M (List D)} {Z r:Env} {fr:List Nat} (as:List α) (p:α->Bool) (f:α->D) (hx:xs Z=.ok (as.map k,Z)) (hr:uA 1 fr Z=none::r) (hl:as.length<=1000000)
  (ht:∀a∈as,t (some (k a)::r)=.ok (p a,some (k a)::r)) (he:∀a∈as,p a=true->e (some (k a)::r)=.ok (f a,some (k a)::r)):jJ 1 fr none xs (qt 0) t e Z=.ok (.lst ((as.filter p).map f),Z):=by
 obtain⟨o',q⟩:=qml as [] none ht he (by simpa using hl)
 rw[qdo,hx]
 simp only[hr,q,ybz]
 rfl
theorem qcs{α:Type}(as:List α):as.filter (λ_=>true)=as:=by simp
theorem qkS {α:Type} {e:M D} {k:α->D} {xs:M (List D)} {Z r:Env} {fr:List Nat} (as:List α) (f:α->D) (hx:xs Z=.ok (as.map k,Z)) (hr:uA 1 fr Z=none::r) (hl:as.length<=1000000)
  (he:∀a∈as,e (some (k a)::r)=.ok (f a,some (k a)::r)):jJ 1 fr none xs (qt 0) (ret true) e Z=.ok (.lst (as.map f),Z):=by
 rw[qgb as (λ_=>true) f hx hr hl (λ_ _=>rfl) λa ha _=>he a ha,qcs]
theorem qaU {α β:Type} {G:D->Env->Option Env} {b:MS} {k:α->D} {step:β->α->β} {Inv:Nat->β->Env->Prop}:∀(as:List α)(n:Nat)(s:β)(Z:Env),Inv n s Z ->
  (∀a∈as,∀m s Z,n<=m->m<n+as.length->Inv m s Z->∃Z1 Z2,G (k a) Z=some Z1/\b Z1=.ok (.nx Z2)/\Inv (m+1) (step s a) Z2) ->
  ∃Z',yD G b (as.map k) Z=.ok (.nx Z')/\Inv (n+as.length) (as.foldl step s) Z'
 | [],n,s,Z,h,_=>⟨Z,rfl,h⟩
 | a::as,n,s,Z,h,H=>by
  obtain⟨Z1,Z2,h1,h2,h3⟩:=H a mS_ n s Z (yac _) (by rw[lC_];omega) h
  obtain⟨Z',q,w⟩:=qaU as (n+1) (step s a) Z2 h3 λx hx m s Z m1 m2=>H x (mM _ hx) m s Z (by omega) (by rw[lC_];omega)
  refine⟨Z',?_,?_⟩
  ·rw[mC_]
   unfold yD
   simp only[h1,h2]
   exact q
  ·rw[lC_,show n+(as.length+1)=n+1+as.length by omega]
   exact w
theorem qah{f:M D}{Z:Env}{a:D}(hf:f Z=.ok (a,Z)):qa f (ret []) Z=.ok ([a],Z):=by rw[zg,hf];rfl
theorem qdB{f g:M D}{Z:Env}{a b:D}(hf:f Z=.ok (a,Z))(hg:g Z=.ok (b,Z)):qa f (qa g (ret [])) Z=.ok ([a,b],Z):=by rw[zg,hf];simp only[qah hg]
theorem qfo{f g h:M D}{Z:Env}{a b c:D}(hf:f Z=.ok (a,Z))(hg:g Z=.ok (b,Z))(hh:h Z=.ok (c,Z)):qa f (qa g (qa h (ret []))) Z=.ok ([a,b,c],Z):=by rw[zg,hf];simp only[qdB hg hh]
theorem qbU{f g:M D}{Z:Env}{a b:D}(hf:f Z=.ok (a,Z))(hg:g Z=.ok (b,Z)):qF (qa f (qa g (ret []))) Z=.ok (.tup [a,b],Z):=by rw[wM,qdB hf hg];simp only[lC_,lN_,zA (show 0+1+1<=1000000 by omega),if_true]
theorem qgR{f g h:M D}{Z:Env}{a b c:D}(hf:f Z=.ok (a,Z))(hg:g Z=.ok (b,Z))(hh:h Z=.ok (c,Z)):qF (qa f (qa g (qa h (ret [])))) Z=.ok (.tup [a,b,c],Z):=by rw[wM,qfo hf hg hh];simp only[lC_,lN_,zA (show 0+1+1+1<=1000000 by omega),if_true]
theorem qbD{F:List D->R D}{f:M D}{Z:Env}{a d:D}(hf:f Z=.ok (a,Z))(e:F [a]=.ok d):qj F (qa f (ret [])) Z=.ok (d,Z):=by rw[w9,qah hf];simp only[e]
theorem yI{F:List D->R D}{f g:M D}{Z:Env}{a b d:D}(hf:f Z=.ok (a,Z))(hg:g Z=.ok (b,Z))(e:F [a,b]=.ok d):qj F (qa f (qa g (ret []))) Z=.ok (d,Z):=by rw[w9,qdB hf hg];simp only[e]
theorem qg{F:D->D->OD}{f g:M D}{Z:Env}{a b d:D}(hf:f Z=.ok (a,Z))(hg:g Z=.ok (b,Z))(e:F a b=some d):d2 F f g Z=.ok (d,Z):=by rw[qnT,hf];simp only[hg,e]
theorem qO{f:M D}{Z:Env}{b:Bool}(hf:f Z=.ok (.bl b,Z)):tst f Z=.ok (b,Z):=by rw[qjw,hf];rfl
theorem vI{t:M Bool}{p q:MS}{Z:Env}(h:t Z=.ok (true,Z)):sif t p q Z=p Z:=by rw[qgE,h];rfl
theorem qaD{t:M Bool}{p q:MS}{Z:Env}(h:t Z=.ok (false,Z)):sif t p q Z=q Z:=by rw[qgE,h];rfl
theorem vJ {G:D->Env->Option Env} {b:MS} {d:D} {ds:List D} {Z Z1 Z2:Env} (h1:G d Z=some Z1) (h2:b Z1=.ok (.nx Z2)):yD G b (d::ds) Z=yD G b ds Z2:=by
 show(match G d Z with|none=>R.bad|some Z1=>_)=_
 rw[h1]
 simp only[h2]
theorem io1 {F:List D->List D->R (D×List D)} {i:Nat} {f:M D} {Z:Env} {ds ds':List D} {a d:D} (h:jr i Z=some ds) (hf:f Z=.ok (a,Z)) (e:F ds [a]=.ok (d,ds')):ql F i (qa f (ret [])) Z=.ok (d,Z.set i (some (.lst ds'))):=by
 simp only[wN,h,qah hf,e]
def mD:Option Int->D
 |none => .non
 |some j => .int j
abbrev Kd:=Int×Int×Option Int
def kD(x:Kd):D:=.tup [.int x.1,.int x.2.1,mD x.2.2]
theorem qgc {α:Type} {f:α->D}:∀{as:List α},(∀a∈as,imm (f a)=true)->immL (as.map f)=true
 | [],_=>rfl
 |a::as,h=>by simp only[mC_,immL,h a mS_,qgc λx hx=>h x (mM _ hx),yaF]
def okK(x:Kd):Prop:=0<x.1/\0<=x.2.1/\(∀j,x.2.2=some j->0<=j)
theorem qiv {x:Kd} (h:okK x):qao (kD x)=true:=by
 obtain⟨a,b,m⟩:=x
 obtain⟨h1,h2,h3⟩:=h
 have e1:qiq (.int a)=true:=decide_eq_true h1
 have e2:ja (.int b)=true:=decide_eq_true h2
 cases m with
 |none=>simp only[kD,mD,qao,e1,e2,yp,ybb,Bool.true_or]
 |some j=>
  have e3:ja (.int j)=true:=decide_eq_true (h3 j rfl)
  simp only[kD,mD,qao,e1,e2,e3,ybb,yfj]
theorem qgd(m:Option Int):yp (mD m)=m.isNone:=by cases m<;>rfl
theorem qiw {α:Type} {ds:List α} {n:Nat} {d:α} (h:ds[n]? = some d):atI ds (n:Int)=some d:=by
 unfold atI ixN
 have hl:=(gI_.mp h).1
 rw[if_pos (by omega),if_pos (by omega)]
 show ds[(n:Int).toNat]? = _
 rw[yaO];exact h
theorem qix {α:Type} {e:M D} {t:M Bool} {u v f:α->D} {p:α->Bool} {r:Env}:∀(as:List α)(acc:List D)(o o':OD),(∀a∈as,t (some (u a)::some (v a)::r)=.ok (p a,some (u a)::some (v a)::r))->(∀a∈as,p a=true->e (some (u a)::some (v a)::r)=.ok (f a,some (u a)::some (v a)::r))->acc.length+as.length<=1000000 ->
  ∃o1 o2,jh (qa3 2 (zm (qt 0) (zm (qt 1) qa2))) t e (as.map λa => .tup [u a,v a]) acc (o::o'::r)=.ok (acc++(as.filter p).map f,o1::o2::r)
 | [],acc,o,o',_,_,_=>⟨o,o',by simp[jh]⟩
 | a::as,acc,o,o',ht,he,hl=>by
  have hl':acc.length+(as.length+1)<=1000000:=hl
  have h1:=ht a mS_
  rw[mC_]
  unfold jh
  have hg:qa3 2 (zm (qt 0) (zm (qt 1) qa2)) (.tup [u a,v a]) (o::o'::r)=some (some (u a)::some (v a)::r):=rfl
  simp only[hg,h1]
  cases hp:p a with
  |false=>
   obtain⟨o1,o2,q⟩:=qix as acc (some (u a)) (some (v a)) (λx hx=>ht x (mM _ hx)) (λx hx=>he x (mM _ hx)) (by omega)
   refine⟨o1,o2,?_⟩
   simp only[q,ft_,hp,yaX,if_false]
  |true=>
   obtain⟨o1,o2,q⟩:=qix as (acc++[f a]) (some (u a)) (some (v a)) (λx hx=>ht x (mM _ hx)) (λx hx=>he x (mM _ hx)) (by rw[lA_,yaJ];omega)
   refine⟨o1,o2,?_⟩
   simp only[he a mS_ hp,zA (show acc.length+1<=1000000 by omega),if_true,q,ft_,hp,mC_,aA_,yeB]
theorem qmm {α:Type} {e:M D} {t:M Bool} {u v:α->D} {xs:M (List D)} {Z r:Env} {fr:List Nat} (as:List α) (p:α->Bool) (f:α->D) (hx:xs Z=.ok (as.map λa => .tup [u a,v a],Z)) (hr:uA 2 fr Z=none::none::r) (hl:as.length<=1000000)
  (ht:∀a∈as,t (some (u a)::some (v a)::r)=.ok (p a,some (u a)::some (v a)::r)) (he:∀a∈as,p a=true->e (some (u a)::some (v a)::r)=.ok (f a,some (u a)::some (v a)::r)):jJ 2 fr none xs (qa3 2 (zm (qt 0) (zm (qt 1) qa2))) t e Z=.ok (.lst ((as.filter p).map f),Z):=by
 obtain⟨o1,o2,q⟩:=qix as [] none none ht he (by simpa using hl)
 rw[qdo,hx]
 simp only[hr,q,ybz]
 rfl
theorem qon (n:Nat):qdl 0 n=(yay n).map λi=>D.int (i:Nat):=by
 unfold qdl
 refine ye0 λi _=>?_
 rw[Int.zero_add]
end Law
end L2.Sk
namespace L2.Sk.Law
def qqq:Nat->(Nat->Nat)->Nat
 |0,_=>0
 |n+1,f=>qqq n f+f n
structure Kw where
 w:Int
 v:Int
 m:Option Int
def okT(k:Kw)(t:Nat)(r:Int):Bool:=decide ((t:Int)*k.w<=r)&&(match k.m with|none=>true|some j=>decide ((t:Int)<=j))
def qqr (N:Nat) (φ:Int->Nat):List Kw->Int->Int->Nat
 | [],_,y=>φ y
 |k::ks,r,y=>qqq (N+1) λt=>if okT k t r then qqr N φ ks (r-t*k.w) (y+t*k.v)else 0
def ofn(k:Kw)(r:Int):Nat:=(match k.m with|none=>r/k.w|some j=>if j<r/k.w then j else r/k.w).toNat
theorem qmn {k:Kw} (hw:1<=k.w) (hm:∀j,k.m=some j->0<=j) {r:Int} (hr:0<=r) (t:Nat):okT k t r=decide (t<=ofn k r):=by
 have hd:0<=r/k.w:=yej hr (by omega)
 have he:((t:Int)*k.w<=r) ↔ ((t:Int)<=r/k.w):=(Int.le_ediv_iff_mul_le (by omega)).symm
 unfold okT ofn
 cases hk:k.m with
 |none=>
  dsimp only
  rw[Bool.and_true,ybg,decide_eq_true_eq,decide_eq_true_eq,he]
  omega
 |some j=>
  have hj:=hm j hk
  dsimp only
  rw[ybg,yal,decide_eq_true_eq,decide_eq_true_eq,decide_eq_true_eq,he]
  split<;>omega
theorem qkT {k:Kw} (hw:1<=k.w) (hm:∀j,k.m=some j->0<=j) {r:Int} (hr:0<=r) {t:Nat} (h:t<=ofn k r):(t:Int)*k.w<=r/\(t:Int)<=r:=by
 have h1:okT k t r=true:=by rw[qmn hw hm hr];exact decide_eq_true h
 unfold okT at h1
 rw[yal,decide_eq_true_eq]at h1
 refine⟨h1.1,Int.le_trans ?_ h1.1⟩
 have:=Int.mul_le_mul_of_nonneg_left hw (show(0:Int)<=t by omega)
 omega
def qct(k:Kw)(found:List (List Int×Int)):List (List Int×Int):=found.flatMap λp=>(yay (ofn k p.2+1)).map λ(t:Nat)=>(p.1++[(t:Int)],p.2-(t:Int)*k.w)
def yQ:List Kw->List Int->Int
 |k::ks,t::ts=>t*k.v+yQ ks ts
 |_,_=>0
theorem qcu (k:Kw) (t:Int):∀(pre:List Kw)(ld:List Int),pre.length=ld.length->yQ (pre++[k]) (ld++[t])=yQ pre ld+t*k.v
 | [],[],_=>by simp[yQ]
 |a::pre,s::ld,h=>by
  have:=qcu k t pre ld (by simpa using h)
  simp only[List.cons_append,yQ,this]
  omega
def qoo(k:Kw):Prop:=1<=k.w/\∀j,k.m=some j->0<=j
end L2.Sk.Law
namespace L2.Sk
namespace Law
open PySem PySem.Spec PyProof.Rows
set_option maxHeartbeats 4000000
def Zn(ks:List Kw)(s z:Int):Nat:=qqr 20 (λy=>if y=z then 1 else 0) ks s 0
structure qqs (ks:List Kw) (s:Int) (p:Int×Nat):Prop where
 at_:Zn ks s p.1=p.2
 pos:0<p.2
 no:∀z,p.1<z->Zn ks s z=0
def vg(ks:List Kw)(r:Int):List (List Int×Int):=ks.foldl (λf k=>qct k f) [([],r)]
def qjW(T B:Nat):Nat:=T/ya9 T B
def qjX(T B:Nat):Nat:=B/ya9 T B
def frD(t b:Nat):D:=.tup [.int (t:Nat),.int (b:Nat)]
def qiY(T B:Nat):D:=frD (qjW T B) (qjX T B)
theorem qge (a:Nat) {b:Nat} (h:0<b):qeZ (.int (a:Nat)) (.int (b:Nat))=some (.int ((a%b:Nat):Int)):=by
 rw[v3 (by omega)]
 rfl
theorem vK (a:Nat) {b:Nat} (h:0<b) (h1:b<1606938044258990275541962092341162602522202993782792835301376):vA (.int (a:Nat)) (.int (b:Nat))=some (.int ((a/b:Nat):Int)):=by
 rw[vH (by omega) (by omega)]
 rfl
theorem qmo {n:Nat} (h:n<=18000000000000000000):ug (n:Int)=true:=by
 unfold ug
 rw[yal,decide_eq_true_eq,decide_eq_true_eq]
 constructor<;>omega
theorem qbE {a:Nat} (b:Nat) (h:a<=18000000000000000000):zE (.int (a:Nat)) (.int (b:Nat))=some (.int ((a*b:Nat):Int)):=by
 rw[qfl (qmo h)]
 rfl
theorem qcv (a:Nat) {b:Nat} (h:b<=18000000000000000000):zE (.int (a:Nat)) (.int (b:Nat))=some (.int ((a*b:Nat):Int)):=by
 rw[qjT (qmo h)]
 rfl
theorem qq7(a b:Nat):zf (.int (a:Nat)) (.int (b:Nat))=some (.int ((a+b:Nat):Int)):=rfl
theorem qiy(t b:Nat):ixD (frD t b) (.int 0)=some (.int (t:Nat)):=rfl
theorem qiz(t b:Nat):ixD (frD t b) (.int 1)=some (.int (b:Nat)):=rfl
theorem qaV{t u:M Bool}{Z:Env}(h1:t Z=.ok (false,Z))(h2:u Z=.ok (false,Z)):tor t u Z=.ok (false,Z):=by rw[qbL,h1];exact h2
theorem qeB{t u:M Bool}{Z:Env}(h1:t Z=.ok (true,Z)):tor t u Z=.ok (true,Z):=by rw[qbL,h1];rfl
theorem qop{t u:M Bool}{Z:Env}(h1:t Z=.ok (false,Z)):qeW t u Z=.ok (false,Z):=by rw[qeh,h1];rfl
theorem qmp{t u:M Bool}{Z:Env}{b:Bool}(h1:t Z=.ok (true,Z))(h2:u Z=.ok (b,Z)):qeW t u Z=.ok (b,Z):=by rw[qeh,h1];exact h2
theorem qc5{F:List D->R D}{f g h:M D}{Z:Env}{a b c d:D}(hf:f Z=.ok (a,Z))(hg:g Z=.ok (b,Z))(hh:h Z=.ok (c,Z))(e:F [a,b,c]=.ok d):qj F (qa f (qa g (qa h (ret [])))) Z=.ok (d,Z):=qom hf hg hh e
theorem qkU {F:List D->OD} {f g:M D} {Z:Env} {a b d:D} (hf:f Z=.ok (a,Z)) (hg:g Z=.ok (b,Z)) (e:F [a,b]=some d):qw F (qa f (qa g (ret []))) Z=.ok (d,Z):=by
 rw[qau,qdB hf hg]
 simp only[e]
theorem qdC (xs:List D) (j:Nat) (h:j<=xs.length):qbK xs none (some (j:Int))=xs.take j:=by
 unfold qbK
 rw[HT.sIx_none,HT.sIx_nat,ydc h]
 simp
theorem qdD (xs:List D) (j:Nat) (h:j<=xs.length):qbK xs (some (j:Int)) none=xs.drop j:=by
 unfold qbK
 rw[HT.sIx_none,HT.sIx_nat,ydc h]
 exact yeo (by simp)
theorem qiA {xs:List D} {a b:Option Int} {d:D} (h:d∈qbK xs a b):d∈xs:=by
 unfold qbK at h
 exact yeP (yeQ h)
theorem zW{i:Nat}{f:M D}{Z Z1:Env}{d:D}(h:f Z=.ok (d,Z1)):qN i f Z=.ok (.nx (Z1.set i (some d))):=by rw[vF,h]
theorem ye{f:M D}{Z Z1:Env}{d:D}(h:f Z=.ok (d,Z1)):zu f Z=.ok (.rt d Z1):=by rw[qaO,h]
end Law
end L2.Sk
namespace L2.Sk.Law
def qoq:List Kw->Int->List (List Int)
 | [],_=>[[]]
 |k::ks,r=>(yay (ofn k r+1)).flatMap λt:Nat=>(qoq ks (r-(t:Int)*k.w)).map λl=>(t:Int)::l
end L2.Sk.Law
namespace L2.Sk
namespace Law
open PySem PySem.Spec PyProof.Rows
set_option maxHeartbeats 4000000
def big:Nat:=1606938044258990275541962092341162602522202993782792835301376
def Mx:Nat:=18000000000000000000
abbrev Nk:=Nat×Nat×Option Nat
def nk(x:Nk):Kd:=((x.1:Int),(x.2.1:Int),x.2.2.map λm:Nat=>(m:Int))
def tK(x:Nk):D:=kD (nk x)
def nAt(ks:List Nk)(p:Nat):Nk:=ks.getD p (0,0,none)
def qpw(ks:List Nk):Nat:=ks.foldl (λp x=>p*x.1) 1
def qq8(ks:List Nk)(p:Nat):Int := -((nAt ks p).2.1:Int)*((qpw ks/(nAt ks p).1:Nat):Int)
def plN(ks:List Nk):List Nat:=(yay ks.length).filter λi=>decide (0<(nAt ks i).2.1)
def qrp(ks:List Nk):List Nat:=(Srt.ord ((plN ks).map (qq8 ks))).map λi=>(plN ks).getD i 0
def goN (x:Nk) (r:Nat):Bool:=match x.2.2 with
 |some m=>decide (m*x.1<=r)
 |none=>false
def mN(x:Nk):Nat:=x.2.2.getD 0
def shN(x:Nk)(r:Nat):Nat×Nat:=if goN x r then(mN x,1) else(qjW r x.1,qjX r x.1)
def bhN(x:Nk)(r:Nat):Nat:=if goN x r then r-mN x*x.1 else 0
def shS(ks:List Nk)(s:Nat×List (Nat×Nat))(p:Nat):Nat×List (Nat×Nat):=(bhN (nAt ks p) s.1,s.2.set p (shN (nAt ks p) s.1))
def fr(p:Nat×Nat):D:=frD p.1 p.2
def nO(n:Nat):OD:=some (.int (n:Nat))
theorem qfp {ks:List Nk} {p:Nat} (h:p<ks.length):ks[p]? = some (nAt ks p):=by
 unfold nAt
 simp[h]
theorem qbi{ks:List Nk}{p:Nat}(h:p<ks.length):nAt ks p∈ks:=yby (qfp h)
theorem qfq{ks:List Nk}{p:Nat}(h:p<ks.length):ixD (.tup (ks.map tK)) (.int (p:Nat))=some (tK (nAt ks p)):=qew (by rw[gM_,qfp h];rfl)
theorem tk0(x:Nk):ixD (tK x) (.int 0)=some (.int (x.1:Nat)):=rfl
theorem tk1(x:Nk):ixD (tK x) (.int 1)=some (.int (x.2.1:Nat)):=rfl
theorem tk2(x:Nk):ixD (tK x) (.int 2)=some (mD (x.2.2.map λm:Nat=>(m:Int))):=rfl
end Law
end L2.Sk
namespace L2.Srt
open PySem PySem.W PyProof.Rows
end L2.Srt
namespace L2.Sk
namespace Law
open PySem PySem.Spec PyProof.Rows
set_option maxHeartbeats 4000000
def qgS(t b:Nat)(x:Nk):Nat:=x.2.1*b-x.1*t
def bdN (t b:Nat):List Nk->Nat->Option Nat
 | [],T=>some T
 |x::ks,T=>if x.1*t<x.2.1*b then(match x.2.2 with
  |none=>none
  |some m=>bdN t b ks (T+qgS t b x*m))else bdN t b ks T
def spN (ks:List Nk):List Nat->Nat->Nat×Nat
 | [],_=>(0,1)
 |p::l,r=>if goN (nAt ks p) r then spN ks l (bhN (nAt ks p) r) else(qjW (nAt ks p).2.1 (nAt ks p).1,qjX (nAt ks p).2.1 (nAt ks p).1)
structure qrq (ks:List Nk) (l:List Nat) (r:Nat) (F:List (Nat×Nat)) (t b:Nat):Prop where
 b0:0<b
 g1:ya9 t b=1
 at':(t=0/\b=1)\/∃x∈l,(nAt ks x).2.1*b=(nAt ks x).1*t
 fin:∀p∈l,(nAt ks p).1*t<(nAt ks p).2.1*b->(nAt ks p).2.2.isSome=true
 sum:∃(B:Nat)(v:Nat->Nat),0<B/\(∀p∈l,((l.foldl (shS ks) (r,F)).2.getD p (0,1)).1*B=v p*((l.foldl (shS ks) (r,F)).2.getD p (0,1)).2)/\b*(l.map λp=>v p*(nAt ks p).2.1).sum=B*(r*t+(l.map λp=>qgS t b (nAt ks p)*mN (nAt ks p)).sum)
end Law
end L2.Sk
namespace L2.Sk
namespace Law
open PySem PySem.Spec PyProof.Rows
set_option maxHeartbeats 4000000
local macro_rules|`(%[$x|0])=>`(qa $x (ret []))|`(%[$x,$xs,*|0])=>`(qa $x %[$xs,*|0])
structure Shv (ks:List Nk) (l:List Nat) (r G B:Nat) (s:Nat->Nat×Nat) (v:Nat->Nat):Prop where
 b0:0<B
 val:∀p∈l,(s p).1*B=v p*(s p).2
 wt:(l.map λp=>(nAt ks p).1*v p).sum<=r*B
 mo:∀p∈l,∀m,(nAt ks p).2.2=some m->v p<=m*B
 fl:∀p∈l,(s p).1/(s p).2*B<=v p
 gn:(l.map λp=>v p*(nAt ks p).2.1).sum<=B*(l.map λp=>(s p).1/(s p).2*(nAt ks p).2.1).sum+(B-1)*G
def ofN (x:Nk) (r:Nat):Nat:=match x.2.2 with
 |none=>r/x.1
 |some m=>if m<r/x.1 then m else r/x.1
theorem qc6 {x:Nk} {r t:Nat} (h0:0<x.1):t<=ofN x r ↔ (t*x.1<=r/\∀m,x.2.2=some m->t<=m):=by
 unfold ofN
 cases e:x.2.2 with
 |none=>
  show t<=r/x.1 ↔ _
  rw[yeC h0]
  exact⟨λh=>⟨h,λm em=>by cases em⟩,λh=>h.1⟩
 | some m=>
  show t<=(if m<r/x.1 then m else r/x.1) ↔ _
  have:=yeC (x:=t) (y:=r) h0
  constructor
  ·intro h
   refine⟨this.mp ?_,λj em=>?_⟩
   ·split at h<;>omega
   ·cases em
    split at h<;>omega
  ·intro h
   have a:=this.mpr h.1
   have b:=h.2 m rfl
   split<;>omega
def top(i:Nat):Stmt:=PySem.Challenge.pw_sackloads_k32_cuts_looked_at.main.body.getD i (.Pass ⟨0,0,0,0⟩)
abbrev jR:Stmt:=top 60
abbrev vL:Stmt:=top 38
abbrev zF:Stmt:=top 28
abbrev jA:Stmt:=top 29
abbrev uJ:Stmt:=top 31
abbrev uK:Stmt:=top 13
abbrev uL:Stmt:=top 14
abbrev uM:Stmt:=top 30
abbrev jB:Stmt:=top 39
abbrev yS:Stmt:=top 22
abbrev yT:Stmt:=top 21
abbrev vM:Stmt:=top 37
abbrev uN:Stmt:=top 23
abbrev yb:Stmt:=top 24
abbrev uO:Stmt:=top 20
abbrev yc:Stmt:=top 40
abbrev yr:Stmt:=top 41
abbrev yU:Stmt:=top 34
abbrev jS:Stmt:=top 19
abbrev jU:Stmt:=top 18
abbrev vN:Stmt:=top 15
abbrev yV:Stmt:=top 16
abbrev jV:Stmt:=top 17
abbrev zH:Stmt:=top 36
abbrev v4:Stmt:=top 42
abbrev yW:Stmt:=top 66
abbrev yX:Stmt:=top 47
abbrev jW:Stmt:=top 65
abbrev yt:Stmt:=top 49
abbrev jC:Stmt:=top 61
abbrev yu:Stmt:=top 62
abbrev yv:Stmt:=top 48
abbrev yd:Stmt:=top 56
abbrev uP:Stmt:=top 57
abbrev jo:Stmt:=top 58
abbrev jp:Stmt:=top 59
abbrev zY:Stmt:=top 63
abbrev zy:Stmt:=top 64
abbrev uQ:Stmt:=top 53
abbrev zq:Stmt:=top 54
abbrev zS:Stmt:=top 55
abbrev zX:Stmt:=top 52
abbrev jD:Stmt:=top 50
abbrev jE:Stmt:=top 51
abbrev uR:Stmt:=top 45
abbrev yY:Stmt:=top 44
abbrev uS:Stmt:=top 46
abbrev qcL:Stmt:=top 67
structure Txt (K:yan) (mg:Str->Option Value):Prop where
 b_ValueError:mg "ValueError"=none
 b_abs:mg "abs"=none
 b_all:mg "all"=none
 b_bool:mg "bool"=none
 b_divmod:mg "divmod"=none
 b_enumerate:mg "enumerate"=none
 b_int:mg "int"=none
 b_isinstance:mg "isinstance"=none
 b_len:mg "len"=none
 b_list:mg "list"=none
 b_max:mg "max"=none
 b_min:mg "min"=none
 b_range:mg "range"=none
 b_repr:mg "repr"=none
 b_str:mg "str"=none
 b_tuple:mg "tuple"=none
 c_ASKED_AT_MOST:∃t,mg "ASKED_AT_MOST"=some (.int 200 t)
 c_BOTTOM:∃t,mg "BOTTOM"=some (.int 1 t)
 c_KINDS_AT_MOST:∃t,mg "KINDS_AT_MOST"=some (.int 12 t)
 c_MOST:∃t,mg "MOST"=some (.int 2 t)
 c_TOP:∃t,mg "TOP"=some (.int 0 t)
 c_WEIGHT:∃t,mg "WEIGHT"=some (.int 0 t)
 c_WORTH:∃t,mg "WORTH"=some (.int 1 t)
def RN:List Str:=["TooMany","NoNumber","NoStore"]
def TN:List Str:=["SackError","NoText","NotSingle","TooMany","NoLoad","NoNumber","NoStore"]
noncomputable def uo:MS :=
  (qE (sif (tor (js (tst (qgN RN "SackError" (dv 0)))) (js (tst (qgN RN "ValueError" (dv 0))))) (zu (ret (.str "other"))) z9)
  (qE (qN 1 (jI %[qgN RN "NoStore" (dv 0),qgN RN "NoNumber" (dv 0),qgN RN "NoLoad" (dv 0),qgN RN "TooMany" (dv 0)|0]))
  (qE (qN 1 (d2 zf (dv 1) (jI %[qgN RN "NotSingle" (dv 0),qgN RN "NoText" (dv 0)|0])))
  (qE (sif (tst (d2 neS (qdr qeo (dv 1) %[ret (.bl true)|0]) (ret (.int 1)))) (zu (ret (.str "other"))) z9)
  (zu (d2 ixD (jI %[ret (.str "store"),ret (.str "number"),ret (.str "load"),ret (.str "many"),ret (.str "single"),ret (.str "text")|0]) (qdr qep (dv 1) %[ret (.bl true)|0])))))))
noncomputable def jX:List D->R D:=dfn 2 1 uo
noncomputable def qcw:MS :=
  (zu (d2 ltD (d2 ixD (dv 0) (ret (.int 0))) (d2 zE (dv 1) (d2 ixD (dv 0) (ret (.int 1))))))
noncomputable def wT:List D->R D:=dfn 2 2 qcw
noncomputable def yJ:MS :=
  (qE (qcj (tst (d2 gtD (dv 1) (ret (.int 0)))) (qE (qN 2 (d2 qeZ (dv 0) (dv 1)))
  (qE (qN 0 (dv 1))
  (qN 1 (dv 2)))))
  (zu (dv 0)))
noncomputable def zZ:List D->R D:=dfn 3 2 yJ
noncomputable def vq:MS :=
  (qE (qN 2 (qj zZ %[dv 0,dv 1|0]))
  (zu (qF %[d2 vA (dv 0) (dv 2),d2 vA (dv 1) (dv 2)|0])))
noncomputable def ub:List D->R D:=dfn 3 2 vq
noncomputable def qab:MS :=
  (qE (qN 3 (d2 zE (dv 1) (d2 ixD (dv 2) (ret (.int 0)))))
  (qE (qak (wD (dv 0)) (qt 4) (qE (qN 5 (d2 yO (d2 zE (d2 ixD (dv 4) (ret (.int 1))) (d2 ixD (dv 2) (ret (.int 1)))) (d2 zE (d2 ixD (dv 4) (ret (.int 0))) (d2 ixD (dv 2) (ret (.int 0))))))
  (qE (sif (qeW (tst (d2 gtD (dv 5) (ret (.int 0)))) (tst (d2 isN (d2 ixD (dv 4) (ret (.int 2))) (ret .non)))) (zu (ret .non)) z9)
  (sif (tst (d2 gtD (dv 5) (ret (.int 0)))) (qN 3 (d2 zf (dv 3) (d2 zE (dv 5) (d2 ixD (dv 4) (ret (.int 2)))))) z9))))
  (zu (qj ub %[dv 3,d2 ixD (dv 2) (ret (.int 1))|0]))))
noncomputable def vO:List D->R D:=dfn 6 3 qab
noncomputable def qbj:MS :=
  (zu (qd6 (qaC "int" (dv 0)) (qnw (qaC "bool" (dv 0)))))
noncomputable def vP:List D->R D:=dfn 1 1 qbj
noncomputable def qbk:MS :=
  (zu (qd6 (qj vP %[dv 0|0]) (d2 geD (dv 0) (ret (.int 0)))))
noncomputable def zG:List D->R D:=dfn 1 1 qbk
noncomputable def qbl:MS :=
  (qE (sif (tor (js (tst (qaC "tuple" (dv 0)))) (tst (d2 neB (qw yh %[dv 0|0]) (ret (.int 2))))) (zu (ret (.bl false))) z9)
  (qE (sif (tor (js (tst (qj zG %[d2 ixD (dv 0) (ret (.int 0))|0]))) (tor (js (tst (qj zG %[d2 ixD (dv 0) (ret (.int 1))|0]))) (tst (d2 eqB (d2 ixD (dv 0) (ret (.int 1))) (ret (.int 0)))))) (zu (ret (.bl false))) z9)
  (zu (d2 eqB (qj zZ %[d2 ixD (dv 0) (ret (.int 0)),d2 ixD (dv 0) (ret (.int 1))|0]) (ret (.int 1))))))
noncomputable def vQ:List D->R D:=dfn 1 1 qbl
noncomputable def jG:MS :=
  (qE (sif (tor (tst (d2 neB (qw yh %[dv 0|0]) (ret (.int 2)))) (tor (tst (d2 neB (d2 ixD (dv 0) (ret (.int 0))) (ret (.str "price")))) (js (tst (qj vQ %[d2 ixD (dv 0) (ret (.int 1))|0]))))) (zu (ret (.bl false))) z9)
  (qE (qN 4 (qj vO %[dv 1,dv 2,d2 ixD (dv 0) (ret (.int 1))|0]))
  (zu (qd6 (d2 qeO (dv 4) (ret .non)) (qj wT %[dv 4,dv 3|0])))))
noncomputable def zT:List D->R D:=dfn 5 4 jG
noncomputable def qax:MS :=
  (zu (d2 zf (d2 zf (wS (dv 0) (ret none) (jN (dv 1))) (qF %[dv 2|0])) (wS (dv 0) (jN (d2 zf (dv 1) (ret (.int 1)))) (ret none))))
noncomputable def v5:List D->R D:=dfn 3 3 qax
noncomputable def qay:MS :=
  (zu (qF %[d2 ixD (dv 0) (ret (.int 0)),d2 ixD (dv 0) (ret (.int 1)),dv 1|0]))
noncomputable def v6:List D->R D:=dfn 2 2 qay
noncomputable def qcx:MS :=
  (zu (qj v5 %[dv 0,dv 1,qj v6 %[d2 ixD (dv 0) (dv 1),ret (.int 0)|0]|0]))
noncomputable def vR:List D->R D:=dfn 2 2 qcx
noncomputable def qbm:MS :=
  (zu (dor (d2 isN (d2 ixD (dv 0) (ret (.int 2))) (ret .non)) (d2 gtD (d2 ixD (dv 0) (ret (.int 2))) (ret (.int 0)))))
noncomputable def uT:List D->R D:=dfn 1 1 qbm
noncomputable def uF:MS :=
  (qE (qN 2 (d2 vA (dv 1) (d2 ixD (dv 0) (ret (.int 0)))))
  (zu (dif (tst (d2 isN (d2 ixD (dv 0) (ret (.int 2))) (ret .non))) (dv 2) (qw qaf %[dv 2,d2 ixD (dv 0) (ret (.int 2))|0]))))
noncomputable def z5:List D->R D:=dfn 3 2 uF
noncomputable def qbn:MS :=
  (zu (qd6 (qj zG %[dv 0|0]) (d2 ltD (dv 0) (qw yh %[dv 1|0]))))
noncomputable def yZ:List D->R D:=dfn 2 2 qbn
noncomputable def yK (R_cuts_off:List D->R D):MS :=
  (qE (sif (tor (tst (d2 neB (qw yh %[dv 0|0]) (ret (.int 3)))) (tor (tst (d2 neB (d2 ixD (dv 0) (ret (.int 0))) (ret (.str "kind")))) (tor (js (tst (qj yZ %[d2 ixD (dv 0) (ret (.int 1)),dv 1|0]))) (js (tst (qaC "tuple" (d2 ixD (dv 0) (ret (.int 2))))))))) (zu (ret (.bl false))) z9)
  (qE (qN 4 (d2 ixD (dv 1) (d2 ixD (dv 0) (ret (.int 1)))))
  (qE (sif (tor (js (tst (qj uT %[dv 4|0]))) (tst (d2 neB (qw yh %[d2 ixD (dv 0) (ret (.int 2))|0]) (d2 zf (qj z5 %[dv 4,dv 2|0]) (ret (.int 1)))))) (zu (ret (.bl false))) z9)
  (qE (qN 5 (qj vR %[dv 1,d2 ixD (dv 0) (ret (.int 1))|0]))
  (qE (qak (qej %[d2 ixD (dv 0) (ret (.int 2))|0]) (qa3 2 (zm (qt 6) (zm (qt 7) qa2))) (sif (js (tst (qj R_cuts_off %[dv 7,dv 5,d2 yO (dv 2) (d2 zE (dv 6) (d2 ixD (dv 4) (ret (.int 0)))),d2 yO (dv 3) (d2 zE (dv 6) (d2 ixD (dv 4) (ret (.int 1))))|0]))) (zu (ret (.bl false))) z9))
  (zu (ret (.bl true))))))))
noncomputable def zQ(R_cuts_off:List D->R D):List D->R D:=dfn 8 4 (yK R_cuts_off)
noncomputable def yw (R_cuts_off:List D->R D):MS :=
  (qE (sif (js (tst (qaC "tuple" (dv 0)))) (zu (ret (.bl false))) z9)
  (zu (dor (qj zT %[dv 0,dv 1,dv 2,dv 3|0]) (qj (zQ R_cuts_off) %[dv 0,dv 1,dv 2,dv 3|0]))))
noncomputable def jb:Nat->List D->R D
 |0=>λ_ => .bad
 |n+1=>dfn 4 4 (yw (jb n))
noncomputable def qbo:List D->R D:=jb 4
noncomputable def vS:MS :=
  (sif (tst (d2 gtD (dv 0) (ret (.int 200)))) (qck "TooMany" %[ret (.str "a room or a worth greater than 200 is asked for")|0]) z9)
noncomputable def uU:List D->R D:=qcJ 1 1 vS
noncomputable def uq:MS :=
  (sif (js (tst (qj vP %[dv 0|0]))) (qck "NoNumber" %[ret (.str "this is no whole number")|0]) z9)
noncomputable def yx:List D->R D:=qcJ 1 1 uq
noncomputable def ur:MS :=
  (sif (js (tst (qj zG %[dv 0|0]))) (qck "NoNumber" %[ret (.str "this is no whole number from 0 on")|0]) z9)
noncomputable def yy:List D->R D:=qcJ 1 1 ur
noncomputable def qcy:MS :=
  (qE (sif (tor (js (tst (qaC "tuple" (dv 0)))) (tst (d2 neB (qw yh %[dv 0|0]) (ret (.int 3))))) (zu (ret (.bl false))) z9)
  (qE (sif (tor (js (tst (qj zG %[d2 ixD (dv 0) (ret (.int 0))|0]))) (tst (d2 eqB (d2 ixD (dv 0) (ret (.int 0))) (ret (.int 0))))) (zu (ret (.bl false))) z9)
  (zu (qd6 (qj zG %[d2 ixD (dv 0) (ret (.int 1))|0]) (dor (d2 isN (d2 ixD (dv 0) (ret (.int 2))) (ret .non)) (qj zG %[d2 ixD (dv 0) (ret (.int 2))|0]))))))
noncomputable def wU:List D->R D:=dfn 1 1 qcy
noncomputable def qbp:MS :=
  (qE (sif (tor (js (tst (qaC "tuple" (dv 0)))) (tst (d2 gtD (qw yh %[dv 0|0]) (ret (.int 12))))) (zu (ret (.bl false))) z9)
  (zu (qw qmK %[jJ 1 [] none (wD (dv 0)) (qt 0) (ret true) (qj wU %[dv 0|0])|0])))
noncomputable def qac:List D->R D:=dfn 1 1 qbp
noncomputable def vh:MS :=
  (sif (js (tst (qj qac %[dv 0|0]))) (qck "NoStore" %[ret (.str "this is no store")|0]) z9)
noncomputable def vi:List D->R D:=qcJ 1 1 vh
noncomputable def zJ:MS :=
  (qE (vW (wP RN vi %[dv 0|0]))
  (qE (vW (wP RN yy %[dv 1|0]))
  (qE (vW (wP RN yx %[dv 2|0]))
  (vW (wP RN uU %[dv 1|0])))))
noncomputable def qR:List D->R D:=qcJ 3 3 zJ
noncomputable def qaW:MS :=
  (qE (vW (wP RN qR %[dv 1,dv 2,dv 3|0]))
  (zu (qj qbo %[dv 0,dv 1,dv 2,dv 3|0])))
noncomputable def ji:List D->R D:=qcJ 4 4 qaW
noncomputable def qaz:MS :=
  (qE (qiX RN (vW (wP RN ji %[ret .non,dv 0,dv 1,dv 2|0])) jX)
  (zu (ret (.str "told"))))
noncomputable def qZ:List D->R D:=dfn 4 3 qaz
noncomputable def v7:MS :=
  (qE (qiV (qw qb9 %[qjq 0 (ret (.int 0)),dv 1|0]) (qa3 2 (zm (qt 2) (zm (qt 3) qa2))))
  (qE (qjo 0 (ret (.int 0)) (dv 2))
  (zu (dv 3))))
noncomputable def qi:List D->List D->R (D×List D):=u9 4 2 v7
noncomputable def jY (R__law_bent:List D->List D->R (D×List D)):MS :=
  (qE (sif (tst (d2 eqB (d2 ixD (dv 1) (ret (.int 0))) (ret (.str "price")))) (qE (qiV (d2 ixD (dv 1) (ret (.int 1))) (qa3 2 (zm (qt 3) (zm (qt 4) qa2))))
  (qE (qN 5 (jI %[qF %[ret (.str "price"),qF %[d2 zf (dv 3) (ret (.int 1)),dv 4|0]|0],qF %[ret (.str "price"),qF %[ret (.int 0),ret (.int 1)|0]|0],qF %[ret (.str "price"),qF %[d2 zE (ret (.int 2)) (dv 3),d2 zE (ret (.int 2)) (dv 4)|0]|0],qF %[ret (.str "price")|0],dv 2|0]))
  (qE (qN 5 (d2 zf (dv 5) (jI %[qF %[ret (.str "price"),qF %[dv 3,dv 4|0],qF (ret [])|0],jI %[ret (.str "price"),d2 ixD (dv 1) (ret (.int 1))|0],qF %[ret (.str "cost"),d2 ixD (dv 1) (ret (.int 1))|0],qF %[ret (.str "price"),dv 3|0]|0])))
  (zu (d2 ixD (dv 5) (ql qi 0 %[ret (.int 9)|0])))))) z9)
  (qE (qiV (dv 1) (qa3 3 (zm (qt 6) (zm (qt 7) (zm (qt 8) qa2)))))
  (qE (qN 9 (ql qi 0 %[qw yh %[dv 8|0]|0]))
  (qE (qN 5 (d2 zE (jI %[qF %[dv 6,dv 7,d2 zf (d2 zf (wS (dv 8) (ret none) (jN (dv 9))) (qF %[ql R__law_bent 0 %[d2 ixD (dv 8) (dv 9),dv 2|0]|0])) (wS (dv 8) (jN (d2 zf (dv 9) (ret (.int 1)))) (ret none))|0]|0]) (ret (.int 4))))
  (qE (qN 5 (d2 zf (dv 5) (jI %[qF %[dv 6,dv 7,wS (dv 8) (ret none) (jN (d1 qbA (ret (.int 1))))|0],qF %[dv 6,dv 7,d2 zf (dv 8) (wS (dv 8) (jN (d1 qbA (ret (.int 1)))) (ret none))|0],qF %[dv 6,dv 7,qet (dv 8)|0]|0])))
  (qE (qN 5 (d2 zf (dv 5) (jI %[qF %[dv 6,d2 zf (dv 7) (ret (.int 1)),dv 8|0],qF %[dv 6,d2 eqB (dv 7) (ret (.int 1)),dv 8|0],qF %[ret (.str "kinds"),dv 7,dv 8|0],qF %[dv 6,dv 7,qw qbJ %[dv 8|0]|0]|0])))
  (zu (d2 ixD (d2 zf (dv 5) (jI %[qF %[dv 6,dv 8|0],qw qbJ %[dv 1|0],qF %[dv 6,d2 yO (dv 7) (ret (.int 1)),dv 8|0],qF %[ret (.str "price"),qF %[ret (.int 9),ret (.int 1)|0]|0]|0])) (ql qi 0 %[ret (.int 15)|0])))))))))
noncomputable def jZ:Nat->List D->List D->R (D×List D)
 |0=>λ_ _ => .bad
 |n+1=>u9 10 3 (jY (jZ n))
noncomputable def zh:List D->List D->R (D×List D):=jZ 4
noncomputable def wV:MS :=
  (zu (qd6 (qaC "bool" (dv 0)) (d2 eqB (dv 0) (dv 1))))
noncomputable def zr:List D->R D:=dfn 2 2 wV
noncomputable def vt:MS :=
  (zu (d2 zf (d2 zf (wS (dv 0) (ret none) (jN (dv 1))) (qF %[qF %[d2 ixD (d2 ixD (dv 0) (dv 1)) (ret (.int 0)),d2 ixD (d2 ixD (dv 0) (dv 1)) (ret (.int 1)),ret (.int 0)|0]|0])) (wS (dv 0) (jN (d2 zf (dv 1) (ret (.int 1)))) (ret none))))
noncomputable def zB:List D->R D:=dfn 2 2 vt
noncomputable def wW:MS :=
  (qE (qN 2 (d2 vA (dv 1) (d2 ixD (dv 0) (ret (.int 0)))))
  (qE (sif (tst (d2 isN (d2 ixD (dv 0) (ret (.int 2))) (ret .non))) (zu (dv 2)) z9)
  (zu (qw qaf %[dv 2,d2 ixD (dv 0) (ret (.int 2))|0]))))
noncomputable def z6:List D->R D:=dfn 3 2 wW
noncomputable def wX:MS :=
  (zu (qd6 (qaC "int" (dv 0)) (qnw (qaC "bool" (dv 0)))))
noncomputable def zo:List D->R D:=dfn 1 1 wX
noncomputable def v8:MS :=
  (qE (qcj (tst (d2 neB (dv 1) (ret (.int 0)))) (qiW 0 1 %[dv 1,d2 qeZ (dv 0) (dv 1)|0]))
  (zu (dv 0)))
noncomputable def yL:List D->R D:=dfn 2 2 v8
noncomputable def qbq:MS :=
  (qE (qN 2 (qj yL %[dv 0,dv 1|0]))
  (zu (qF %[d2 vA (dv 0) (dv 2),d2 vA (dv 1) (dv 2)|0])))
noncomputable def yz:List D->R D:=dfn 3 2 qbq
noncomputable def yM:MS :=
  (qE (qN 3 (d2 zE (dv 1) (d2 ixD (dv 2) (ret (.int 0)))))
  (qE (qak (wD (dv 0)) (qa3 3 (zm (qt 4) (zm (qt 5) (zm (qt 6) qa2)))) (qE (qN 7 (d2 yO (d2 zE (dv 5) (d2 ixD (dv 2) (ret (.int 1)))) (d2 zE (dv 4) (d2 ixD (dv 2) (ret (.int 0))))))
  (sif (tst (d2 gtD (dv 7) (ret (.int 0)))) (qE (sif (tst (d2 isN (dv 6) (ret .non))) (zu (ret .non)) z9)
  (qN 3 (d2 zf (dv 3) (d2 zE (dv 7) (dv 6))))) z9)))
  (zu (qj yz %[dv 3,d2 ixD (dv 2) (ret (.int 1))|0]))))
noncomputable def j4:List D->R D:=dfn 8 3 yM
noncomputable def j6:MS :=
  (qE (sif (tor (js (tst (qaC "tuple" (dv 0)))) (tor (tst (d2 neB (qw yh %[dv 0|0]) (ret (.int 2)))) (tor (js (tst (qj zo %[d2 ixD (dv 0) (ret (.int 0))|0]))) (js (tst (qj zo %[d2 ixD (dv 0) (ret (.int 1))|0])))))) (zu (ret (.bl false))) z9)
  (zu (qd6 (d2 geD (d2 ixD (dv 0) (ret (.int 0))) (ret (.int 0))) (qd6 (d2 geD (d2 ixD (dv 0) (ret (.int 1))) (ret (.int 1))) (d2 eqB (qj yL %[d2 ixD (dv 0) (ret (.int 0)),d2 ixD (dv 0) (ret (.int 1))|0]) (ret (.int 1)))))))
noncomputable def j7:List D->R D:=dfn 1 1 j6
noncomputable def qV (R__law_is_cut:List D->R D):MS :=
  (qE (sif (tor (js (tst (qaC "tuple" (dv 0)))) (tor (tst (d2 qkJ (qw yh %[dv 0|0]) (qF %[ret (.int 2),ret (.int 3)|0]))) (js (tst (qaC "str" (d2 ixD (dv 0) (ret (.int 0)))))))) (zu (ret (.bl false))) z9)
  (qE (sif (tst (d2 eqB (qw yh %[dv 0|0]) (ret (.int 2)))) (qE (sif (tor (tst (d2 neB (d2 ixD (dv 0) (ret (.int 0))) (ret (.str "price")))) (js (tst (qj j7 %[d2 ixD (dv 0) (ret (.int 1))|0])))) (zu (ret (.bl false))) z9)
  (qE (qN 4 (qj j4 %[dv 1,dv 2,d2 ixD (dv 0) (ret (.int 1))|0]))
  (zu (qd6 (d2 qeO (dv 4) (ret .non)) (d2 ltD (d2 ixD (dv 4) (ret (.int 0))) (d2 zE (dv 3) (d2 ixD (dv 4) (ret (.int 1))))))))) z9)
  (qE (qiV (dv 0) (qa3 3 (zm (qt 5) (zm (qt 6) (zm (qt 7) qa2)))))
  (qE (sif (tor (tst (d2 neB (dv 5) (ret (.str "kind")))) (tor (js (tst (qj zo %[dv 6|0]))) (tor (js (tst (wA leD ltD (ret (.int 0)) (dv 6) (qw yh %[dv 1|0])))) (tst (d2 eqB (d2 ixD (d2 ixD (dv 1) (dv 6)) (ret (.int 2))) (ret (.int 0))))))) (zu (ret (.bl false))) z9)
  (qE (qN 8 (d2 ixD (dv 1) (dv 6)))
  (qE (sif (tor (js (tst (qaC "tuple" (dv 7)))) (tst (d2 neB (qw yh %[dv 7|0]) (d2 zf (qj z6 %[dv 8,dv 2|0]) (ret (.int 1)))))) (zu (ret (.bl false))) z9)
  (qE (qN 9 (qj zB %[dv 1,dv 6|0]))
  (qE (qak (jO %[qw yh %[dv 7|0]|0]) (qt 10) (sif (js (tst (qj R__law_is_cut %[d2 ixD (dv 7) (dv 10),dv 9,d2 yO (dv 2) (d2 zE (dv 10) (d2 ixD (dv 8) (ret (.int 0)))),d2 yO (dv 3) (d2 zE (dv 10) (d2 ixD (dv 8) (ret (.int 1))))|0]))) (zu (ret (.bl false))) z9))
  (zu (ret (.bl true)))))))))))
noncomputable def zC:Nat->List D->R D
 |0=>λ_ => .bad
 |n+1=>dfn 11 4 (qV (zC n))
noncomputable def qQ:List D->R D:=zC 4
noncomputable def j8 (R__law_made:List D->List D->R (D×List D)):MS :=
  (qE (qN 4 (d2 zf (jI %[qF %[ret (.int 0),ret (.int 1)|0]|0]) (jJ 1 [] none (wD (dv 1)) (qt 0) (tst (d2 neB (d2 ixD (dv 0) (ret (.int 2))) (ret (.int 0)))) (qj yz %[d2 ixD (dv 0) (ret (.int 1)),d2 ixD (dv 0) (ret (.int 0))|0]))))
  (qE (qN 5 (jJ 1 [1,2,3] none (wD (dv 4)) (qt 0) (tst (qj qQ %[qF %[ret (.str "price"),dv 0|0],dv 1,dv 2,dv 3|0])) (dv 0)))
  (qE (qN 6 (jJ 1 [1] none (jO %[qw yh %[dv 1|0]|0]) (qt 0) (tst (d2 neB (d2 ixD (d2 ixD (dv 1) (dv 0)) (ret (.int 2))) (ret (.int 0)))) (dv 0)))
  (qE (sif (qeW (tst (d2 neB (dv 5) (jI (ret [])))) (tor (tst (d2 eqB (dv 6) (jI (ret [])))) (tst (d2 eqB (ql qi 0 %[ret (.int 2)|0]) (ret (.int 0)))))) (zu (qF %[ret (.str "price"),d2 ixD (dv 5) (ql qi 0 %[qw yh %[dv 5|0]|0])|0])) z9)
  (qE (sif (tst (d2 eqB (dv 6) (jI (ret [])))) (zu (qF %[ret (.str "price"),qF %[ret (.int 0),ret (.int 1)|0]|0])) z9)
  (qE (qN 7 (d2 ixD (dv 6) (ql qi 0 %[qw yh %[dv 6|0]|0])))
  (qE (qN 8 (d2 ixD (dv 1) (dv 7)))
  (qE (qN 9 (qj zB %[dv 1,dv 7|0]))
  (qE (qcd 10 (qmL (ret [])))
  (qE (qak (jO %[d2 zf (qj z6 %[dv 8,dv 2|0]) (ret (.int 1))|0]) (qt 11) (vW (uY 10 (ql R__law_made 0 %[dv 9,d2 yO (dv 2) (d2 zE (dv 11) (d2 ixD (dv 8) (ret (.int 0)))),d2 yO (dv 3) (d2 zE (dv 11) (d2 ixD (dv 8) (ret (.int 1))))|0]))))
  (zu (qF %[ret (.str "kind"),dv 7,qgA 10|0]))))))))))))
noncomputable def yA:Nat->List D->List D->R (D×List D)
 |0=>λ_ _ => .bad
 |n+1=>u9 12 4 (j8 (yA n))
noncomputable def j9:List D->List D->R (D×List D):=yA 4
noncomputable def qbr:MS :=
  (qE (qN 3 (ret (.int 0)))
  (qE (qak (jO %[qw yh %[dv 0|0]|0]) (qt 4) (qN 3 (d2 zf (dv 3) (d2 zE (d2 ixD (d2 ixD (dv 0) (dv 4)) (dv 2)) (d2 ixD (dv 1) (dv 4))))))
  (zu (dv 3))))
noncomputable def vT:List D->R D:=dfn 5 3 qbr
noncomputable def ux:MS :=
  (qE (qN 2 (jI %[qF %[qF (ret []),dv 1|0]|0]))
  (qE (qak (wD (dv 0)) (qa3 3 (zm (qt 3) (zm (qt 4) (zm (qt 5) qa2)))) (qE (qN 6 (jI (ret [])))
  (qE (qak (wD (dv 2)) (qa3 2 (zm (qt 7) (zm (qt 8) qa2))) (qE (qN 9 (d2 vA (dv 8) (dv 3)))
  (qE (sif (tst (d2 qeO (dv 5) (ret .non))) (qN 9 (qw qaf %[dv 9,dv 5|0])) z9)
  (qN 6 (d2 zf (dv 6) (jJ 1 [7,8,3] none (jO %[d2 zf (dv 9) (ret (.int 1))|0]) (qt 0) (ret true) (qF %[d2 zf (dv 1) (qF %[dv 0|0]),d2 yO (dv 2) (d2 zE (dv 0) (dv 3))|0])))))))
  (qN 2 (dv 6)))))
  (zu (jJ 2 [] none (wD (dv 2)) (qa3 2 (zm (qt 0) (zm (qt 1) qa2))) (ret true) (dv 0)))))
noncomputable def yj:List D->R D:=dfn 10 2 ux
noncomputable def vv:MS :=
  (qE (qN 2 (qj yj %[dv 0,dv 1|0]))
  (qE (qN 3 (jJ 1 [0] none (wD (dv 2)) (qt 0) (ret true) (qj vT %[dv 1,dv 0,ret (.int 1)|0])))
  (zu (qF %[qw qcI %[dv 3|0],d2 ixD (dv 2) (qdr qc0 (dv 3) %[qw qcI %[dv 3|0]|0]),qdr qcZ (dv 3) %[qw qcI %[dv 3|0]|0]|0]))))
noncomputable def jc:List D->R D:=dfn 4 2 vv
noncomputable def ym:MS :=
  (qE (qN 1 (jI %[ret .non,ret (.bl true),ret (.bl false),d1 qbA (ret (.int 1)),ret (.str ""),ret (.str "1"),qF %[ret (.int 0)|0],jI %[ret (.int 1)|0],ret (.dic [(.inr "a",1)]),qF %[d1 qbA (ret (.int 1))|0],qF %[ret (.bl true)|0],qF %[qF %[ret (.int 1),ret (.int 2)|0]|0],qF %[ret .non|0],d2 qoJ (ret (.int 10)) (ret (.int 29))|0]))
  (qE (qN 1 (d2 zf (dv 1) (jI %[qF %[ret (.int 1),ret (.int 2),ret (.int 3)|0],qF %[qF %[ret (.int 0),ret (.int 1),ret (.int 1)|0]|0],qF %[qF %[ret (.int 1),d1 qbA (ret (.int 1)),ret (.int 1)|0]|0],qF %[qF %[ret (.int 1),ret (.int 1),d1 qbA (ret (.int 1))|0]|0],jI %[qF %[ret (.int 1),ret (.int 1),ret (.int 1)|0]|0],ret (.dic [(.inl 0,1)]),ret (.str "1/1*1"),qF %[qF %[ret (.int 1),ret (.int 1),ret (.bl true)|0]|0]|0])))
  (zu (d2 ixD (dv 1) (ql qi 0 %[ret (.int 22)|0])))))
noncomputable def zK:List D->List D->R (D×List D):=u9 2 1 ym
noncomputable def uc:MS :=
  (qE (qN 2 (ql qi 0 %[ret (.int 6)|0]))
  (qE (qiW 3 4 %[d2 zf (ret (.int 1)) (ql qi 0 %[ret (.int 7)|0]),ql qi 0 %[ret (.int 10)|0]|0])
  (qE (sif (tst (d2 eqB (dv 2) (ret (.int 1)))) (qN 4 (d2 zE (ret (.int 2)) (dv 3))) z9)
  (qE (sif (tst (d2 eqB (dv 2) (ret (.int 2)))) (qN 4 (d2 zf (dv 3) (ql qi 0 %[ret (.int 3)|0]))) z9)
  (qE (sif (tst (d2 eqB (dv 2) (ret (.int 3)))) (qiW 3 4 %[d2 zf (ret (.int 1)) (ql qi 0 %[ret (.int 25)|0]),ql qi 0 %[ret (.int 40)|0]|0]) z9)
  (qE (qN 5 (d2 ixD (jI %[ret (.int 1),ret (.int 1),ret (.int 1),ret (.int 2),ret (.int 3),ret (.int 0),ret (.int 5),dv 1|0]) (ql qi 0 %[ret (.int 8)|0])))
  (zu (qF %[dv 3,dv 4,dv 5|0]))))))))
noncomputable def jd:List D->List D->R (D×List D):=u9 6 2 uc
noncomputable def ud:MS :=
  (qE (qcd 3 (qmL (ret [])))
  (qE (qak (jO %[ql qi 0 %[d2 zf (dv 1) (ret (.int 1))|0]|0]) (qt 4) (qE (qN 5 (ql jd 0 %[dv 2|0]))
  (qE (sif (qeW (tst (qkt 3 (jI (ret [])))) (tst (d2 eqB (ql qi 0 %[ret (.int 7)|0]) (ret (.int 6))))) (qN 5 (qjq 3 (ql qi 0 %[qed 3|0]))) z9)
  (vW (uY 3 (dv 5))))))
  (zu (qgA 3))))
noncomputable def je:List D->List D->R (D×List D):=u9 6 3 ud
noncomputable def qbs:MS :=
  (qE (qN 2 (jI %[ret (.int 48271),ret (.int 69621),ret (.int 16807),ret (.int 39373),ret (.int 30269),ret (.int 40014),ret (.int 40692),ret (.int 50021),ret (.int 61687),ret (.int 71993),ret (.int 83869),ret (.int 95561),ret (.int 30307)|0]))
  (qE (qN 3 (d2 zf (d2 zf (d2 zE (d2 zf (d2 qeZ (dv 0) (ret (.int 2147483647))) (ret (.int 12345))) (d2 ixD (dv 2) (d2 qeZ (dv 1) (ret (.int 13))))) (d2 zE (ret (.int 977)) (dv 1))) (d2 zE (ret (.int 7919)) (d2 vA (dv 1) (ret (.int 13))))))
  (qE (qN 3 (d2 qeZ (dv 3) (ret (.int 1000000007))))
  (zu (d2 vA (d2 qeZ (d2 zf (d2 zE (dv 3) (dv 3)) (d2 zE (ret (.int 48271)) (dv 1))) (ret (.int 1000000007))) (ret (.int 7)))))))
noncomputable def uV:List D->R D:=dfn 4 2 qbs
noncomputable def v9:MS :=
  (qE (sif (tst (d2 ltD (dv 1) (qw yh %[dv 0|0]))) (zu (d2 ixD (dv 0) (dv 1))) z9)
  (zu (ret (.int 0))))
noncomputable def y0:List D->R D:=dfn 2 2 v9
noncomputable def qad:MS :=
  (qE (qN 2 (qj y0 %[dv 0,dv 1|0]))
  (qE (sif (tst (d2 eqB (d2 qeZ (dv 2) (ret (.int 2))) (ret (.int 0)))) (zu (jI %[d2 vA (qw qoH %[dv 2|0]) (ret (.int 2))|0])) z9)
  (qE (qN 3 (ret (.int 0)))
  (qE (qak (jO %[ret (.int 40)|0]) (qt 4) (qN 3 (d2 zf (d2 zE (dv 3) (ret (.int 142857143))) (qj uV %[dv 2,dv 4|0]))))
  (zu (jI %[dv 3|0]))))))
noncomputable def yB:List D->R D:=dfn 5 2 qad
noncomputable def qmq:MS :=
  (qE (qak (jO %[qw qls %[ret (.int 1),qw qaf %[qw yh %[dv 0|0],ret (.int 3)|0]|0]|0]) (qt 1) (qE (qcd 2 (qeg yB %[dv 0,dv 1|0]))
  (qE (qN 3 (ql je 2 %[ret (.int 3),ret .non|0]))
  (qE (qN 4 (ql qi 2 %[ret (.int 10)|0]))
  (qE (qN 5 (ql zK 2 (ret [])))
  (qE (qN 6 (d2 ixD (qj jc %[dv 3,dv 4|0]) (ret (.int 0))))
  (qE (qak (wD (jI %[d2 zf (dv 6) (ret (.int 1)),d2 zf (d2 zf (dv 6) (ret (.int 1))) (ql qi 2 %[ret (.int 4)|0]),dv 6|0])) (qt 7) (qE (qN 8 (ql j9 2 %[dv 3,dv 4,dv 7|0]))
  (qak (wD (d2 zf (jI %[dv 8,qF %[ret (.str "price"),qF %[ret (.int 1),ret (.int 1)|0]|0],dv 5|0]) (jJ 1 [2,8,5] (some (1,2)) (jO %[ret (.int 3)|0]) (qt 0) (ret true) (ql zh 1 %[dv 2,dv 3|0])))) (qt 9) (qE (qN 10 (qw vn %[dv 9|0]))
  (qE (qN 11 (qj qQ %[dv 9,dv 3,dv 4,dv 7|0]))
  (sif (tor (js (tst (qj zr %[vd ji %[dv 9,dv 3,dv 4,dv 7|0],dv 11|0]))) (tst (d2 neB (qw vn %[dv 9|0]) (dv 10)))) (zu (ret (.bl false))) z9))))))
  (qE (sif (tor (tst (d2 neB (qj qZ %[dv 3,ret (.int 201),ret (.int 1)|0]) (ret (.str "many")))) (tst (d2 neB (qj qZ %[dv 3,d1 qbA (ret (.int 1)),ret (.int 1)|0]) (ret (.str "number"))))) (zu (ret (.bl false))) z9)
  (sif (tst (d2 neB (qj qZ %[dv 3,ret (.int 201),ret .non|0]) (ret (.str "number")))) (zu (ret (.bl false))) z9)))))))))
  (zu (ret (.bl true))))
noncomputable def qfr:List D->R D:=dfn 12 1 qmq
local macro_rules | `(tactic| push_cast [$xs,*]) => `(tactic| simp only [uv, vE, qnS, zg, wM, vc, qhT, qnT, qp8, qau, w9, qhU, qjw, qan, qhV, qeh, qbL, qfR, qjx, qkv, qhW, qgE, qaO, vF, qe4, qbb, qhX, qhY, qhZ, vG, qfS, qh0, qkx, wN, qh1, qky, qh2, qh3, qe5, qkz, qcg, qnU, qe6, lC_, lN_, mC_, List.map_nil, List.replicate, List.nil_append, List.cons_append, List.append_nil, List.getElem?_cons_zero, List.getElem?_cons_succ, List.set_cons_zero, List.set_cons_succ, Nat.reduceAdd, Nat.reduceSub, Nat.sub_self, Nat.zero_add, reduceIte, Bool.not_true, Bool.not_false, Bool.false_eq_true, if_true, if_false, ite_true, ite_false, cond_true, cond_false, decide_true, decide_false, ix0, ix1, ix2, yF, zP, qaw, v0, qbC, qfj, qbh, qdw, qdx, qkP, qkQ, qbS, qdt, qf2, qkH, qdu, qe8, $xs,*])
theorem wf (d:D):vP [d]=.ok (.bl (vo d)):=by
 unfold vP qbj
 refine yP rfl ⟨[some d],?_⟩
 push_cast []
 cases d<;>rfl
theorem zD (d:D):zG [d]=.ok (.bl (ja d)):=by
 unfold zG qbk
 refine yP rfl ⟨[some d],?_⟩
 push_cast []
 rw[wf]
 cases d<;>rfl
theorem qeC (d:D):wU [d]=.ok (.bl (qao d)):=by
 unfold wU qcy
 refine yP rfl ⟨[some d],?_⟩
 cases d with
 | tup ds=>
  by_cases h:ds.length=3
  ·obtain ⟨a,b,c,rfl⟩:=qq4 h
   refine(qk (Z':=[some (.tup [a,b,c])]) rfl).trans ?_
   by_cases hp:qiq a=true
   ·refine (qk (Z':=[some (.tup [a,b,c])]) ?_).trans ?_
    ·cases a with
     |int i=>
      have h2:0<i:=of_decide_eq_true hp
      have h0:0<=i:=by omega
      have h1:¬i=0:=by omega
      push_cast [ix0,zD,ja,v0,qan,h0,h1,decide_true,decide_false]
     |_=>exact absurd hp (by simp[qiq])
    ·push_cast [ix1,ix2,zD,qbC,qao,hp,qan,ybb]
     cases hb:ja b<;>cases hc:yp c<;>rfl
   ·refine (zd (d:=.bl false) (Z':=[some (.tup [a,b,c])]) ?_).trans ?_
    ·cases a with
     | int i=>
      have h2:¬0<i:=λz=>hp (decide_eq_true z)
      push_cast [ix0,zD,ja,v0,qan]
      by_cases h0:0<=i
      ·have h1:i=0:=by omega
       subst h1;rfl
      ·simp only[h0,decide_false]
       rfl
     |_=>rfl
    ·have hp':qiq a=false:=by simpa using hp
     simp only[qao,hp',ybV]
  ·refine (zd (d:=.bl false) (Z':=[some (.tup ds)]) ?_).trans ?_
   ·push_cast []
    have h3:¬((ds.length:Int)=3):=by omega
    simp only[yF,zP,qaw,h3,decide_false,qan]
    rfl
   ·rw[qgQ h]
 |_=>rfl
theorem qdE (d:D):qac [d]=.ok (.bl (vp d)):=by
 unfold qac qbp
 refine yP rfl ⟨[some d],?_⟩
 cases d with
 | tup ds=>
  by_cases h:ds.length<=12
  ·have h2:¬((12:Int)<(ds.length:Int)):=by omega
   refine(qk (Z':=[some (.tup ds)]) ?_).trans ?_
   ·push_cast [yF,zP,qbh,h2,decide_false,qan]
   ·rw[qaO,qmh (F:=wU) (f:=qao) (xs:=wD (dv 0)) (ds:=ds) (Z:=[some (.tup ds)]) rfl (λd _=>qeC d) (by omega)]
    simp only[vp,h,decide_true,ybb]
  ·have h2:((12:Int)<(ds.length:Int)):=by omega
   refine(zd (d:=.bl false) (Z':=[some (.tup ds)]) ?_).trans ?_
   ·push_cast [yF,zP,qbh,h2,decide_true,qan]
   ·simp only[vp,h,decide_false,ybV]
 |_=>rfl
theorem sm1:zx 1=true:=zA (by omega)
theorem uG (d:D) (h:vp d=true):vi [d]=.ok .non:=by
 unfold vi
 refine qer rfl ⟨[some d],?_⟩
 unfold vh
 push_cast [qdE,h]
theorem wj (d:D) (h:ja d=true):yy [d]=.ok .non:=by
 unfold yy
 refine qer rfl ⟨[some d],?_⟩
 unfold ur
 push_cast [zD,h]
theorem qeD (d:D) (h:ja d=false):yy [d]=.exc ⟨"NoNumber",.non⟩ [some d]:=by
 unfold yy
 refine qcm rfl ?_
 unfold ur
 push_cast [zD,h,sm1]
theorem qaX (d:D) (h:vo d=true):yx [d]=.ok .non:=by
 unfold yx
 refine qer rfl ⟨[some d],?_⟩
 unfold uq
 push_cast [wf,h]
theorem qeE (d:D) (h:vo d=false):yx [d]=.exc ⟨"NoNumber",.non⟩ [some d]:=by
 unfold yx
 refine qcm rfl ?_
 unfold uq
 push_cast [wf,h,sm1]
theorem qpx {p:MS} {F:List D->R D} {Z Z':Env} {d v:D} {n:Str} (h:p Z=.exc ⟨n,v⟩ Z') (hn:RN.contains n=true) (hF:F [.exc n]=.ok d):qiX RN p F Z=.ok (.rt d Z'):=by
 rw[qn3,h]
 simp only[hn,if_true,hF]
theorem u4 (d:D):zo [d]=.ok (.bl (vo d)):=by
 unfold zo wX
 refine yP rfl ⟨[some d],?_⟩
 push_cast []
 cases d<;>rfl
theorem qcz (a b:Bool):zr [.bl a,.bl b]=.ok (.bl (a==b)):=by
 unfold zr wV
 refine yP rfl ⟨[some (.bl a),some (.bl b)],?_⟩
 push_cast []
 cases a<;>cases b<;>rfl
theorem jq {n m:Int} (h0:0<m) (h1:m<1606938044258990275541962092341162602522202993782792835301376):qi [.int n] [.int m]=.ok (.int (n%m),[.int (n/m)]):=by
 unfold qi
 refine qaP (Z:=[some (.lst [.int (n/m)]),some (.int m),some (.int (n/m)),some (.int (n%m))]) rfl ?_ rfl
 unfold v7
 refine(qk (Z':=[some (.lst [.int n]),some (.int m),some (.int (n/m)),some (.int (n%m))]) ?_).trans ?_
 ·push_cast [at0,qir h0 h1,qa3,zm,qt,qa2,yd0]
 ·refine(qk (Z':=[some (.lst [.int (n/m)]),some (.int m),some (.int (n/m)),some (.int (n%m))]) ?_).trans rfl
  push_cast [qq5,imm]
theorem qgT (n:Int) (c:D):∃a b m n',jd [.int n] [c]=.ok (.tup [.int a,.int b,m],[.int n'])/\1<=a/\a<=25/\0<=b/\b<=39/\qmi c m:=by
 have s2:∀n k:Int,∃n' a b,(qiW 3 4 %[d2 zf (ret (.int 1)) (ql qi 0 %[ret (.int 7)|0]),ql qi 0 %[ret (.int 10)|0]|0]) [some (.lst [.int n]),some c,some (.int k),none,none,none]=.ok (.nx [some (.lst [.int n']),some c,some (.int k),some (.int a),some (.int b),none])/\1<=a/\a<=7/\0<=b/\b<=9:=by
  intro n k
  refine⟨n/7/10,1+n%7,n/7%10,?_,by omega,by omega,by omega,by omega⟩
  push_cast [jq (m:=7) (by decide) (by decide),jq (m:=10) (by decide) (by decide),yi]
 have s3:∀n k a b:Int,1<=a->a<=7->0<=b->b<=9->∃b',(sif (tst (d2 eqB (dv 2) (ret (.int 1)))) (qN 4 (d2 zE (ret (.int 2)) (dv 3))) z9) [some (.lst [.int n]),some c,some (.int k),some (.int a),some (.int b),none]=.ok (.nx [some (.lst [.int n]),some c,some (.int k),some (.int a),some (.int b'),none])/\0<=b'/\b'<=14:=by
  intro n k a b h1 h2 h3 h4
  by_cases hk:k=1
  ·refine⟨2*a,?_,by omega,by omega⟩
   push_cast [hk,qq6]
  ·refine⟨b,?_,by omega,by omega⟩
   push_cast [hk]
 have s4:∀n k a b:Int,1<=a->a<=7->0<=b->b<=14->∃n' b',(sif (tst (d2 eqB (dv 2) (ret (.int 2)))) (qN 4 (d2 zf (dv 3) (ql qi 0 %[ret (.int 3)|0]))) z9) [some (.lst [.int n]),some c,some (.int k),some (.int a),some (.int b),none]=.ok (.nx [some (.lst [.int n']),some c,some (.int k),some (.int a),some (.int b'),none])/\0<=b'/\b'<=14:=by
  intro n k a b h1 h2 h3 h4
  by_cases hk:k=2
  ·refine⟨n/3,a+n%3,?_,by omega,by omega⟩
   push_cast [hk,yi,jq (m:=3) (by decide) (by decide)]
  ·refine⟨n,b,?_,by omega,by omega⟩
   push_cast [hk]
 have s5:∀n k a b:Int,1<=a->a<=7->0<=b->b<=14->∃n' a' b',(sif (tst (d2 eqB (dv 2) (ret (.int 3)))) (qiW 3 4 %[d2 zf (ret (.int 1)) (ql qi 0 %[ret (.int 25)|0]),ql qi 0 %[ret (.int 40)|0]|0]) z9) [some (.lst [.int n]),some c,some (.int k),some (.int a),some (.int b),none]=.ok (.nx [some (.lst [.int n']),some c,some (.int k),some (.int a'),some (.int b'),none])/\1<=a'/\a'<=25/\0<=b'/\b'<=39:=by
  intro n k a b h1 h2 h3 h4
  by_cases hk:k=3
  ·refine⟨n/25/40,1+n%25,n/25%40,?_,by omega,by omega,by omega,by omega⟩
   push_cast [hk,yi,jq (m:=25) (by decide) (by decide),jq (m:=40) (by decide) (by decide)]
  ·refine⟨n,a,b,?_,by omega,by omega,by omega,by omega⟩
   push_cast [hk]
 have s6:∀n k a b:Int,∃n' m,(qN 5 (d2 ixD (jI %[ret (.int 1),ret (.int 1),ret (.int 1),ret (.int 2),ret (.int 3),ret (.int 0),ret (.int 5),dv 1|0]) (ql qi 0 %[ret (.int 8)|0]))) [some (.lst [.int n]),some c,some (.int k),some (.int a),some (.int b),none]=.ok (.nx [some (.lst [.int n']),some c,some (.int k),some (.int a),some (.int b),some m])/\qmi c m:=by
  intro n k a b
  obtain⟨m,hm,e⟩:=qex (ds:=[.int 1,.int 1,.int 1,.int 2,.int 3,.int 0,.int 5,c]) (k:=n%8) (by omega) (by simp;omega)
  refine⟨n/8,m,?_,?_⟩
  ·push_cast [jq (m:=8) (by decide) (by decide),zA (show 8<=1000000 by omega),e]
  ·simp only[yav,nN_,or_false]at hm
   rcases hm with h|h|h|h|h|h|h|h
   ·exact .inr ⟨_,h,by omega,by omega⟩
   ·exact .inr ⟨_,h,by omega,by omega⟩
   ·exact .inr ⟨_,h,by omega,by omega⟩
   ·exact .inr ⟨_,h,by omega,by omega⟩
   ·exact .inr ⟨_,h,by omega,by omega⟩
   ·exact .inr ⟨_,h,by omega,by omega⟩
   ·exact .inr ⟨_,h,by omega,by omega⟩
   ·exact .inl h
 obtain⟨n2,a2,b2,e2,p2,q2,r2,t2⟩:=s2 (n/6) (n%6)
 obtain⟨b3,e3,r3,t3⟩:=s3 n2 (n%6) a2 b2 p2 q2 r2 t2
 obtain⟨n4,b4,e4,r4,t4⟩:=s4 n2 (n%6) a2 b3 p2 q2 r3 t3
 obtain⟨n5,a5,b5,e5,p5,q5,r5,t5⟩:=s5 n4 (n%6) a2 b4 p2 q2 r4 t4
 obtain⟨n6,m,e6,g6⟩:=s6 n5 (n%6) a5 b5
 refine⟨a5,b5,m,n6,?_,p5,q5,r5,t5,g6⟩
 unfold jd
 refine qaP (Z:=[some (.lst [.int n6]),some c,some (.int (n%6)),some (.int a5),some (.int b5),some m]) rfl ?_ rfl
 unfold uc
 refine(qk (Z':=[some (.lst [.int (n/6)]),some c,some (.int (n%6)),none,none,none]) ?_).trans ?_
 ·push_cast [jq (m:=6) (by decide) (by decide)]
 refine(qk e2).trans ?_
 refine(qk e3).trans ?_
 refine(qk e4).trans ?_
 refine(qk e5).trans ?_
 refine(qk e6).trans ?_
 push_cast [zA (show 3<=1000000 by omega)]
theorem qgU (n:Int) (ks:List D) (o4 o5:OD) (h:∀k∈ks,jx k) (hl:ks.length<=12):∃n' k',jx k'/\(qE (qN 5 (ql jd 0 %[dv 2|0])) (qE (sif (qeW (tst (qkt 3 (jI (ret [])))) (tst (d2 eqB (ql qi 0 %[ret (.int 7)|0]) (ret (.int 6))))) (qN 5 (qjq 3 (ql qi 0 %[qed 3|0]))) z9) (vW (uY 3 (dv 5))))) [some (.lst [.int n]),some (.int 3),some .non,some (.lst ks),o4,o5]=.ok (.nx [some (.lst [.int n']),some (.int 3),some .non,some (.lst (ks++[k'])),o4,some k']):=by
 obtain⟨a,b,m,n1,e1,p1,p2,p3,p4,p5⟩:=qgT n .non
 have gk:jx (.tup [.int a,.int b,m]):=⟨a,b,m,rfl,p1,p2,p3,p4,p5⟩
 obtain⟨b0,eb,hb⟩:=qfk h
 have s1:(qN 5 (ql jd 0 %[dv 2|0])) [some (.lst [.int n]),some (.int 3),some .non,some (.lst ks),o4,o5]=.ok (.nx [some (.lst [.int n1]),some (.int 3),some .non,some (.lst ks),o4,some (.tup [.int a,.int b,m])]):=by
  push_cast [e1]
 have s2:∃n' k',jx k'/\(sif (qeW (tst (qkt 3 (jI (ret [])))) (tst (d2 eqB (ql qi 0 %[ret (.int 7)|0]) (ret (.int 6))))) (qN 5 (qjq 3 (ql qi 0 %[qed 3|0]))) z9) [some (.lst [.int n1]),some (.int 3),some .non,some (.lst ks),o4,some (.tup [.int a,.int b,m])]=.ok (.nx [some (.lst [.int n']),some (.int 3),some .non,some (.lst ks),o4,some k']):=by
  cases b0 with
  |false=>
   refine⟨n1,_,gk,?_⟩
   push_cast [eb,zA (show 0<=1000000 by omega)]
  | true=>
   have hne:=hb rfl
   have hpos:0<ks.length:=List.length_pos_iff.mpr hne
   by_cases h6:n1%7=6
   ·obtain⟨k',hk',e⟩:=qol (ds:=ks) (k:=n1/7%(ks.length:Int)) (Int.emod_nonneg _ (by omega)) (yfr _ (by omega))
    refine⟨n1/7/(ks.length:Int),k',h k' hk',?_⟩
    push_cast [eb,zA (show 0<=1000000 by omega),jq (m:=7) (by decide) (by decide),h6,jq (m:=(ks.length:Int)) (by omega) (by omega),e]
   ·refine⟨n1/7,_,gk,?_⟩
    push_cast [eb,zA (show 0<=1000000 by omega),jq (m:=7) (by decide) (by decide),h6]
 obtain⟨n2,k',gk',e2⟩:=s2
 refine⟨n2,k',gk',?_⟩
 refine(qk s1).trans ((qk e2).trans ?_)
 push_cast [gk'.imm,zA (show ks.length+1<=1000000 by omega),yaF]
theorem qc7:∀(ds:List D)(n:Int)(ks:List D)(o4 o5:OD),(∀k∈ks,jx k)->ks.length+ds.length<=3 ->
  ∃n' ks' o4' o5',yD (qt 4) (qE (qN 5 (ql jd 0 %[dv 2|0])) (qE (sif (qeW (tst (qkt 3 (jI (ret [])))) (tst (d2 eqB (ql qi 0 %[ret (.int 7)|0]) (ret (.int 6))))) (qN 5 (qjq 3 (ql qi 0 %[qed 3|0]))) z9) (vW (uY 3 (dv 5))))) ds [some (.lst [.int n]),some (.int 3),some .non,some (.lst ks),o4,o5]=.ok (.nx [some (.lst [.int n']),some (.int 3),some .non,some (.lst ks'),o4',o5'])/\(∀k∈ks',jx k)/\ks'.length<=3
 | [],n,ks,o4,o5,h,hl=>⟨n,ks,o4,o5,rfl,h,by simpa using hl⟩
 | d::ds,n,ks,o4,o5,h,hl=>by
  have hl':ks.length+(ds.length+1)<=3:=hl
  obtain⟨n1,k',gk,e⟩:=qgU n ks (some d) o5 h (by omega)
  obtain ⟨n',ks',o4',o5',q,g,l⟩:=qc7 ds n1 (ks++[k']) (some d) (some k') (λx hx=>(mA_.mp hx).elim (h x) λhx=>by
   rw[ms_]at hx;subst hx;exact gk) (by rw[lA_,yaJ];omega)
  refine⟨n',ks',o4',o5',?_,g,l⟩
  unfold yD
  simp only[qt,ybM,ydA,e]
  exact q
theorem qgV (n:Int):∃ks n',je [.int n] [.int 3,.non]=.ok (.tup ks,[.int n'])/\(∀k∈ks,jx k)/\ks.length<=3:=by
 obtain⟨n',ks',o4',o5',q,g,l⟩:=qc7 (qdl 0 (n%4).toNat) (n/4) [] none none (λ_ h=>by cases h) (by rw[qjS];simp;omega)
 refine⟨ks',n',?_,g,l⟩
 unfold je
 refine qaP (Z:=[some (.lst [.int n']),some (.int 3),some .non,some (.lst ks'),o4',o5']) rfl ?_ rfl
 unfold ud
 refine(qk (Z':=[some (.lst [.int n]),some (.int 3),some .non,some (.lst []),none,none]) ?_).trans ?_
 ·push_cast [immL,zA (show 0<=1000000 by omega),yaF]
 refine(qk (Z':=[some (.lst [.int n']),some (.int 3),some .non,some (.lst ks'),o4',o5']) ?_).trans ?_
 ·rw[vG,uD (j:=n%4) (Z1:=[some (.lst [.int (n/4)]),some (.int 3),some .non,some (.lst []),none,none]) ?_ (by omega) (by omega)]
  ·exact q
  ·push_cast [yi,jq (m:=4) (by decide) (by decide),Int.reduceAdd]
 ·push_cast []
theorem qmr (ns:List Int) (i:Int) (h0:0<=i):∃x,y0 [.fz ns,.int i]=.ok (.int x):=by
 by_cases h:i<ns.length
 ·obtain ⟨j,rfl⟩:=yd9 h0
  have hj:j<ns.length:=by omega
  have e:ixD (.fz ns) (.int (j:Int))=some (.int ns[j]):=by
   show(atI ns (j:Int)).map D.int=_
   unfold atI ixN
   rw[if_pos (by omega),if_pos (by omega)]
   show(ns[(j:Int).toNat]?).map D.int=_
   rw[yaO,gG hj];rfl
  refine⟨ns[j],?_⟩
  unfold y0 v9
  refine yP rfl ⟨[some (.fz ns),some (.int (j:Int))],?_⟩
  refine(zd (d:=.int ns[j]) (Z':=[some (.fz ns),some (.int (j:Int))]) ?_)
  push_cast [e,yh,h]
 ·refine⟨0,?_⟩
  unfold y0 v9
  refine yP rfl ⟨[some (.fz ns),some (.int i)],?_⟩
  refine(qk (Z':=[some (.fz ns),some (.int i)]) ?_).trans rfl
  push_cast [yh,h]
theorem qor (x j:Int) (h0:0<=j) (h1:j<40):∃v,uV [.int x,.int j]=.ok (.int v):=by
 obtain⟨m,hm,e⟩:=qex (ds:=[.int 48271,.int 69621,.int 16807,.int 39373,.int 30269,.int 40014,.int 40692,.int 50021,.int 61687,.int 71993,.int 83869,.int 95561,.int 30307]) (k:=j%13) (by omega) (by simp;omega)
 have hm2:∃c,m=.int c/\ug c=true:=by
  have:m∈facts.map D.int:=hm
  obtain⟨c,hc,rfl⟩:=mP_.mp this
  exact⟨c,rfl,List.all_eq_true.mp (show facts.all ug=true by decide) c hc⟩
 obtain⟨c,rfl,hc⟩:=hm2
 have f3:∀s:Int,ug (s%1000000007)=true:=λs=>qfm (by omega) (by omega)
 have f977:ug 977=true:=by decide
 have f79:ug 7919=true:=by decide
 have f48:ug 48271=true:=by decide
 let L:D:=.lst [.int 48271,.int 69621,.int 16807,.int 39373,.int 30269,.int 40014,.int 40692,.int 50021,.int 61687,.int 71993,.int 83869,.int 95561,.int 30307]
 let s1:Int:=(x%2147483647+12345)*c+977*j+7919*(j/13)
 let s2:Int:=s1%1000000007
 refine⟨(s2*s2+48271*j)%1000000007/7,?_⟩
 unfold uV qbs
 refine yP rfl ⟨[some (.int x),some (.int j),some L,some (.int s2)],?_⟩
 refine(qk (Z':=[some (.int x),some (.int j),some L,none]) ?_).trans ?_
 ·push_cast [zA (show 13<=1000000 by omega)]
  rfl
 refine(qk (Z':=[some (.int x),some (.int j),some L,some (.int s1)]) ?_).trans ?_
 ·push_cast [L,v3 (j:=2147483647) (by decide),v3 (j:=13) (by decide),yi,e,qjT hc,qfl f977,qfl f79,vH (j:=13) (by decide) (by decide)]
  rfl
 refine(qk (Z':=[some (.int x),some (.int j),some L,some (.int s2)]) ?_).trans ?_
 ·push_cast [v3 (j:=1000000007) (by decide),s2]
 ·push_cast [v3 (j:=1000000007) (by decide),s2,yi,qfl (f3 _),qfl f48,vH (j:=7) (by decide) (by decide)]
theorem qgf (A B:OD) (x:Int):∀(ds:List D)(s:Int)(o:OD),(∀d∈ds,∃j:Int,d=.int j/\0<=j/\j<40)->∃s' o',yD (qt 4) (qN 3 (d2 zf (d2 zE (dv 3) (ret (.int 142857143))) (qj uV %[dv 2,dv 4|0]))) ds [A,B,some (.int x),some (.int s),o]=.ok (.nx [A,B,some (.int x),some (.int s'),o'])
 | [],s,o,_=>⟨s,o,rfl⟩
 | d::ds,s,o,h=>by
  obtain⟨j,rfl,h0,h1⟩:=h d mS_
  obtain⟨v,e⟩:=qor x j h0 h1
  obtain⟨s',o',q⟩:=qgf A B x ds (s*142857143+v) (some (.int j)) λy hy=>h y (mM _ hy)
  refine⟨s',o',?_⟩
  have st:(qN 3 (d2 zf (d2 zE (dv 3) (ret (.int 142857143))) (qj uV %[dv 2,dv 4|0]))) [A,B,some (.int x),some (.int s),some (.int j)]=.ok (.nx [A,B,some (.int x),some (.int (s*142857143+v)),some (.int j)]):=by
   push_cast [e,qjT (j:=142857143) (by decide),yi]
  unfold yD
  simp only[qt,ybM,ydA,st]
  exact q
theorem qos (ns:List Int) (i:Int) (h0:0<=i):∃n,yB [.fz ns,.int i]=.ok (.lst [.int n]):=by
 obtain⟨x,e⟩:=qmr ns i h0
 have s1:(qN 2 (qj y0 %[dv 0,dv 1|0])) [some (.fz ns),some (.int i),none,none,none]=.ok (.nx [some (.fz ns),some (.int i),some (.int x),none,none]):=by
  push_cast [e]
 by_cases hx:x%2=0
 ·refine⟨(if x<0 then -x else x)/2,?_⟩
  unfold yB qad
  refine yP rfl ⟨[some (.fz ns),some (.int i),some (.int x),none,none],?_⟩
  refine(qk s1).trans (zd ?_)
  push_cast [v3 (j:=2) (by decide),hx,qoH,vH (j:=2) (by decide) (by decide),zA (show 1<=1000000 by omega)]
 ·obtain ⟨s',o',q⟩:=qgf (some (.fz ns)) (some (.int i)) x (qdl 0 40) 0 none λd hd=>by
   unfold qdl at hd
   obtain⟨k,hk,rfl⟩:=mP_.mp hd
   have hk':=mR_.mp hk
   exact⟨_,rfl,by omega,by omega⟩
  refine⟨s',?_⟩
  unfold yB qad
  refine yP rfl ⟨[some (.fz ns),some (.int i),some (.int x),some (.int s'),o'],?_⟩
  refine(qk s1).trans ?_
  refine(qk (Z':=[some (.fz ns),some (.int i),some (.int x),none,none]) ?_).trans ?_
  ·push_cast [v3 (j:=2) (by decide),hx]
  refine(qk (Z':=[some (.fz ns),some (.int i),some (.int x),some (.int 0),none]) ?_).trans ?_
  ·push_cast []
  refine(qk (Z':=[some (.fz ns),some (.int i),some (.int x),some (.int s'),o']) ?_).trans ?_
  ·rw[vG,uD (j:=40) (Z1:=[some (.fz ns),some (.int i),some (.int x),some (.int 0),none]) rfl (by omega) (by omega)]
   exact q
  ·push_cast [zA (show 1<=1000000 by omega)]
def kw(k:Kw):D:=.tup [.int k.w,.int k.v,mD k.m]
def qbt(k:Kw):Prop:=(1<=k.w/\k.w<=25)/\(0<=k.v/\k.v<=39)/\∀j,k.m=some j->0<=j/\j<=5
theorem qbt.kd{k:Kw}(h:qbt k):qoo k:=⟨h.1.1,λj e=>(h.2.2 j e).1⟩
theorem qgg:∀ds:List D,(∀d∈ds,jx d)->∃ks:List Kw,ds=ks.map kw/\∀k∈ks,qbt k
 | [],_=>⟨[],rfl,λ_ h=>by cases h⟩
 | d::ds,h=>by
  obtain⟨ks,e,g⟩:=qgg ds λx hx=>h x (mM _ hx)
  obtain⟨a,b,m,rfl,h1,h2,h3,h4,hm⟩:=h d mS_
  have:∃o:Option Int,m=mD o/\∀j,o=some j->0<=j/\j<=5:=by
   rcases hm with rfl|⟨j,rfl,j0,j1⟩
   ·exact⟨none,rfl,λj e=>by cases e⟩
   ·exact⟨some j,rfl,λi e=>by cases e;exact⟨j0,j1⟩⟩
  obtain⟨o,rfl,ho⟩:=this
  refine⟨⟨a,b,o⟩::ks,by rw[e];rfl,λk hk=>?_⟩
  rcases List.mem_cons.mp hk with rfl|hk
  ·exact⟨⟨h1,h2⟩,⟨h3,h4⟩,ho⟩
  ·exact g k hk
theorem qpy(k:Kw):ixD (kw k) (.int 0)=some (.int k.w):=rfl
theorem qpz(k:Kw):ixD (kw k) (.int 1)=some (.int k.v):=rfl
theorem qot(k:Kw):ixD (kw k) (.int 2)=some (mD k.m):=rfl
theorem qms{ds:List D}{i:Nat}{d:D}(h:ds[i]? = some d):ixD (.lst ds) (.int (i:Nat))=some d:=qiw h
theorem qg6 {k:Kw} (hk:qbt k) {s:Int} (h0:0<=s):z5 [kw k,.int s]=.ok (.int (ofn k s:Nat)):=by
 unfold z5 uF
 have hd:0<=s/k.w:=yej h0 (by have:=hk.1.1;omega)
 let Z:Env:=[some (kw k),some (.int s),some (.int (s/k.w))]
 refine yP rfl ⟨Z,?_⟩
 refine(qk (Z':=Z) ?_).trans ?_
 ·show qN 2 _ [some (kw k),some (.int s),none]=_
  rw[vF,qg rfl (qg rfl rfl (qpy k)) (vH (by have:=hk.1.1;omega) (by have:=hk.1.2;omega))]
  rfl
 ·have c1:d2 isN (d2 ixD (dv 0) (ret (.int 2))) (ret .non) Z=.ok (.bl k.m.isNone,Z):=qg (qg rfl rfl (qot k)) rfl (by rw[qbC,qgd])
  rw[qaO,qhW,qO c1]
  cases em:k.m with
  |none=>
   have e:((ofn k s:Nat):Int)=s/k.w:=by unfold ofn;rw[em];show((s/k.w).toNat:Int)=_;omega
   rw[e]
   rfl
  | some j=>
   have hj:=(hk.2.2 j em).1
   have e:((ofn k s:Nat):Int)=if j<s/k.w then j else s/k.w:=by
    unfold ofn
    rw[em]
    show((if j<s/k.w then j else s/k.w).toNat:Int)=_
    split<;>omega
   have c2:qw qaf %[dv 2,d2 ixD (dv 0) (ret (.int 2))|0] Z=.ok (.int (ofn k s:Nat),Z):=by
    rw[qau,qdB rfl (qg rfl rfl (by rw[qot,em]))]
    show(match qaf [.int (s/k.w),.int j] with|some d=>R.ok (d,Z)|none => .bad)=_
    rw[qbT,e]
   show(match qw qaf %[dv 2,d2 ixD (dv 0) (ret (.int 2))|0] Z with|.ok (d,Z1)=>R.ok (Fl.rt d Z1)|.exc x Z' => .exc x Z'|.bad => .bad)=_
   rw[c2]
theorem qiB {l:M (List D)} {Z:Env} {k:Kw} {s:Int} (hn:ofn k s<=20) (h:l Z=.ok ([.int ((ofn k s:Nat)+1)],Z)):jO l Z=.ok ((yay (ofn k s+1)).map λt=>D.int (t:Nat),Z):=by
 rw[uD h (by omega) (by omega)]
 have e:((ofn k s:Nat)+1:Int).toNat=ofn k s+1:=by omega
 rw[e,qon]
theorem qkV {k:Kw} (hk:qbt k) {s:Int} (h0:0<=s) (h1:s<=20):ofn k s<=20:=by
 have:=(qkT hk.kd.1 hk.kd.2 h0 (yac (ofn k s))).2
 omega
theorem qfs {n:Int} (h:n<=200):uU [.int n]=.ok .non:=by
 unfold uU
 refine qer rfl ⟨[some (.int n)],?_⟩
 unfold vS
 have h':¬200<n:=by omega
 push_cast [h']
theorem qgW:uU [.int 201]=.exc ⟨"TooMany",.non⟩ [some (.int 201)]:=by
 unfold uU
 refine qcm rfl ?_
 unfold vS
 have h':(200:Int)<201:=by omega
 push_cast [h',sm1]
theorem qou:RN.contains "NoNumber"=true:=by decide
theorem qpA:RN.contains "TooMany"=true:=by decide
theorem qjY {ks:List Kw} (h:∀k∈ks,qbt k) (hl:ks.length<=12):vp (.tup (ks.map kw))=true:=by
 have:(ks.map kw).all qao=true:=by
  rw[yfq]
  refine List.all_eq_true.mpr λk hk=>?_
  have g:=h k hk
  exact qiv (x:=(k.w,k.v,k.m)) ⟨by have:=g.1.1;show 0<k.w;omega,g.2.1.1,λj e=>(g.2.2 j e).1⟩
 simp only[vp,lM_,hl,decide_true,this,ybb]
theorem qiC {α:Type} {l:List α} {f:α->Int} (h:l≠[]):qcI [.lst (l.map λa=>D.int (f a))]=some (.int (qcU (l.map f))):=by
 cases l with
 |nil=>exact absurd rfl h
 |cons a l=>
  have:=qdA ((a::l).map f)
  rw[mm_]at this
  simp only[Function.comp_def,mC_]at this
  simp only[mC_,qcI,this]
def ldD(l:List Int):D:=.tup (l.map D.int)
def qD(p:List Int×Int):D:=.tup [ldD p.1,.int p.2]
def vw(k:Kw)(p:List Int×Int):List (List Int×Int):=(yay (ofn k p.2+1)).map λ(t:Nat)=>(p.1++[(t:Int)],p.2-(t:Int)*k.w)
theorem qgh {α β:Type} (g:α->List β):∀(l:List α)(acc:List β),l.foldl (λacc a=>acc++g a) acc=acc++l.flatMap g
 | [],acc=>by simp
 |a::l,acc=>by rw[fo_,qgh g l,ydK,aA_]
theorem qbV(k:Kw)(F:List (List Int×Int)):qct k F=F.flatMap (vw k):=rfl
structure okF (n:Nat) (F:List (List Int×Int)):Prop where
 bd:∀p∈F,0<=p.2/\p.2<=20/\p.1.length=n
 len:F.length<=21 ^ n
theorem qbu {k:Kw} (hk:qbt k) {n:Nat} {p:List Int×Int} (h:0<=p.2/\p.2<=20/\p.1.length=n):(vw k p).length<=21/\∀q∈vw k p,0<=q.2/\q.2<=20/\q.1.length=n+1:=by
 have hn:=qkV hk h.1 h.2.1
 refine⟨by unfold vw;rw[lM_,lR_];omega,λq hq=>?_⟩
 obtain⟨t,ht,rfl⟩:=mP_.mp hq
 have ht':t<=ofn k p.2:=by have:=mR_.mp ht;omega
 obtain⟨g1,_⟩:=qkT hk.kd.1 hk.kd.2 h.1 ht'
 have g2:0<=(t:Int)*k.w:=Int.mul_nonneg (by omega) (by have:=hk.1.1;omega)
 refine⟨by show 0<=p.2-t*k.w;omega,by show p.2-t*k.w<=20;omega,by simp[h.2.2]⟩
theorem qgi {α β:Type} {g:α->List β} {n:Nat}:∀l:List α,(∀a∈l,(g a).length<=n)->(l.flatMap g).length<=l.length*n
 | [],_=>by simp
 |a::l,h=>by
  have h1:=h a mS_
  have h2:=qgi l λx hx=>h x (mM _ hx)
  rw[ydK,lA_,lC_,yfg]
  omega
theorem okF.step {k:Kw} (hk:qbt k) {n:Nat} {F:List (List Int×Int)} (h:okF n F):okF (n+1) (qct k F):=by
 refine⟨λq hq=>?_,?_⟩
 ·rw[qbV]at hq
  obtain⟨p,hp,hq⟩:=List.mem_flatMap.mp hq
  exact(qbu hk (h.bd p hp)).2 q hq
 ·rw[qbV,Nat.pow_succ]
  exact yau (qgi F λp hp=>(qbu hk (h.bd p hp)).1) (ydf _ h.len)
theorem qmt(m:Option Int):qeO (mD m) .non=some (.bl (!m.isNone)):=by rw[qfj,qgd]
theorem qmu (T Rm:OD) {k:Kw} (hk:qbt k) {n:Nat} (hn:n<=3) {F:List (List Int×Int)} (h:okF n F) (o6 o7 o8 o9:OD) :
  ∃q7 q8 q9,(qE (qN 6 (jI (ret []))) (qE (qak (wD (dv 2)) (qa3 2 (zm (qt 7) (zm (qt 8) qa2))) (qE (qN 9 (d2 vA (dv 8) (dv 3))) (qE (sif (tst (d2 qeO (dv 5) (ret .non))) (qN 9 (qw qaf %[dv 9,dv 5|0])) z9) (qN 6 (d2 zf (dv 6) (jJ 1 [7,8,3] none (jO %[d2 zf (dv 9) (ret (.int 1))|0]) (qt 0) (ret true) (qF %[d2 zf (dv 1) (qF %[dv 0|0]),d2 yO (dv 2) (d2 zE (dv 0) (dv 3))|0]))))))) (qN 2 (dv 6)))) [T,Rm,some (.lst (F.map qD)),some (.int k.w),some (.int k.v),some (mD k.m),o6,o7,o8,o9]=.ok (.nx [T,Rm,some (.lst ((qct k F).map qD)),some (.int k.w),some (.int k.v),some (mD k.m),some (.lst ((qct k F).map qD)),q7,q8,q9]):=by
 have hF:F.length<=9261:=yau h.len (yau (ydg (by omega) hn) (by decide))
 let Fd:OD:=some (.lst (F.map qD))
 let A:OD:=some (.int k.w)
 let B:OD:=some (.int k.v)
 let Mo:OD:=some (mD k.m)
 obtain ⟨Z',q,o7',o8',o9',hlen,rfl⟩:=qaU (G:=qa3 2 (zm (qt 7) (zm (qt 8) qa2))) (b:=(qE (qN 9 (d2 vA (dv 8) (dv 3))) (qE (sif (tst (d2 qeO (dv 5) (ret .non))) (qN 9 (qw qaf %[dv 9,dv 5|0])) z9) (qN 6 (d2 zf (dv 6) (jJ 1 [7,8,3] none (jO %[d2 zf (dv 9) (ret (.int 1))|0]) (qt 0) (ret true) (qF %[d2 zf (dv 1) (qF %[dv 0|0]),d2 yO (dv 2) (d2 zE (dv 0) (dv 3))|0]))))))) (k:=qD) (step:=λacc p=>acc++vw k p) (Inv:=λm acc Z=>∃o7 o8 o9,acc.length<=m*21/\Z=[T,Rm,Fd,A,B,Mo,some (.lst (acc.map qD)),o7,o8,o9]) F 0 [] [T,Rm,Fd,A,B,Mo,some (.lst []),o7,o8,o9] ⟨o7,o8,o9,yac _,rfl⟩ (λp hp m acc Z _ hm=>by
  rintro⟨o7,o8,o9,hacc,rfl⟩
  obtain⟨b0,b1,b2⟩:=h.bd p hp
  have hof:=qkV hk b0 b1
  have so:=qbu hk (h.bd p hp)
  have hd:0<=p.2/k.w:=yej b0 (by have:=hk.1.1;omega)
  let Ac:OD:=some (.lst (acc.map qD))
  let Ld:OD:=some (ldD p.1)
  let Lf:OD:=some (.int p.2)
  let Z1:Env:=[T,Rm,Fd,A,B,Mo,Ac,Ld,Lf,o9]
  let Z2:Env:=[T,Rm,Fd,A,B,Mo,Ac,Ld,Lf,some (.int (p.2/k.w))]
  let Z3:Env:=[T,Rm,Fd,A,B,Mo,Ac,Ld,Lf,some (.int (ofn k p.2:Nat))]
  have e1:(qN 9 (d2 vA (dv 8) (dv 3))) Z1=.ok (.nx Z2):=by
   have c:d2 vA (dv 8) (dv 3) Z1=.ok (.int (p.2/k.w),Z1):=qg rfl rfl (vH (by have:=hk.1.1;omega) (by have:=hk.1.2;omega))
   rw[vF,c]
   rfl
  have e2:(sif (tst (d2 qeO (dv 5) (ret .non))) (qN 9 (qw qaf %[dv 9,dv 5|0])) z9) Z2=.ok (.nx Z3):=by
   have c1:d2 qeO (dv 5) (ret .non) Z2=.ok (.bl (!k.m.isNone),Z2):=qg rfl rfl (qmt k.m)
   cases em:k.m with
   |none=>
    have e:((ofn k p.2:Nat):Int)=p.2/k.w:=by unfold ofn;rw[em];show((p.2/k.w).toNat:Int)=_;omega
    rw[em]at c1
    rw[qaD (qO c1)]
    simp only[Z2,Z3,e,qhX]
   | some j=>
    have hj:=(hk.2.2 j em).1
    have e:((ofn k p.2:Nat):Int)=if j<p.2/k.w then j else p.2/k.w:=by
     unfold ofn
     rw[em]
     show((if j<p.2/k.w then j else p.2/k.w).toNat:Int)=_
     split<;>omega
    rw[em]at c1
    rw[vI (qO c1)]
    have c2:qw qaf %[dv 9,dv 5|0] Z2=.ok (.int (ofn k p.2:Nat),Z2):=by
     have hv:dv 5 Z2=.ok (.int j,Z2):=by
      show R.ok (mD k.m,Z2)=_
      rw[em]
      rfl
     rw[qau,qdB rfl hv]
     show(match qaf [.int (p.2/k.w),.int j] with|some d=>R.ok (d,Z2)|none => .bad)=_
     rw[qbT,e]
    rw[vF,c2]
    rfl
  have e3:(qN 6 (d2 zf (dv 6) (jJ 1 [7,8,3] none (jO %[d2 zf (dv 9) (ret (.int 1))|0]) (qt 0) (ret true) (qF %[d2 zf (dv 1) (qF %[dv 0|0]),d2 yO (dv 2) (d2 zE (dv 0) (dv 3))|0])))) Z3=.ok (.nx [T,Rm,Fd,A,B,Mo,some (.lst ((acc++vw k p).map qD)),Ld,Lf,some (.int (ofn k p.2:Nat))]):=by
   have c:jJ 1 [7,8,3] none (jO %[d2 zf (dv 9) (ret (.int 1))|0]) (qt 0) (ret true) (qF %[d2 zf (dv 1) (qF %[dv 0|0]),d2 yO (dv 2) (d2 zE (dv 0) (dv 3))|0]) Z3=.ok (.lst ((yay (ofn k p.2+1)).map λ(t:Nat)=>qD (p.1++[(t:Int)],p.2-(t:Int)*k.w)),Z3):=by
    refine qkS (r:=[Ld,Lf,A]) (k:=λt:Nat=>D.int (t:Nat)) _ _ (qiB hof (qah (qg rfl rfl (yi _ _)))) rfl (by rw[lR_];omega) λt ht=>?_
    have ht':t<=ofn k p.2:=by have:=mR_.mp ht;omega
    have ad:zf (ldD p.1) (.tup [.int (t:Nat)])=some (ldD (p.1++[(t:Int)])):=by
     unfold ldD
     rw[vf (by rw[lM_,b2];simp;omega),List.map_append]
     rfl
    have t1:qF %[dv 0|0] [some (.int (t:Nat)),Ld,Lf,A]=.ok (.tup [.int (t:Nat)],[some (.int (t:Nat)),Ld,Lf,A]):=by
     rw[wM,qah rfl]
     simp only[lC_,lN_,yaV,sm1,if_true]
    exact qbU (qg rfl t1 ad) (qg rfl (qg rfl rfl (qfl (qfm (by omega) (by omega)))) (uE _ _))
   have ml:(vw k p).map qD=(yay (ofn k p.2+1)).map λ(t:Nat)=>qD (p.1++[(t:Int)],p.2-(t:Int)*k.w):=by
    unfold vw
    rw[mm_]
    rfl
   rw[<-ml]at c
   have c2:(d2 zf (dv 6) (jJ 1 [7,8,3] none (jO %[d2 zf (dv 9) (ret (.int 1))|0]) (qt 0) (ret true) (qF %[d2 zf (dv 1) (qF %[dv 0|0]),d2 yO (dv 2) (d2 zE (dv 0) (dv 3))|0]))) Z3=.ok (.lst ((acc++vw k p).map qD),Z3):=qg rfl c (by rw[ua (by rw[lM_,lM_];have:=so.1;omega),List.map_append])
   rw[vF,c2]
   rfl
  refine⟨Z1,_,rfl,(qk e1).trans ((qk e2).trans e3),Ld,Lf,some (.int (ofn k p.2:Nat)),?_,rfl⟩
  rw[lA_]
  have:=so.1
  omega)
 rw[qgh,ybz,<-qbV]at q
 refine⟨o7',o8',o9',?_⟩
 refine(qk (Z':=[T,Rm,Fd,A,B,Mo,some (.lst []),o7,o8,o9]) ?_).trans ?_
 ·push_cast [zA (show 0<=1000000 by omega),Fd,A,B,Mo]
 refine(qk (Z':=[T,Rm,Fd,A,B,Mo,some (.lst ((qct k F).map qD)),o7',o8',o9']) ?_).trans ?_
 ·rw[vG]
  exact q
 ·rfl
theorem qaA {ks:List Kw} (h:∀k∈ks,qbt k) (hl:ks.length<=4) {r:Nat} (hr:r<=20):yj [.tup (ks.map kw),.int (r:Nat)]=.ok (.lst ((vg ks r).map λp=>ldD p.1))/\okF ks.length (vg ks r):=by
 let T:OD:=some (.tup (ks.map kw))
 let Rm:OD:=some (.int (r:Nat))
 have loop:∀(b:List Kw)(n:Nat)(F:List (List Int×Int))(o3 o4 o5 o6 o7 o8 o9:OD),(∀k∈b,qbt k)->okF n F->n+b.length<=4->∃o3' o4' o5' o6' o7' o8' o9',yD (qa3 3 (zm (qt 3) (zm (qt 4) (zm (qt 5) qa2)))) (qE (qN 6 (jI (ret []))) (qE (qak (wD (dv 2)) (qa3 2 (zm (qt 7) (zm (qt 8) qa2))) (qE (qN 9 (d2 vA (dv 8) (dv 3))) (qE (sif (tst (d2 qeO (dv 5) (ret .non))) (qN 9 (qw qaf %[dv 9,dv 5|0])) z9) (qN 6 (d2 zf (dv 6) (jJ 1 [7,8,3] none (jO %[d2 zf (dv 9) (ret (.int 1))|0]) (qt 0) (ret true) (qF %[d2 zf (dv 1) (qF %[dv 0|0]),d2 yO (dv 2) (d2 zE (dv 0) (dv 3))|0]))))))) (qN 2 (dv 6)))) (b.map kw) [T,Rm,some (.lst (F.map qD)),o3,o4,o5,o6,o7,o8,o9]=.ok (.nx [T,Rm,some (.lst ((b.foldl (λf k=>qct k f) F).map qD)),o3',o4',o5',o6',o7',o8',o9'])/\okF (n+b.length) (b.foldl (λf k=>qct k f) F):=λb=>by
  induction b with
  |nil=>intro n F o3 o4 o5 o6 o7 o8 o9 _ hF _;exact⟨o3,o4,o5,o6,o7,o8,o9,rfl,hF⟩
  | cons k b ih=>
   intro n F o3 o4 o5 o6 o7 o8 o9 hb hF hn
   have hn':n+(b.length+1)<=4:=hn
   have hk:=hb k mS_
   obtain⟨q7,q8,q9,e⟩:=qmu T Rm hk (by omega) hF o6 o7 o8 o9
   obtain⟨p3,p4,p5,p6,p7,p8,p9,q,g⟩:=ih (n+1) (qct k F) (some (.int k.w)) (some (.int k.v)) (some (mD k.m)) (some (.lst ((qct k F).map qD))) q7 q8 q9 (λx hx=>hb x (mM _ hx)) (hF.step hk) (by omega)
   refine⟨p3,p4,p5,p6,p7,p8,p9,?_,?_⟩
   ·rw[mC_,vJ rfl e,q]
    rfl
   ·rw[fo_,lC_,show n+(b.length+1)=n+1+b.length by omega]
    exact g
 have h0:okF 0 [([],((r:Nat):Int))]:=⟨λp hp=>by
  rw[ms_]at hp
  subst hp
  exact⟨by show(0:Int)<=(r:Nat);omega,by show((r:Nat):Int)<=20;omega,rfl⟩,yac _⟩
 obtain⟨p3,p4,p5,p6,p7,p8,p9,q,g⟩:=loop ks 0 [([],((r:Nat):Int))] none none none none none none none h h0 (by omega)
 rw[yaV]at g
 refine⟨?_,g⟩
 have hln:(vg ks r).length<=194481:=yau g.len (yau (ydg (by omega) hl) (by decide))
 unfold yj ux
 let Z':Env:=[T,Rm,some (.lst ((vg ks r).map qD)),p3,p4,p5,p6,p7,p8,p9]
 refine yP rfl ⟨Z',?_⟩
 refine(qk (Z':=[T,Rm,some (.lst (([([],((r:Nat):Int))]:List (List Int×Int)).map qD)),none,none,none,none,none,none,none]) ?_).trans ?_
 ·push_cast [zA (show 0<=1000000 by omega),sm1,zA (show 2<=1000000 by omega),T,Rm]
  rfl
 refine(qk (Z':=Z') ?_).trans ?_
 ·rw[vG]
  exact q
 ·have c:jJ 2 [] none (wD (dv 2)) (qa3 2 (zm (qt 0) (zm (qt 1) qa2))) (ret true) (dv 0) Z'=.ok (.lst ((vg ks r).map λp=>ldD p.1),Z'):=by
   have:=qmm (e:=dv 0) (t:=ret true) (xs:=wD (dv 2)) (fr:=[]) (Z:=Z') (r:=[]) (u:=λp:List Int×Int=>ldD p.1) (v:=λp=>D.int p.2) (vg ks r) (λ_=>true) (λp=>ldD p.1) rfl rfl (by omega) (λ_ _=>rfl) (λ_ _ _=>rfl)
   rw[qcs]at this
   exact this
  rw[qaO,c]
def qjZ(ks:List Kw)(i:Nat):Kw:=(ks[i]?).getD ⟨1,0,none⟩
def lAt(l:List Int)(i:Nat):Int:=(l[i]?).getD 0
theorem qc8 {ks:List Kw} {l:List Int} (hl:ks.length=l.length):∀n,n<=ks.length->(yay n).foldl (λs i=>s+(qjZ ks i).v*lAt l i) 0=yQ (ks.take n) (l.take n)
 |0,_=>rfl
 |n+1,h=>by
  rw[List.range_succ,List.foldl_append,qc8 hl n (by omega)]
  have h1:n<ks.length:=by omega
  have h2:n<l.length:=by omega
  rw[ycZ h1,ycZ h2,qcu _ _ _ _ (by rw[yaT,yaT];omega)]
  have e1:qjZ ks n=ks[n]:=by unfold qjZ;rw[gG h1];rfl
  have e2:lAt l n=l[n]:=by unfold lAt;rw[gG h2];rfl
  show yQ (ks.take n) (l.take n)+(qjZ ks n).v*lAt l n=_
  rw[e1,e2,Int.mul_comm]
theorem qdF {ks:List Kw} (h:∀k∈ks,qbt k) (hl:ks.length<=4) {l:List Int} (hn:l.length=ks.length):vT [.tup (ks.map kw),ldD l,.int 1]=.ok (.int (yQ ks l)):=by
 let T:OD:=some (.tup (ks.map kw))
 let Ld:OD:=some (ldD l)
 let O:OD:=some (.int 1)
 obtain ⟨Z',q,o4,rfl⟩:=qaU (G:=qt 4) (b:=(qN 3 (d2 zf (dv 3) (d2 zE (d2 ixD (d2 ixD (dv 0) (dv 4)) (dv 2)) (d2 ixD (dv 1) (dv 4)))))) (k:=λi:Nat=>D.int (i:Nat)) (step:=λ(s:Int) (i:Nat)=>s+(qjZ ks i).v*lAt l i) (Inv:=λn s Z=>∃o4,Z=[T,Ld,O,some (.int s),o4]) (yay ks.length) 0 0 [T,Ld,O,some (.int 0),none] ⟨none,rfl⟩ (λi hi n s Z _ _=>by
  rintro⟨o4,rfl⟩
  have hi':=mR_.mp hi
  have k1:ks[i]? = some (qjZ ks i):=by unfold qjZ;rw[gG hi'];rfl
  have l1:l[i]? = some (lAt l i):=by unfold lAt;rw[gG (by omega)];rfl
  have g:=h _ (yby k1)
  let Z1:Env:=[T,Ld,O,some (.int s),some (.int (i:Nat))]
  have c:(d2 zf (dv 3) (d2 zE (d2 ixD (d2 ixD (dv 0) (dv 4)) (dv 2)) (d2 ixD (dv 1) (dv 4)))) Z1=.ok (.int (s+(qjZ ks i).v*lAt l i),Z1):=qg rfl (qg (qg (qg rfl rfl (qew (by rw[gM_,k1];rfl))) rfl (qpz _)) (qg rfl rfl (qew (by rw[gM_,l1];rfl))) (qfl (qfm g.2.1.1 (by have:=g.2.1.2;omega)))) (yi _ _)
  refine⟨Z1,[T,Ld,O,some (.int (s+(qjZ ks i).v*lAt l i)),some (.int (i:Nat))],rfl,?_,_,rfl⟩
  rw[vF,c]
  rfl)
 rw[qc8 hn.symm _ (yac _),List.take_length,<-hn,List.take_length]at q
 unfold vT qbr
 refine yP rfl ⟨[T,Ld,O,some (.int (yQ ks l)),o4],?_⟩
 refine(qk (Z':=[T,Ld,O,some (.int 0),none]) rfl).trans ?_
 refine(qk (Z':=[T,Ld,O,some (.int (yQ ks l)),o4]) ?_).trans rfl
 rw[vG,uD (j:=(ks.length:Nat)) (Z1:=[T,Ld,O,some (.int 0),none]) (qah (yH (a:=.tup (ks.map kw)) rfl (by rw[zP,lM_]))) (by omega) (by omega),yaO,qon,<-hn]
 exact q
theorem qgj:∀(ks:List Kw)(F:List (List Int×Int)),F≠[]->ks.foldl (λf k=>qct k f) F≠[]
 | [],F,h=>h
 | k::ks,F,h=>by
  rw[fo_]
  refine qgj ks _ ?_
  cases F with
  |nil=>exact absurd rfl h
  |cons p F=>
   rw[qbV,ydK]
   unfold vw
   rw[List.range_succ_eq_map]
   simp
theorem qmv(a b:Int):ya1 (qX (.int a)) (qX (.int b))=decide (a=b):=rfl
theorem qgX {l:List Int} {M:Int} (h:M∈l):∃j:Nat,j<l.length/\qc0 (.lst (l.map D.int)) [.int M]=some (.int (j:Nat)):=by
 have o1:(l.map D.int).all qal=true:=by
  rw[yfq]
  exact List.all_eq_true.mpr λ_ _=>rfl
 have o2:qal (.int M)=true:=rfl
 cases e:(l.map D.int).findIdx? (λd=>ya1 (qX d) (qX (.int M))) with
 |none=>
  rw[List.findIdx?_eq_none_iff]at e
  have:=e (.int M) (mP_.mpr ⟨M,h,rfl⟩)
  rw[qmv,decide_eq_true rfl]at this
  cases this
 |some j=>
  have hj:=e
  rw[List.findIdx?_eq_some_iff_getElem]at hj
  obtain⟨h1,_,_⟩:=hj
  rw[lM_]at h1
  refine⟨j,h1,?_⟩
  unfold qc0
  simp only[o1,o2,yaF,if_true,e,ydd]
  rfl
theorem qbv {ks:List Kw} (h:∀k∈ks,qbt k) (hl:ks.length<=4) {r:Nat} (hr:r<=20):∃d,jc [.tup (ks.map kw),.int (r:Nat)]=.ok (.tup [.int (qcU ((vg ks r).map λp=>yQ ks p.1)),d,.int (((vg ks r).map λp=>yQ ks p.1).countP (·==qcU ((vg ks r).map λp=>yQ ks p.1)):Nat)]):=by
 obtain⟨e1,g⟩:=qaA h hl hr
 have hln:(vg ks r).length<=194481:=yau g.len (yau (ydg (by omega) hl) (by decide))
 have hne:vg ks r≠[]:=qgj ks _ (by simp)
 let LL:=vg ks r
 let W:=LL.map λp=>yQ ks p.1
 have hW:W≠[]:=λe=>hne (List.map_eq_nil_iff.mp e)
 have hmem:qcU W∈W:=by
  cases e:W with
  |nil=>exact absurd e hW
  |cons n ns=>exact qdp n ns
 obtain⟨j,hj,ej⟩:=qgX hmem
 have hj':j<LL.length:=by rw[lM_]at hj;exact hj
 let T:OD:=some (.tup (ks.map kw))
 let Rm:OD:=some (.int (r:Nat))
 let So:OD:=some (.lst (LL.map λp=>ldD p.1))
 have wd:(LL.map λp=>D.int (yQ ks p.1))=W.map D.int:=by
  show _=(LL.map λp=>yQ ks p.1).map D.int
  rw[mm_]
  rfl
 let Z:Env:=[T,Rm,So,some (.lst (W.map D.int))]
 have mx:qw qcI %[dv 3|0] Z=.ok (.int (qcU W),Z):=by
  refine yH rfl ?_
  rw[<-wd]
  exact qiC hne
 have ld:(LL.map λp=>ldD p.1)[j]? = some (ldD (LL[j]).1):=by rw[gM_,gG hj'];rfl
 have ix:qdr qc0 (dv 3) %[qw qcI %[dv 3|0]|0] Z=.ok (.int (j:Nat),Z):=by
  rw[qdu]
  have g3:dv 3 Z=.ok (.lst (W.map D.int),Z):=rfl
  rw[g3]
  simp only[qah mx,ej]
 have ct:qdr qcZ (dv 3) %[qw qcI %[dv 3|0]|0] Z=.ok (.int (W.countP (·==qcU W):Nat),Z):=by
  rw[qdu]
  have g3:dv 3 Z=.ok (.lst (W.map D.int),Z):=rfl
  have cc:qcZ (.lst (W.map D.int)) [.int (qcU W)]=some (.int (W.countP (·==qcU W):Nat)):=by
   unfold qcZ
   simp only[qdA,ydd]
  rw[g3]
  simp only[qah mx,cc]
 refine⟨ldD (LL[j]).1,?_⟩
 unfold jc vv
 refine yP rfl ⟨Z,?_⟩
 refine(qk (Z':=[T,Rm,So,none]) ?_).trans ?_
 ·show qN 2 _ [T,Rm,none,none]=_
  rw[vF,yI rfl rfl e1]
  rfl
 refine(qk (Z':=Z) ?_).trans ?_
 ·have c:(jJ 1 [0] none (wD (dv 2)) (qt 0) (ret true) (qj vT %[dv 1,dv 0,ret (.int 1)|0])) [T,Rm,So,none]=.ok (.lst (LL.map λp=>D.int (yQ ks p.1)),[T,Rm,So,none]):=by
   refine qkS (r:=[T]) (k:=λp:List Int×Int=>ldD p.1) LL _ rfl rfl (by show(vg ks r).length<=1000000;omega) λp hp=>?_
   exact qom rfl rfl rfl (qdF h hl (g.bd p hp).2.2)
  rw[vF,c,wd]
  rfl
 ·rw[qaO,qgR mx (qg rfl ix (qms ld)) ct]
theorem u5:RN.contains "NoNumber"=true:=by decide
theorem qap:jX [.exc "NoNumber"]=.ok (.str "number"):=by
 have f0:(("SackError":Str)=="ValueError"||va "NoNumber" "SackError")=true:=by decide
 have f1:(("ValueError":Str)=="ValueError"||va "NoNumber" "ValueError")=true:=by decide
 have f2:(("NoStore":Str)=="ValueError"||va "NoNumber" "NoStore")=false:=by decide
 have f3:(("NoNumber":Str)=="ValueError"||va "NoNumber" "NoNumber")=true:=by decide
 have f4:(("NoLoad":Str)=="ValueError"||va "NoNumber" "NoLoad")=false:=by decide
 have f5:(("TooMany":Str)=="ValueError"||va "NoNumber" "TooMany")=false:=by decide
 have f6:(("NotSingle":Str)=="ValueError"||va "NoNumber" "NotSingle")=false:=by decide
 have f7:(("NoText":Str)=="ValueError"||va "NoNumber" "NoText")=false:=by decide
 unfold jX
 refine yP rfl ⟨[some (.exc "NoNumber"),some (.lst [.bl false,.bl true,.bl false,.bl false,.bl false,.bl false])],?_⟩
 unfold uo
 refine(qk (Z':=[some (.exc "NoNumber"),none]) ?_).trans ?_
 ·push_cast [f0,f1,u5]
 refine(qk (Z':=[some (.exc "NoNumber"),some (.lst [.bl false,.bl true,.bl false,.bl false])]) ?_).trans ?_
 ·push_cast [f2,f3,f4,f5,u5,zA (show 4<=1000000 by omega)]
 refine(qk (Z':=[some (.exc "NoNumber"),some (.lst [.bl false,.bl true,.bl false,.bl false,.bl false,.bl false])]) ?_).trans ?_
 ·push_cast [f6,f7,u5,zA (show 2<=1000000 by omega),ua (xs:=[.bl false,.bl true,.bl false,.bl false]) (ys:=[.bl false,.bl false]) (by simp)]
 have c1:qeo (.lst [.bl false,.bl true,.bl false,.bl false,.bl false,.bl false]) [.bl true]=some (.int 1):=rfl
 have c2:neS (.int 1) (.int 1)=some (.bl false):=rfl
 have c3:qep (.lst [.bl false,.bl true,.bl false,.bl false,.bl false,.bl false]) [.bl true]=some (.int 1):=rfl
 have c4:ixD (.lst [.str "store",.str "number",.str "load",.str "many",.str "single",.str "text"]) (.int 1)=some (.str "number"):=rfl
 refine(qk (Z':=[some (.exc "NoNumber"),some (.lst [.bl false,.bl true,.bl false,.bl false,.bl false,.bl false])]) ?_).trans ?_
 ·push_cast [c1,c2]
 ·push_cast [c3,c4,zA (show 6<=1000000 by omega)]
theorem qae:RN.contains "TooMany"=true:=by decide
theorem qdG:jX [.exc "TooMany"]=.ok (.str "many"):=by
 have f0:(("SackError":Str)=="ValueError"||va "TooMany" "SackError")=true:=by decide
 have f1:(("ValueError":Str)=="ValueError"||va "TooMany" "ValueError")=true:=by decide
 have f2:(("NoStore":Str)=="ValueError"||va "TooMany" "NoStore")=false:=by decide
 have f3:(("NoNumber":Str)=="ValueError"||va "TooMany" "NoNumber")=false:=by decide
 have f4:(("NoLoad":Str)=="ValueError"||va "TooMany" "NoLoad")=false:=by decide
 have f5:(("TooMany":Str)=="ValueError"||va "TooMany" "TooMany")=true:=by decide
 have f6:(("NotSingle":Str)=="ValueError"||va "TooMany" "NotSingle")=false:=by decide
 have f7:(("NoText":Str)=="ValueError"||va "TooMany" "NoText")=false:=by decide
 unfold jX
 refine yP rfl ⟨[some (.exc "TooMany"),some (.lst [.bl false,.bl false,.bl false,.bl true,.bl false,.bl false])],?_⟩
 unfold uo
 refine(qk (Z':=[some (.exc "TooMany"),none]) ?_).trans ?_
 ·push_cast [f0,f1,qae]
 refine(qk (Z':=[some (.exc "TooMany"),some (.lst [.bl false,.bl false,.bl false,.bl true])]) ?_).trans ?_
 ·push_cast [f2,f3,f4,f5,qae,zA (show 4<=1000000 by omega)]
 refine(qk (Z':=[some (.exc "TooMany"),some (.lst [.bl false,.bl false,.bl false,.bl true,.bl false,.bl false])]) ?_).trans ?_
 ·push_cast [f6,f7,qae,zA (show 2<=1000000 by omega),ua (xs:=[.bl false,.bl false,.bl false,.bl true]) (ys:=[.bl false,.bl false]) (by simp)]
 have c1:qeo (.lst [.bl false,.bl false,.bl false,.bl true,.bl false,.bl false]) [.bl true]=some (.int 1):=rfl
 have c2:neS (.int 1) (.int 1)=some (.bl false):=rfl
 have c3:qep (.lst [.bl false,.bl false,.bl false,.bl true,.bl false,.bl false]) [.bl true]=some (.int 3):=rfl
 have c4:ixD (.lst [.str "store",.str "number",.str "load",.str "many",.str "single",.str "text"]) (.int 3)=some (.str "many"):=rfl
 refine(qk (Z':=[some (.exc "TooMany"),some (.lst [.bl false,.bl false,.bl false,.bl true,.bl false,.bl false])]) ?_).trans ?_
 ·push_cast [c1,c2]
 ·push_cast [c3,c4,zA (show 6<=1000000 by omega)]
theorem qov {f g:M D} {Z:Env} {d:D} (hf:f Z=.ok (.bl true,Z)) (hg:g Z=.ok (d,Z)):qd6 f g Z=.ok (d,Z):=by
 rw[qfR,hf]
 exact hg
theorem qoO {f g:M D} {Z:Env} (hf:f Z=.ok (.bl false,Z)):qd6 f g Z=.ok (.bl false,Z):=by
 rw[qfR,hf]
 rfl
theorem qq9 {t:M Bool} {f g:M D} {Z:Env} {d:D} (ht:t Z=.ok (true,Z)) (hf:f Z=.ok (d,Z)):dif t f g Z=.ok (d,Z):=by
 rw[qhW,ht]
 exact hf
theorem qra {t:M Bool} {f g:M D} {Z:Env} {d:D} (ht:t Z=.ok (false,Z)) (hg:g Z=.ok (d,Z)):dif t f g Z=.ok (d,Z):=by
 rw[qhW,ht]
 exact hg
theorem qow (n:Nat):ja (.int (n:Nat))=true:=by
 show decide ((0:Int)<=(n:Int))=true
 exact decide_eq_true (by omega)
theorem gt0 (n:Nat):gtD (.int (n:Nat)) (.int 0)=some (.bl (decide (0<n))):=by
 rw[qbh]
 congr 2
 rw[decide_eq_decide]
 omega
theorem qmw:∀(b a:Nat)(o:OD),∃n o',uw (tst (d2 gtD (dv 1) (ret (.int 0)))) (qE (qN 2 (d2 qeZ (dv 0) (dv 1))) (qE (qN 0 (dv 1)) (qN 1 (dv 2)))) n [some (.int (a:Nat)),some (.int (b:Nat)),o]=.ok (.nx [some (.int (ya9 a b:Nat)),some (.int 0),o']):=by
 intro b
 induction b using Nat.strongRecOn with
 | _ b ih=>
  intro a o
  by_cases h:0<b
  ·obtain ⟨n,o',q⟩:=ih (a%b) (Nat.mod_lt _ h) b (some (.int ((a%b:Nat):Int)))
   refine⟨n+1,o',?_⟩
   unfold uw
   have t:tst (d2 gtD (dv 1) (ret (.int 0))) [some (.int (a:Nat)),some (.int (b:Nat)),o]=.ok (true,[some (.int (a:Nat)),some (.int (b:Nat)),o]):=qO (qg rfl rfl (by rw[gt0,decide_eq_true h]))
   have s:(qE (qN 2 (d2 qeZ (dv 0) (dv 1))) (qE (qN 0 (dv 1)) (qN 1 (dv 2)))) [some (.int (a:Nat)),some (.int (b:Nat)),o]=.ok (.nx [some (.int (b:Nat)),some (.int ((a%b:Nat):Int)),some (.int ((a%b:Nat):Int))]):=by
    refine(qk (Z':=[some (.int (a:Nat)),some (.int (b:Nat)),some (.int ((a%b:Nat):Int))]) ?_).trans rfl
    rw[vF,qg rfl rfl (qge a h)]
    rfl
   simp only[t,s]
   have e:ya9 a b=ya9 b (a%b):=by
    rw[yd4 a b,Nat.gcd_rec b a,yd4]
   rw[e]
   exact q
  ·have e:b=0:=by omega
   subst e
   refine⟨1,o,?_⟩
   unfold uw
   have t:tst (d2 gtD (dv 1) (ret (.int 0))) [some (.int (a:Nat)),some (.int ((0:Nat):Int)),o]=.ok (false,[some (.int (a:Nat)),some (.int ((0:Nat):Int)),o]):=qO (qg rfl rfl (by rw[gt0];rfl))
   simp only[t]
   rw[yft]
   rfl
theorem ut (a b:Nat):zZ [.int (a:Nat),.int (b:Nat)]=.ok (.int (ya9 a b:Nat)):=by
 unfold zZ yJ
 obtain⟨n,o',q⟩:=qmw b a none
 refine yP rfl ⟨[some (.int (ya9 a b:Nat)),some (.int 0),o'],?_⟩
 exact(qk (qel q (by intro z;cases z))).trans rfl
theorem qbw (T:Nat) {B:Nat} (hB:0<B) (hb:B<big):ub [.int (T:Nat),.int (B:Nat)]=.ok (qiY T B):=by
 have hg:0<ya9 T B:=yd5 _ hB
 have hg2:ya9 T B<big:=ybw (Nat.gcd_le_right _ hB) hb
 unfold ub vq
 refine yP rfl ⟨[some (.int (T:Nat)),some (.int (B:Nat)),some (.int (ya9 T B:Nat))],?_⟩
 refine(qk (Z':=[some (.int (T:Nat)),some (.int (B:Nat)),some (.int (ya9 T B:Nat))]) ?_).trans ?_
 ·show qN 2 _ [some (.int (T:Nat)),some (.int (B:Nat)),none]=_
  rw[vF,yI rfl rfl (ut T B)]
  rfl
 ·rw[qaO,qbU (qg rfl rfl (vK T hg hg2)) (qg rfl rfl (vK B hg hg2))]
  rfl
theorem qkW:Mx<big:=by decide
theorem qrb(w g m:Nat):ixD (tK (w,g,some m)) (.int 2)=some (.int (m:Nat)):=rfl
theorem qrc {t:M Bool} {b:MS} {n:Nat} {Z Z1 Z2:Env} (h:t Z=.ok (true,Z1)) (hb:b Z1=.ok (.nx Z2)):uw t b (n+1) Z=uw t b n Z2:=by
 show(match t Z with|.ok (true,Z1)=>(match b Z1 with|.ok (.nx Z2)=>uw t b n Z2|.ok (.ct Z2)=>uw t b n Z2|.ok (.bk Z2) => .ok (.nx Z2)|.ok (.rt d Z2) => .ok (.rt d Z2)|.exc x Z2 => .exc x Z2|.bad => .bad)|.ok (false,Z1) => .ok (.nx Z1)|.exc x Z1 => .exc x Z1|.bad => .bad)=_
 simp only[h,hb]
theorem qrd {t:M Bool} {b:MS} {n:Nat} {Z Z1:Env} (h:t Z=.ok (false,Z1)):uw t b (n+1) Z=.ok (.nx Z1):=by
 show(match t Z with|.ok (true,Z1)=>(match b Z1 with|.ok (.nx Z2)=>uw t b n Z2|.ok (.ct Z2)=>uw t b n Z2|.ok (.bk Z2) => .ok (.nx Z2)|.ok (.rt d Z2) => .ok (.rt d Z2)|.exc x Z2 => .exc x Z2|.bad => .bad)|.ok (false,Z1) => .ok (.nx Z1)|.exc x Z1 => .exc x Z1|.bad => .bad)=_
 simp only[h]
theorem ne0 (n:Nat):neB (.int (n:Nat)) (.int 0)=some (.bl (!decide (n=0))):=by
 rw[qaw]
 congr 2
 rw[<-decide_not,<-decide_not,decide_eq_decide]
 omega
theorem qmx:∀(b a:Nat),∃n,uw (tst (d2 neB (dv 1) (ret (.int 0)))) (qiW 0 1 %[dv 1,d2 qeZ (dv 0) (dv 1)|0]) n [some (.int (a:Nat)),some (.int (b:Nat))]=.ok (.nx [some (.int (ya9 a b:Nat)),some (.int 0)]):=by
 intro b
 induction b using Nat.strongRecOn with
 | _ b ih=>
  intro a
  by_cases h:0<b
  ·obtain ⟨n,q⟩:=ih (a%b) (Nat.mod_lt _ h) b
   refine⟨n+1,?_⟩
   have t:tst (d2 neB (dv 1) (ret (.int 0))) [some (.int (a:Nat)),some (.int (b:Nat))]=.ok (true,[some (.int (a:Nat)),some (.int (b:Nat))]):=qO (qg rfl rfl (by rw[ne0,decide_eq_false (by omega)];rfl))
   have s:(qiW 0 1 %[dv 1,d2 qeZ (dv 0) (dv 1)|0]) [some (.int (a:Nat)),some (.int (b:Nat))]=.ok (.nx [some (.int (b:Nat)),some (.int ((a%b:Nat):Int))]):=by
    rw[qhY,qdB rfl (qg rfl rfl (qge a h))]
    rfl
   have e:ya9 a b=ya9 b (a%b):=by
    rw[yd4 a b,Nat.gcd_rec b a,yd4]
   rw[qrc t s,e]
   exact q
  ·have e:b=0:=by omega
   subst e
   refine⟨1,?_⟩
   have t:tst (d2 neB (dv 1) (ret (.int 0))) [some (.int (a:Nat)),some (.int ((0:Nat):Int))]=.ok (false,[some (.int (a:Nat)),some (.int ((0:Nat):Int))]):=qO (qg rfl rfl (by rw[ne0];rfl))
   rw[qrd t,yft]
   rfl
theorem wB (a b:Nat):yL [.int (a:Nat),.int (b:Nat)]=.ok (.int (ya9 a b:Nat)):=by
 unfold yL v8
 obtain⟨n,q⟩:=qmx b a
 refine yP rfl ⟨[some (.int (ya9 a b:Nat)),some (.int 0)],?_⟩
 exact(qk (qel q (by intro z;cases z))).trans rfl
theorem qaY (T:Nat) {B:Nat} (hB:0<B) (hb:B<big):yz [.int (T:Nat),.int (B:Nat)]=.ok (qiY T B):=by
 have hg:0<ya9 T B:=yd5 _ hB
 have hg2:ya9 T B<big:=ybw (Nat.gcd_le_right _ hB) hb
 unfold yz qbq
 refine yP rfl ⟨[some (.int (T:Nat)),some (.int (B:Nat)),some (.int (ya9 T B:Nat))],?_⟩
 refine(qk (Z':=[some (.int (T:Nat)),some (.int (B:Nat)),some (.int (ya9 T B:Nat))]) ?_).trans ?_
 ·show qN 2 _ [some (.int (T:Nat)),some (.int (B:Nat)),none]=_
  rw[vF,yI rfl rfl (wB T B)]
  rfl
 ·rw[qaO,qbU (qg rfl rfl (vK T hg hg2)) (qg rfl rfl (vK B hg hg2))]
  rfl
def smN(x:Nk):Prop:=0<x.1/\x.1<=25/\x.2.1<=39/\∀m,x.2.2=some m->m<=5
theorem qeF:∀ks:List D,(∀k∈ks,jx k)->∃ns:List Nk,ks=ns.map tK/\ns.length=ks.length/\∀x∈ns,smN x
 | [],_=>⟨[],rfl,rfl,λx hx=>by cases hx⟩
 | k :: ks,h=>by
  obtain⟨ns,e1,e2,e3⟩:=qeF ks λx hx=>h x (mM _ hx)
  obtain⟨a,b,m,rfl,h1,h2,h3,h4,hm⟩:=h k mS_
  have hm2:∃y:Option Nat,m=mD (y.map λm:Nat=>(m:Int))/\∀j,y=some j->j<=5:=by
   rcases hm with rfl|⟨j,rfl,j0,j1⟩
   ·exact⟨none,rfl,λj e=>by cases e⟩
   ·refine⟨some j.toNat,?_,λi e=>by cases e;omega⟩
    show D.int j=D.int (j.toNat:Nat)
    rw[ybq j0]
  obtain⟨y,rfl,hy⟩:=hm2
  refine⟨(a.toNat,b.toNat,y)::ns,?_,by rw[lC_,lC_,e2],λx hx=>?_⟩
  ·rw[mC_,<-e1]
   congr 1
   show D.tup [.int a,.int b,_]=D.tup [.int (a.toNat:Nat),.int (b.toNat:Nat),_]
   rw[ybq (by omega:0<=a),ybq h3]
   rfl
  ·rcases List.mem_cons.mp hx with rfl|hx
   ·exact⟨by show 0<a.toNat;omega,by show a.toNat<=25;omega,by show b.toNat<=39;omega,hy⟩
   ·exact e3 x hx
theorem qft {G:D->Env->Option Env} {b:MS} {d v:D} {ds:List D} {Z Z1 Z2:Env} (h1:G d Z=some Z1) (h2:b Z1=.ok (.rt v Z2)):yD G b (d::ds) Z=.ok (.rt v Z2):=by
 show(match G d Z with|none=>R.bad|some Z1=>_)=_
 rw[h1]
 simp only[h2]
theorem zN{t:M Bool}{Z:Env}{b:Bool}(h:t Z=.ok (b,Z)):js t Z=.ok (!b,Z):=by rw[qhV,h]
noncomputable def boB:MS:=(qE (qN 5 (d2 yO (d2 zE (d2 ixD (dv 4) (ret (.int 1))) (d2 ixD (dv 2) (ret (.int 1)))) (d2 zE (d2 ixD (dv 4) (ret (.int 0))) (d2 ixD (dv 2) (ret (.int 0)))))) (qE (sif (qeW (tst (d2 gtD (dv 5) (ret (.int 0)))) (tst (d2 isN (d2 ixD (dv 4) (ret (.int 2))) (ret .non)))) (zu (ret .non)) z9) (sif (tst (d2 gtD (dv 5) (ret (.int 0)))) (qN 3 (d2 zf (dv 3) (d2 zE (dv 5) (d2 ixD (dv 4) (ret (.int 2)))))) z9)))
noncomputable def lbB:MS:=(qE (qN 7 (d2 yO (d2 zE (dv 5) (d2 ixD (dv 2) (ret (.int 1)))) (d2 zE (dv 4) (d2 ixD (dv 2) (ret (.int 0)))))) (sif (tst (d2 gtD (dv 7) (ret (.int 0)))) (qE (sif (tst (d2 isN (dv 6) (ret .non))) (zu (ret .non)) z9) (qN 3 (d2 zf (dv 3) (d2 zE (dv 7) (dv 6))))) z9))
def qre:D->Env->Option Env:=qa3 3 (zm (qt 4) (zm (qt 5) (zm (qt 6) qa2)))
def mO(x:Nk):OD:=some (mD (x.2.2.map λm:Nat=>(m:Int)))
def wO(x:Nk):OD:=some (.int (x.1:Nat))
def gO(x:Nk):OD:=some (.int (x.2.1:Nat))
def bdD (b:Nat):Option Nat->D
 |none => .non
 |some T=>qiY T b
theorem qmy (w g t b:Nat):gtD (.int (((g*b:Nat):Int)-((w*t:Nat):Int))) (.int 0)=some (.bl (decide (w*t<g*b))):=by
 rw[qbh]
 congr 2
 apply decide_eq_decide.mpr
 omega
theorem qj0 {x:Nk} {t b:Nat} (h:x.1*t<x.2.1*b):(((x.2.1*b:Nat):Int)-((x.1*t:Nat):Int))=((qgS t b x:Nat):Int):=by
 unfold qgS
 omega
def StB(t b:Nat)(G:D->Env->Option Env)(B:MS)(E:Nat->Env->Prop)(x:Nk)(T:Nat)(Z:Env):Prop:=∃Z1,G (tK x) Z=some Z1/\(x.1*t<x.2.1*b->x.2.2=none->∃Z2,B Z1=.ok (.rt .non Z2))/\(∀m,x.1*t<x.2.1*b->x.2.2=some m->∃Z2,B Z1=.ok (.nx Z2)/\E (T+qgS t b x*m) Z2)/\(¬x.1*t<x.2.1*b->∃Z2,B Z1=.ok (.nx Z2)/\E T Z2)
theorem qfu {t b:Nat} {G:D->Env->Option Env} {B:MS} {E:Nat->Env->Prop}:∀(l:List Nk)(T:Nat)(Z:Env),(∀x∈l,∀T Z,E T Z->StB t b G B E x T Z)->E T Z ->
  (∀T',bdN t b l T=some T'->∃Z',yD G B (l.map tK) Z=.ok (.nx Z')/\E T' Z')/\(bdN t b l T=none->∃Z',yD G B (l.map tK) Z=.ok (.rt .non Z'))
 | [],T,Z,_,h=>⟨λT' e=>⟨Z,rfl,by cases (yaM (show some T=some T' from e));exact h⟩,λe=>nomatch (show some T=none from e)⟩
 | x :: l,T,Z,hs,h=>by
  obtain⟨Z1,g,s1,s2,s3⟩:=hs x mS_ T Z h
  have ih:=λT Z=>qfu l T Z λy hy=>hs y (mM _ hy)
  have go:∀T1 Z2,B Z1=.ok (.nx Z2)->E T1 Z2->bdN t b (x::l) T=bdN t b l T1->(∀T',bdN t b (x::l) T=some T'->∃Z',yD G B (tK x::l.map tK) Z=.ok (.nx Z')/\E T' Z')/\(bdN t b (x::l) T=none->∃Z',yD G B (tK x::l.map tK) Z=.ok (.rt .non Z')):=λT1 Z2 e1 e2 e3=>by
   rw[vJ g e1,e3]
   exact ih T1 Z2 e2
  rw[mC_]
  by_cases c:x.1*t<x.2.1*b
  ·cases e:x.2.2 with
   |none=>
    obtain⟨Z2,s⟩:=s1 c e
    have:bdN t b (x::l) T=none:=by unfold bdN;rw[if_pos c,e]
    rw[this]
    exact⟨(λT' h=>nomatch h),λ_=>⟨Z2,qft g s⟩⟩
   |some m=>
    obtain⟨Z2,s,h2⟩:=s2 m c e
    refine go _ Z2 s h2 ?_
    conv=>lhs;unfold bdN
    rw[if_pos c,e]
  ·obtain⟨Z2,s,h2⟩:=s3 c
   refine go _ Z2 s h2 ?_
   conv=>lhs;unfold bdN
   rw[if_neg c]
section
variable{t b:Nat}(ht:t<=Mx)(hb0:0<b)(hb:b<=Mx)
include ht hb0 hb
theorem qiD{Z:Env}{i:Nat}{x:Nk}{f g:M D}(h:Z[i]? = some (some (.int (((x.2.1*b:Nat):Int)-((x.1*t:Nat):Int))))):tst (d2 gtD (dv i) (ret (.int 0))) Z=.ok (decide (x.1*t<x.2.1*b),Z):=qO (qg (by rw[qnS,h]) rfl (qmy _ _ _ _))
theorem qkX {Z:Env} {i j T:Nat} {x:Nk} {m:Nat} {f:M D} (c:x.1*t<x.2.1*b) (hm:m<=Mx) (h:Z[i]? = some (some (.int (((x.2.1*b:Nat):Int)-((x.1*t:Nat):Int))))) (h3:dv 3 Z=.ok (.int (T:Nat),Z)) (hf:f Z=.ok (.int (m:Nat),Z)):qN 3 (d2 zf (dv 3) (d2 zE (dv i) f)) Z=.ok (.nx (Z.set 3 (nO (T+qgS t b x*m)))):=by
 rw[qj0 c]at h
 exact zW (qg h3 (qg (by rw[qnS,h]) hf (qcv _ hm)) (qq7 _ _))
def bE(S R0:OD)(t b T:Nat)(Z:Env):Prop:=∃o4 o5,Z=[S,R0,some (frD t b),nO T,o4,o5]
theorem qmz (S R0:OD) {x:Nk} (hm:∀m,x.2.2=some m->m<=Mx) (T:Nat) (Z:Env) (h:bE S R0 t b T Z):StB t b (qt 4) boB (bE S R0 t b) x T Z:=by
 obtain⟨o4,o5,rfl⟩:=h
 let M:OD:=some (.int (((x.2.1*b:Nat):Int)-((x.1*t:Nat):Int)))
 let Z0:Env:=[S,R0,some (frD t b),nO T,some (tK x),o5]
 let Z:Env:=[S,R0,some (frD t b),nO T,some (tK x),M]
 have e0:(qN 5 (d2 yO (d2 zE (d2 ixD (dv 4) (ret (.int 1))) (d2 ixD (dv 2) (ret (.int 1)))) (d2 zE (d2 ixD (dv 4) (ret (.int 0))) (d2 ixD (dv 2) (ret (.int 0)))))) Z0=.ok (.nx Z):=zW (qg (qg (qg rfl rfl (tk1 x)) (qg rfl rfl (qiz t b)) (qcv _ hb)) (qg (qg rfl rfl (tk0 x)) (qg rfl rfl (qiy t b)) (qcv _ ht)) (uE _ _))
 have eg:=qiD ht hb0 hb (Z:=Z) (i:=5) (x:=x) (f:=dv 0) (g:=dv 0) rfl
 have ei:tst (d2 isN (d2 ixD (dv 4) (ret (.int 2))) (ret .non)) Z=.ok (yp (mD (x.2.2.map λm:Nat=>(m:Int))),Z):=qO (qg (qg rfl rfl (tk2 x)) rfl (qbC _))
 refine⟨Z0,rfl,λh e=>⟨Z,?_⟩,λm h e=>?_,λh=>?_⟩
 ·rw[decide_eq_true h]at eg
  rw[e]at ei
  exact(qk e0).trans (zd ((vI (qmp eg ei)).trans rfl))
 ·rw[decide_eq_true h]at eg
  rw[e]at ei
  refine⟨_,(qk e0).trans ((qk (qaD (qmp eg ei))).trans ((vI eg).trans (qkX ht hb0 hb (Z:=Z) (j:=0) h (hm m e) rfl rfl (qg rfl rfl ?_)))),_,_,rfl⟩
  rw[tk2,e]
  rfl
 ·rw[decide_eq_false h]at eg
  exact⟨Z,(qk e0).trans ((qk (qaD (qop eg))).trans (qaD eg)),_,_,rfl⟩
theorem qdH {ks:List Nk} (hm:∀x∈ks,∀m,x.2.2=some m->m<=Mx) (r:Nat):vO [.tup (ks.map tK),.int (r:Nat),frD t b]=.ok (bdD b (bdN t b ks (r*t))):=by
 let S:OD:=some (.tup (ks.map tK))
 obtain⟨l1,l2⟩:=qfu ks (r*t) [S,nO r,some (frD t b),nO (r*t),none,none] (λx hx T Z h=>qmz ht hb0 hb S (nO r) (hm x hx) T Z h) ⟨_,_,rfl⟩
 have e0:(qN 3 (d2 zE (dv 1) (d2 ixD (dv 2) (ret (.int 0))))) [S,nO r,some (frD t b),none,none,none]=.ok (.nx [S,nO r,some (frD t b),nO (r*t),none,none]):=zW (qg rfl (qg rfl rfl (qiy t b)) (qcv _ ht))
 unfold vO
 cases c:bdN t b ks (r*t) with
 |none=>
  obtain⟨Z,q⟩:=l2 c
  refine yP rfl ⟨Z,?_⟩
  unfold qab
  exact(qk e0).trans (zd q)
 |some T=>
  obtain⟨_,q,p4,p5,rfl⟩:=l1 T c
  refine yP rfl ⟨[S,nO r,some (frD t b),nO T,p4,p5],?_⟩
  unfold qab
  exact(qk e0).trans ((qk q).trans (ye (yI rfl (qg rfl rfl (qiz t b)) (qbw T hb0 (ybw hb qkW)))))
def lE(S R0:OD)(t b T:Nat)(Z:Env):Prop:=∃o4 o5 o6 o7,Z=[S,R0,some (frD t b),nO T,o4,o5,o6,o7]
theorem qmA (S R0:OD) {x:Nk} (hm:∀m,x.2.2=some m->m<=Mx) (T:Nat) (Z:Env) (h:lE S R0 t b T Z):StB t b qre lbB (lE S R0 t b) x T Z:=by
 obtain⟨o4,o5,o6,o7,rfl⟩:=h
 let M:OD:=some (.int (((x.2.1*b:Nat):Int)-((x.1*t:Nat):Int)))
 let Z0:Env:=[S,R0,some (frD t b),nO T,wO x,gO x,mO x,o7]
 let Z:Env:=[S,R0,some (frD t b),nO T,wO x,gO x,mO x,M]
 have e0:(qN 7 (d2 yO (d2 zE (dv 5) (d2 ixD (dv 2) (ret (.int 1)))) (d2 zE (dv 4) (d2 ixD (dv 2) (ret (.int 0)))))) Z0=.ok (.nx Z):=zW (qg (qg (f:=dv 5) rfl (qg rfl rfl (qiz t b)) (qcv _ hb)) (qg (f:=dv 4) rfl (qg rfl rfl (qiy t b)) (qcv _ ht)) (uE _ _))
 have eg:=qiD ht hb0 hb (Z:=Z) (i:=7) (x:=x) (f:=dv 0) (g:=dv 0) rfl
 have ei:tst (d2 isN (dv 6) (ret .non)) Z=.ok (yp (mD (x.2.2.map λm:Nat=>(m:Int))),Z):=qO (qg rfl rfl (qbC _))
 refine⟨Z0,rfl,λh e=>⟨Z,?_⟩,λm h e=>?_,λh=>?_⟩
 ·rw[decide_eq_true h]at eg
  rw[e]at ei
  exact(qk e0).trans ((vI eg).trans (zd ((vI ei).trans rfl)))
 ·rw [decide_eq_true h]at eg
  have e6:dv 6 Z=.ok (.int (m:Nat),Z):=by
   rw[qnS,show Z[6]? = some (mO x)from rfl,mO,e]
   rfl
  rw[e]at ei
  exact⟨_,(qk e0).trans ((vI eg).trans ((qk (qaD ei)).trans (qkX ht hb0 hb (Z:=Z) (j:=0) h (hm m e) rfl rfl e6))),_,_,_,_,rfl⟩
 ·rw[decide_eq_false h]at eg
  exact⟨Z,(qk e0).trans (qaD eg),_,_,_,_,rfl⟩
theorem qaZ {ks:List Nk} (hm:∀x∈ks,∀m,x.2.2=some m->m<=Mx) (r:Nat):j4 [.tup (ks.map tK),.int (r:Nat),frD t b]=.ok (bdD b (bdN t b ks (r*t))):=by
 let S:OD:=some (.tup (ks.map tK))
 obtain⟨l1,l2⟩:=qfu ks (r*t) [S,nO r,some (frD t b),nO (r*t),none,none,none,none] (λx hx T Z h=>qmA ht hb0 hb S (nO r) (hm x hx) T Z h) ⟨_,_,_,_,rfl⟩
 have e0:(qN 3 (d2 zE (dv 1) (d2 ixD (dv 2) (ret (.int 0))))) [S,nO r,some (frD t b),none,none,none,none,none]=.ok (.nx [S,nO r,some (frD t b),nO (r*t),none,none,none,none]):=zW (qg rfl (qg rfl rfl (qiy t b)) (qcv _ ht))
 unfold j4
 cases c:bdN t b ks (r*t) with
 |none=>
  obtain⟨Z,q⟩:=l2 c
  refine yP rfl ⟨Z,?_⟩
  unfold yM
  exact(qk e0).trans (zd q)
 |some T=>
  obtain⟨_,q,p4,p5,p6,p7,rfl⟩:=l1 T c
  refine yP rfl ⟨[S,nO r,some (frD t b),nO T,p4,p5,p6,p7],?_⟩
  unfold yM
  exact(qk e0).trans ((qk q).trans (ye (yI rfl (qg rfl rfl (qiz t b)) (qaY T hb0 (ybw hb qkW)))))
end
def yo:D->Bool
 |.tup [.int t,.int b]=>decide (0<=t)&&(decide (1<=b)&&decide (ya9 t.toNat b.toNat=1))
 |_=>false
theorem qgk {ds:List D} (h:ds.length≠2):yo (.tup ds)=false:=by
 match ds,h with
 | [],_=>rfl
 | [_],_=>simp[yo]
 | [_,_],h=>exact absurd rfl h
 |_::_::_::_,_=>simp[yo]
theorem qqt {ds:List D} (h:ds.length=2):∃a b,ds=[a,b]:=by
 match ds,h with
 | [a,b],_=>exact⟨a,b,rfl⟩
theorem qj1(a b:D):ixD (.tup [a,b]) (.int 0)=some a:=rfl
theorem qg7(a b:D):ixD (.tup [a,b]) (.int 1)=some b:=rfl
theorem geI(i j:Int):geD (.int i) (.int j)=some (.bl (decide (j<=i))):=rfl
theorem eq1 (n:Nat):eqB (.int (n:Nat)) (.int 1)=some (.bl (decide (n=1))):=by
 rw[v0]
 congr 2
 apply decide_eq_decide.mpr
 omega
theorem qdI (d:D):vQ [d]=.ok (.bl (yo d)):=by
 unfold vQ qbl
 refine yP rfl ⟨[some d],?_⟩
 cases d with
 | tup ds =>
  by_cases h:ds.length=2
  ·obtain ⟨a,b,rfl⟩:=qqt h
   let Z:Env:=[some (.tup [a,b])]
   refine(qk (Z':=Z) rfl).trans ?_
   have c1:tst (qj zG %[d2 ixD (dv 0) (ret (.int 0))|0]) Z=.ok (ja a,Z):=qO (qbD (qg rfl rfl (qj1 _ _)) (zD a))
   have c2:tst (qj zG %[d2 ixD (dv 0) (ret (.int 1))|0]) Z=.ok (ja b,Z):=qO (qbD (qg rfl rfl (qg7 _ _)) (zD b))
   cases ha:ja a with
   | false=>
    rw[ha]at c1
    have hp:yo (.tup [a,b])=false:=by
     cases a with
     | int i=>cases b with
      |int j=>
       have:¬(0:Int)<=i:=λz=>by rw[show ja (.int i)=decide (0<=i)from rfl,decide_eq_true z]at ha;cases ha
       show(decide (0<=i)&&_)=false
       rw[decide_eq_false this]
       rfl
      |_=>rfl
     |_=>rfl
    rw[hp]
    exact zd ((vI (qeB (zN c1))).trans rfl)
   | true =>
    rw[ha]at c1
    cases hb:ja b with
    | false=>
     rw[hb]at c2
     have hp:yo (.tup [a,b])=false:=by
      cases a with
      | int i=>cases b with
       |int j=>
        have:¬(1:Int)<=j:=λz=>by rw[show ja (.int j)=decide (0<=j)from rfl,decide_eq_true (show(0:Int)<=j by omega)]at hb;cases hb
        show(decide (0<=i)&&(decide (1<=j)&&_))=false
        rw[decide_eq_false this,ybV,yet]
       |_=>rfl
      |_=>rfl
     rw[hp]
     have:tor (js (tst (qj zG %[d2 ixD (dv 0) (ret (.int 0))|0]))) (tor (js (tst (qj zG %[d2 ixD (dv 0) (ret (.int 1))|0]))) (tst (d2 eqB (d2 ixD (dv 0) (ret (.int 1))) (ret (.int 0))))) Z=.ok (true,Z):=by
      rw[qbL,zN c1]
      exact qeB (zN c2)
     exact zd ((vI this).trans rfl)
    | true=>
     rw[hb]at c2
     cases a with
     | int i=>cases b with
      | int j=>
       have hi:0<=i:=of_decide_eq_true ha
       have hj:0<=j:=of_decide_eq_true hb
       have c3:tst (d2 eqB (d2 ixD (dv 0) (ret (.int 1))) (ret (.int 0))) Z=.ok (decide (j=0),Z):=qO (qg (qg rfl rfl (qg7 _ _)) rfl (v0 _ _))
       by_cases hj0:j=0
       ·rw [decide_eq_true hj0]at c3
        have hp:yo (.tup [.int i,.int j])=false:=by
         show(decide (0<=i)&&(decide (1<=j)&&_))=false
         rw[decide_eq_false (show ¬(1:Int)<=j by omega),ybV,yet]
        rw[hp]
        exact zd ((vI (by rw[qbL,zN c1];show tor _ _ _=_;rw[qbL,zN c2];exact c3)).trans rfl)
       ·rw [decide_eq_false hj0]at c3
        refine(qk (Z':=Z) (qaD (qaV (zN c1) (qaV (zN c2) c3)))).trans ?_
        obtain⟨m,rfl⟩:∃m:Nat,i=(m:Int):=⟨i.toNat,by omega⟩
        obtain⟨n,rfl⟩:∃n:Nat,j=(n:Int):=⟨j.toNat,by omega⟩
        have hp:yo (.tup [.int (m:Nat),.int (n:Nat)])=decide (ya9 m n=1):=by
         show(decide (0<=(m:Int))&&(decide (1<=(n:Int))&&decide (ya9 (m:Int).toNat (n:Int).toNat=1)))=_
         rw[decide_eq_true hi,decide_eq_true (show(1:Int)<=n by omega),yaO,yaO]
         rfl
        rw[hp]
        exact ye (qg (yI (qg rfl rfl (qj1 _ _)) (qg rfl rfl (qg7 _ _)) (ut m n)) rfl (eq1 _))
      |_=>cases hb
     |_=>cases ha
  ·rw[qgk h]
   refine zd ?_
   have h3:¬((ds.length:Int)=2):=by omega
   push_cast [yF,zP,qaw,h3,decide_false,qan]
 |_=>rfl
theorem qa0 (d:D):j7 [d]=.ok (.bl (yo d)):=by
 unfold j7 j6
 refine yP rfl ⟨[some d],?_⟩
 cases d with
 | tup ds=>
  by_cases h:ds.length=2
  ·obtain ⟨a,b,rfl⟩:=qqt h
   let Z:Env:=[some (.tup [a,b])]
   have c0:tst (d2 neB (qw yh %[dv 0|0]) (ret (.int 2))) Z=.ok (false,Z):=rfl
   have ct:js (tst (qaC "tuple" (dv 0))) Z=.ok (false,Z):=rfl
   have c1:tst (qj zo %[d2 ixD (dv 0) (ret (.int 0))|0]) Z=.ok (vo a,Z):=qO (qbD (qg rfl rfl (qj1 _ _)) (u4 a))
   have c2:tst (qj zo %[d2 ixD (dv 0) (ret (.int 1))|0]) Z=.ok (vo b,Z):=qO (qbD (qg rfl rfl (qg7 _ _)) (u4 b))
   have out:yo (.tup [a,b])=false->tor (js (tst (qj zo %[d2 ixD (dv 0) (ret (.int 0))|0]))) (js (tst (qj zo %[d2 ixD (dv 0) (ret (.int 1))|0]))) Z=.ok (true,Z)->j6 Z=.ok (.rt (.bl (yo (.tup [a,b]))) Z):=λhp hh=>by
    rw[hp]
    unfold j6
    exact zd ((vI (by rw[qbL,ct];show tor _ _ _=_;rw[qbL,c0];exact hh)).trans rfl)
   cases a with
   | int i=>cases b with
    | int j=>
     refine(qk (Z':=Z) (qaD (qaV ct (qaV c0 (qaV (zN c1) (zN c2)))))).trans ?_
     have g0:d2 geD (d2 ixD (dv 0) (ret (.int 0))) (ret (.int 0)) Z=.ok (.bl (decide (0<=i)),Z):=qg (qg rfl rfl (qj1 _ _)) rfl (geI _ _)
     have g1:d2 geD (d2 ixD (dv 0) (ret (.int 1))) (ret (.int 1)) Z=.ok (.bl (decide (1<=j)),Z):=qg (qg rfl rfl (qg7 _ _)) rfl (geI _ _)
     refine ye ?_
     show _=R.ok (D.bl (decide (0<=i)&&(decide (1<=j)&&decide (ya9 i.toNat j.toNat=1))),Z)
     by_cases h0:0<=i
     ·rw [decide_eq_true h0]at g0 |-
      by_cases h1:1<=j
      ·rw[decide_eq_true h1]at g1 |-
       obtain⟨m,rfl⟩:∃m:Nat,i=(m:Int):=⟨i.toNat,by omega⟩
       obtain⟨n,rfl⟩:∃n:Nat,j=(n:Int):=⟨j.toNat,by omega⟩
       rw[yaO,yaO]
       exact qov g0 (qov g1 (qg (yI (qg rfl rfl (qj1 _ _)) (qg rfl rfl (qg7 _ _)) (wB m n)) rfl (eq1 _)))
      ·rw[decide_eq_false h1]at g1 |-
       exact qov g0 (qoO g1)
     ·rw[decide_eq_false h0]at g0 |-
      exact qoO g0
    |_=>exact out rfl (by rw[qbL,zN c1];exact zN c2)
   |_=>exact out rfl (qeB (zN c1))
  ·rw[qgk h]
   refine zd ?_
   have h3:¬((ds.length:Int)=2):=by omega
   push_cast [yF,zP,qaw,h3,decide_false,qan]
 |_=>rfl
def jK (x:Nk):Bool:=match x.2.2 with
 |none=>true
 |some m=>decide (0<m)
theorem orF {f g:M D} {Z:Env} {d:D} (hf:f Z=.ok (.bl false,Z)) (hg:g Z=.ok (d,Z)):dor f g Z=.ok (d,Z):=by
 rw[qjx,hf]
 exact hg
theorem qdJ (x:Nk):uT [tK x]=.ok (.bl (jK x)):=by
 obtain⟨w,g,m⟩:=x
 unfold uT qbm
 cases m with
 |none=>exact yP rfl ⟨[some (tK (w,g,none))],rfl⟩
 |some m=>
  have e1:d2 ixD (dv 0) (ret (.int 2)) [some (tK (w,g,some m))]=.ok (.int (m:Nat),[some (tK (w,g,some m))]):=qg rfl rfl (qrb w g m)
  have e2:d2 isN (d2 ixD (dv 0) (ret (.int 2))) (ret .non) [some (tK (w,g,some m))]=.ok (.bl false,[some (tK (w,g,some m))]):=qg e1 rfl rfl
  have e3:d2 gtD (d2 ixD (dv 0) (ret (.int 2))) (ret (.int 0)) [some (tK (w,g,some m))]=.ok (.bl (decide (0<m)),[some (tK (w,g,some m))]):=qg e1 rfl (gt0 m)
  exact yP rfl ⟨[some (tK (w,g,some m))],ye (orF e2 e3)⟩
theorem qcM (x:Nk) (m:Option Nat):v6 [tK x,mD (m.map λm:Nat=>(m:Int))]=.ok (tK (x.1,x.2.1,m)):=by
 unfold v6 qay
 exact yP rfl ⟨[some (tK x),some (mD (m.map λm:Nat=>(m:Int)))],ye (qgR (qg rfl rfl (tk0 x)) (qg rfl rfl (tk1 x)) rfl)⟩
theorem qeG {α:Type} (xs:List α) (p:Nat) (y:α) (h:p<xs.length):xs.take p++[y]++xs.drop (p+1)=xs.set p y:=by
 rw[List.set_eq_take_append_cons_drop,if_pos h,aA_]
 rfl
theorem qcN {ks:List Nk} {p:Nat} (hp:p<ks.length) (hl:ks.length<=12) (y:Nk):v5 [.tup (ks.map tK),.int (p:Nat),tK y]=.ok (.tup ((ks.set p y).map tK)):=by
 unfold v5 qax
 let Z:Env:=[some (.tup (ks.map tK)),some (.int (p:Nat)),some (tK y)]
 have l0:(ks.map tK).length=ks.length:=lM_ _
 have c1:qbK (ks.map tK) none (some ((p:Nat):Int))=(ks.map tK).take p:=qdC _ p (by omega)
 have c2:qbK (ks.map tK) (some (((p+1:Nat):Int))) none=(ks.map tK).drop (p+1):=qdD _ (p+1) (by omega)
 have a1:wS (dv 0) (ret none) (jN (dv 1)) Z=.ok (.tup ((ks.map tK).take p),Z):=by
  rw[<-c1]
  rfl
 have a2:wS (dv 0) (jN (d2 zf (dv 1) (ret (.int 1)))) (ret none) Z=.ok (.tup ((ks.map tK).drop (p+1)),Z):=by
  rw[<-c2]
  rfl
 have a3:qF %[dv 2|0] Z=.ok (.tup [tK y],Z):=by
  rw[wM,qah rfl]
  rfl
 have z1:((ks.map tK).take p).length+[tK y].length<=1000000:=by
  rw[yaT,l0]
  simp only[lC_,lN_]
  omega
 have z2:((ks.map tK).take p++[tK y]).length+((ks.map tK).drop (p+1)).length<=1000000:=by
  rw[lA_,yaT,ybF,l0]
  simp only[lC_,lN_]
  omega
 have a4:=qg (qg a1 a3 (vf z1)) a2 (vf z2)
 rw[qeG _ _ _ (by rw[l0];exact hp),<-List.map_set]at a4
 exact yP rfl ⟨Z,ye a4⟩
abbrev mxO(x:Nk):D:=mD (x.2.2.map λm:Nat=>(m:Int))
theorem qdK {x:Nk} (h0:0<x.1) (h9:x.1<big) (r:Nat):z5 [tK x,.int (r:Nat)]=.ok (.int (ofN x r:Nat)):=by
 unfold z5 uF
 let Z:Env:=[some (tK x),some (.int (r:Nat)),some (.int ((r/x.1:Nat):Int))]
 refine yP rfl ⟨Z,?_⟩
 refine(qk (Z':=Z) (zW (Z1:=[some (tK x),some (.int (r:Nat)),none]) (qg rfl (qg rfl rfl (tk0 x)) (vK r h0 h9)))).trans (ye ?_)
 have c1:tst (d2 isN (d2 ixD (dv 0) (ret (.int 2))) (ret .non)) Z=.ok (yp (mxO x),Z):=qO (qg (qg rfl rfl (tk2 x)) rfl (qbC _))
 unfold ofN
 cases e:x.2.2 with
 |none=>
  rw[show yp (mxO x)=true by unfold mxO;rw[e];rfl]at c1
  exact qq9 c1 rfl
 |some m=>
  rw[show yp (mxO x)=false by unfold mxO;rw[e];rfl]at c1
  refine qra c1 (qkU rfl (qg rfl rfl (show ixD (tK x) (.int 2)=some (.int (m:Nat)) by rw[tk2,e];rfl)) ?_)
  rw[qbT]
  congr 2
  show(if(m:Int)<((r/x.1:Nat):Int) then(m:Int) else((r/x.1:Nat):Int))=(((if m<r/x.1 then m else r/x.1):Nat):Int)
  by_cases c:m<r/x.1
  ·rw[if_pos c,if_pos (by omega)]
  ·rw[if_neg c,if_neg (by omega)]
theorem uy{t u:M Bool}{Z:Env}{b:Bool}(h1:t Z=.ok (false,Z))(h2:u Z=.ok (b,Z)):tor t u Z=.ok (b,Z):=by rw[qbL,h1];exact h2
theorem qcA {F:List D->R D} {f g h k:M D} {Z:Env} {a b c z d:D} (hf:f Z=.ok (a,Z)) (hg:g Z=.ok (b,Z)) (hh:h Z=.ok (c,Z)) (hk:k Z=.ok (z,Z)) (e:F [a,b,c,z]=.ok d):qj F %[f,g,h,k|0] Z=.ok (d,Z):=by
 have a4:qa f %[g,h,k|0] Z=.ok ([a,b,c,z],Z):=by
  rw[zg,hf]
  simp only[qfo hg hh hk]
 rw[w9,a4]
 simp only[e]
theorem qcB {T:String} {Z:Env} {d:D} {f:M D} (h:f Z=.ok (d,Z)) {b:Bool} (e:vB (tyD d) T=b):tst (qaC T f) Z=.ok (b,Z):=by
 refine qO ?_
 rw[qhU,h]
 simp only[e]
theorem qaB (a b:Nat):neB (.int (a:Nat)) (.int (b:Nat))=some (.bl (!decide (a=b))):=by
 rw[qaw]
 congr 2
 rw[ybg]
 simp only[yb8,decide_eq_false_iff_not]
 omega
theorem qfv (a b:Nat):eqB (.int (a:Nat)) (.int (b:Nat))=some (.bl (decide (a=b))):=by
 rw[v0]
 congr 2
 rw[decide_eq_decide]
 omega
theorem qpB {n:Nat} (h2:n≠2) (h3:n≠3):qkJ (.int (n:Nat)) (.tup [.int 2,.int 3])=some (.bl true):=by
 have e2:decide (((n:Nat):Int)=2)=false:=decide_eq_false (by omega)
 have e3:decide (((n:Nat):Int)=3)=false:=decide_eq_false (by omega)
 have h:qnV (.int (n:Nat)) (.tup [.int 2,.int 3])=some (.bl true):=by
  have g:(([.int 2,.int 3]:List D).any λd=>eqV (vD d) (vD (.int ((n:Nat):Int))))=false:=by
   have a2:eqV (vD (.int 2)) (vD (.int ((n:Nat):Int)))=false:=decide_eq_false (by omega)
   have a3:eqV (vD (.int 3)) (vD (.int ((n:Nat):Int)))=false:=decide_eq_false (by omega)
   simp only[ycS,List.any_nil,a2,a3,Bool.or_self]
  show some (D.bl (!(([.int 2,.int 3]:List D).any λd=>eqV (vD d) (vD (.int ((n:Nat):Int))))))=_
  rw[g]
  rfl
 unfold qkJ
 rw[h]
 rfl
def qiE (d:D) (n:Nat):Bool:=match d with
 |.int i=>decide (0<=i)&&decide (i<n)
 |_=>false
theorem qdL (d:D) (ds:List D):yZ [d,.tup ds]=.ok (.bl (qiE d ds.length)):=by
 unfold yZ qbn
 refine yP rfl ⟨[some d,some (.tup ds)],?_⟩
 cases d with
 |int i=>
  by_cases h:0<=i
  ·push_cast [zD,ja,h,qiE,ybb]
  ·push_cast [zD,ja,h,qiE,ybV]
 |_=>push_cast [zD,ja,qiE]
def noN(ks:List Nk)(p:Nat):List Nk:=ks.set p ((nAt ks p).1,(nAt ks p).2.1,some 0)
theorem qeH {ks:List Nk} {p:Nat} (hp:p<ks.length) (hl:ks.length<=12):vR [.tup (ks.map tK),.int (p:Nat)]=.ok (.tup ((noN ks p).map tK)):=by
 unfold vR qcx
 exact yP rfl ⟨_,ye (qc5 rfl rfl (yI (qg rfl rfl (qfq hp)) rfl (qcM (nAt ks p) (some 0))) (qcN hp hl _))⟩
theorem vU {ks:List Nk} {p:Nat} (hp:p<ks.length) (hl:ks.length<=12):zB [.tup (ks.map tK),.int (p:Nat)]=.ok (.tup ((noN ks p).map tK)):=by
 unfold zB vt
 let Z:Env:=[some (.tup (ks.map tK)),some (.int (p:Nat))]
 have l0:(ks.map tK).length=ks.length:=lM_ _
 have c1:qbK (ks.map tK) none (some ((p:Nat):Int))=(ks.map tK).take p:=qdC _ p (by omega)
 have c2:qbK (ks.map tK) (some (((p+1:Nat):Int))) none=(ks.map tK).drop (p+1):=qdD _ (p+1) (by omega)
 have a1:wS (dv 0) (ret none) (jN (dv 1)) Z=.ok (.tup ((ks.map tK).take p),Z):=by
  rw[<-c1]
  rfl
 have a2:wS (dv 0) (jN (d2 zf (dv 1) (ret (.int 1)))) (ret none) Z=.ok (.tup ((ks.map tK).drop (p+1)),Z):=by
  rw[<-c2]
  rfl
 have i1:d2 ixD (dv 0) (dv 1) Z=.ok (tK (nAt ks p),Z):=qg rfl rfl (qfq hp)
 have a3:qF %[d2 ixD (d2 ixD (dv 0) (dv 1)) (ret (.int 0)),d2 ixD (d2 ixD (dv 0) (dv 1)) (ret (.int 1)),ret (.int 0)|0] Z=.ok (tK ((nAt ks p).1,(nAt ks p).2.1,some 0),Z):=qgR (qg i1 rfl (tk0 _)) (qg i1 rfl (tk1 _)) rfl
 have a4:qF %[qF %[d2 ixD (d2 ixD (dv 0) (dv 1)) (ret (.int 0)),d2 ixD (d2 ixD (dv 0) (dv 1)) (ret (.int 1)),ret (.int 0)|0]|0] Z=.ok (.tup [tK ((nAt ks p).1,(nAt ks p).2.1,some 0)],Z):=by
  rw[wM,qah a3]
  simp only[lC_,lN_,yaV,zA (show 1<=1000000 by omega),if_true]
 refine yP rfl ⟨Z,ye (qg (qg a1 a4 (vf (by simp only[yaT,yaJ,l0];omega))) a2 ?_)⟩
 rw[vf (by simp only[lA_,yaT,ybF,yaJ,l0];omega),qeG _ _ _ (by omega),<-List.map_set]
 rfl
theorem wY {x:Nk} (h0:0<x.1) (h9:x.1<big) (r:Nat):z6 [tK x,.int (r:Nat)]=.ok (.int (ofN x r:Nat)):=by
 unfold z6 wW
 let Z:Env:=[some (tK x),some (.int (r:Nat)),some (.int ((r/x.1:Nat):Int))]
 have s0:(qN 2 (d2 vA (dv 1) (d2 ixD (dv 0) (ret (.int 0))))) [some (tK x),some (.int (r:Nat)),none]=.ok (.nx Z):=zW (Z1:=[some (tK x),some (.int (r:Nat)),none]) (qg rfl (qg rfl rfl (tk0 x)) (vK r h0 h9))
 have c1:tst (d2 isN (d2 ixD (dv 0) (ret (.int 2))) (ret .non)) Z=.ok (yp (mxO x),Z):=qO (qg (qg rfl rfl (tk2 x)) rfl (qbC _))
 unfold ofN
 cases e:x.2.2 with
 |none=>
  rw[show yp (mxO x)=true by unfold mxO;rw[e];rfl]at c1
  exact yP rfl ⟨Z,(qk s0).trans (zd ((vI c1).trans rfl))⟩
 |some m=>
  rw[show yp (mxO x)=false by unfold mxO;rw[e];rfl]at c1
  refine yP rfl ⟨Z,(qk s0).trans ((qk (Z':=Z) (qaD c1)).trans (ye (qkU rfl (qg rfl rfl (show ixD (tK x) (.int 2)=some (.int (m:Nat)) by rw[tk2,e];rfl)) ?_)))⟩
  rw[qbT]
  congr 2
  show(if(m:Int)<((r/x.1:Nat):Int) then(m:Int) else((r/x.1:Nat):Int))=(((if m<r/x.1 then m else r/x.1):Nat):Int)
  by_cases c:m<r/x.1
  ·rw[if_pos c,if_pos (by omega)]
  ·rw[if_neg c,if_neg (by omega)]
def scal:D->Bool
 |.str _=>true
 |.int _=>true
 |_=>false
def qpC(b:D):Prop:=∀t u:Int,b=.tup [.int t,.int u]->t<=1000000/\u<=1000000
inductive Th:D->Prop
 |other {t:D} (h:vB (tyD t) "tuple"=false):Th t
 |len {xs:List D} (h2:xs.length≠2) (h3:xs.length≠3):Th (.tup xs)
 |two {a b:D} (ha:scal a=true) (hb:qpC b):Th (.tup [a,b])
 |thr {a b c:D} (ha:scal a=true) (hl:∀ys,c=.tup ys->ys.length<=1000) (hc:∀ys,c=.tup ys->∀y∈ys,Th y):Th (.tup [a,b,c])
theorem qiF {a:D} (h:scal a=true) (s:Str):∃b,neB a (.str s)=some (.bl b)/\(b=false->a=.str s)/\(a=.str s->b=false):=by
 cases a with
 | str x=>
  refine⟨!decide (x=s),rfl,λe=>?_,λe=>?_⟩
  ·have:x=s:=by simpa using e
   rw[this]
  ·cases e
   simp
 |int n=>exact⟨true,rfl,(λe=>by cases e),(λe=>by cases e)⟩
 |_=>cases h
section
variable{ks:List Nk}(hk:∀x∈ks,smN x)(r:Nat){u:Int}
include hk
theorem qiG(t c T:Nat)(hc:0<c)(hcb:c<=1000000){Z:Env}{i j:Nat}(h1:dv i Z=.ok (qiY T c,Z))(h2:dv j Z=.ok (.int u,Z)):d2 ltD (d2 ixD (dv i) (ret (.int 0))) (d2 zE (dv j) (d2 ixD (dv i) (ret (.int 1)))) Z=.ok (.bl (decide (((qjW T c:Nat):Int)<u*((qjX T c:Nat):Int))),Z):=qg (qg h1 rfl (qiy _ _)) (qg h2 (qg h1 rfl (qiz _ _)) (qjT (qmo (yau (yau (yek _ _) hcb) (by omega))))) (qdw _ _)
theorem qgY {a b:D} (ha:scal a=true) (hb:qpC b) (R1 R2:List D->R D):∃v,zT [.tup [a,b],.tup (ks.map tK),.int (r:Nat),.int u]=.ok (.bl v)/\dfn 11 4 (qV R2) [.tup [a,b],.tup (ks.map tK),.int (r:Nat),.int u]=.ok (.bl v):=by
 let T:OD:=some (.tup [a,b])
 let K:OD:=some (.tup (ks.map tK))
 let Rm:OD:=some (.int (r:Nat))
 let U:OD:=some (.int u)
 let Z:Env:=[T,K,Rm,U,none]
 let Zl:Env:=[T,K,Rm,U,none,none,none,none,none,none,none]
 have hm:∀x∈ks,∀m,x.2.2=some m->m<=Mx:=λx hx m e=>by have:=(hk x hx).2.2.2 m e;have:Mx=18000000000000000000:=rfl;omega
 have l2:∀Z:Env,dv 0 Z=.ok (.tup [a,b],Z)->qw yh %[dv 0|0] Z=.ok (.int ((2:Nat):Int),Z):=λZ h=>yH h (zP _)
 have p0:tst (d2 neB (qw yh %[dv 0|0]) (ret (.int 2))) Z=.ok (false,Z):=qO (qg (l2 Z rfl) rfl (qaB 2 2))
 obtain⟨bn,en,en1,en2⟩:=qiF ha "price"
 have p1:tst (d2 neB (d2 ixD (dv 0) (ret (.int 0))) (ret (.str "price"))) Z=.ok (bn,Z):=qO (qg (qg rfl rfl (qj1 a b)) rfl en)
 have p2:js (tst (qj vQ %[d2 ixD (dv 0) (ret (.int 1))|0])) Z=.ok (!yo b,Z):=zN (qO (qbD (qg rfl rfl (qg7 a b)) (qdI b)))
 have q0:js (tst (qaC "tuple" (dv 0))) Zl=.ok (false,Zl):=zN (qcB (d:=.tup [a,b]) rfl (yF _))
 have q1:tst (d2 qkJ (qw yh %[dv 0|0]) (qF %[ret (.int 2),ret (.int 3)|0])) Zl=.ok (false,Zl):=qO (qg (l2 Zl rfl) (qbU rfl rfl) rfl)
 have q3:tst (d2 eqB (qw yh %[dv 0|0]) (ret (.int 2))) Zl=.ok (true,Zl):=qO (qg (l2 Zl rfl) rfl (qfv 2 2))
 have q4:tst (d2 neB (d2 ixD (dv 0) (ret (.int 0))) (ret (.str "price"))) Zl=.ok (bn,Zl):=qO (qg (qg rfl rfl (qj1 a b)) rfl en)
 have q5:js (tst (qj j7 %[d2 ixD (dv 0) (ret (.int 1))|0])) Zl=.ok (!yo b,Zl):=zN (qO (qbD (qg rfl rfl (qg7 a b)) (qa0 b)))
 have q2:∀c:Bool,vB (tyD a) "str"=c->js (tst (qaC "str" (d2 ixD (dv 0) (ret (.int 0))))) Zl=.ok (!c,Zl):=λc e=>zN (qcB (d:=a) (qg rfl rfl (qj1 a b)) e)
 unfold zT jG qV
 cases hbn:bn with
 |true=>
  rw[hbn]at p1 q4
  refine⟨false,yP rfl ⟨Z,zd ((vI (uy p0 (qeB p1))).trans rfl)⟩,?_⟩
  cases hs:vB (tyD a) "str" with
  |false=>exact yP rfl ⟨Zl,zd ((vI (uy q0 (uy q1 (q2 false hs)))).trans rfl)⟩
  |true=>exact yP rfl ⟨Zl,(qk (Z':=Zl) (qaD (qaV q0 (qaV q1 (q2 true hs))))).trans (zd ((vI q3).trans (zd ((vI (qeB q4)).trans rfl))))⟩
 | false=>
  rw[hbn]at p1 q4
  have ea:a=.str "price":=en1 hbn
  have hs:vB (tyD a) "str"=true:=by rw[ea];rfl
  cases hp:yo b with
  |false=>
   rw[hp]at p2 q5
   exact⟨false,yP rfl ⟨Z,zd ((vI (uy p0 (uy p1 p2))).trans rfl)⟩,yP rfl ⟨Zl,(qk (Z':=Zl) (qaD (qaV q0 (qaV q1 (q2 true hs))))).trans (zd ((vI q3).trans (zd ((vI (uy q4 q5)).trans rfl))))⟩⟩
  | true=>
   rw[hp]at p2 q5
   obtain ⟨t,c,rfl,hc⟩:∃t c:Nat,b=frD t c/\0<c:=by
    unfold yo at hp
    split at hp
    ·rename_i t c
     rw[yal,yal,decide_eq_true_eq,decide_eq_true_eq]at hp
     refine⟨t.toNat,c.toNat,?_,by omega⟩
     show D.tup [.int t,.int c]=D.tup [.int (t.toNat:Nat),.int (c.toNat:Nat)]
     rw[ybq hp.1,ybq (by omega)]
    ·cases hp
   obtain⟨h1,h2⟩:=hb t c rfl
   have hM:Mx=18000000000000000000:=rfl
   have eb:=qdH (t:=t) (b:=c) (by omega) hc (by omega) hm r
   have el:=qaZ (t:=t) (b:=c) (by omega) hc (by omega) hm r
   let Bd:=bdD c (bdN t c ks (r*t))
   let Z2:Env:=[T,K,Rm,U,some Bd]
   let Zl2:Env:=[T,K,Rm,U,some Bd,none,none,none,none,none,none]
   have s1:(qN 4 (qj vO %[dv 1,dv 2,d2 ixD (dv 0) (ret (.int 1))|0])) Z=.ok (.nx Z2):=zW (qc5 rfl rfl (qg rfl rfl (qg7 _ _)) eb)
   have s2:(qN 4 (qj j4 %[dv 1,dv 2,d2 ixD (dv 0) (ret (.int 1))|0])) Zl=.ok (.nx Zl2):=zW (qc5 rfl rfl (qg rfl rfl (qg7 _ _)) el)
   have r1:∀v,qd6 (d2 qeO (dv 4) (ret .non)) (qj wT %[dv 4,dv 3|0]) Z2=.ok (.bl v,Z2)->dfn 5 4 jG [.tup [a,frD t c],.tup (ks.map tK),.int (r:Nat),.int u]=.ok (.bl v):=λv e=>by
    unfold jG
    exact yP rfl ⟨Z2,(qk (Z':=Z) (qaD (qaV p0 (qaV p1 p2)))).trans ((qk s1).trans (ye e))⟩
   have r2:∀v,qd6 (d2 qeO (dv 4) (ret .non)) (d2 ltD (d2 ixD (dv 4) (ret (.int 0))) (d2 zE (dv 3) (d2 ixD (dv 4) (ret (.int 1))))) Zl2=.ok (.bl v,Zl2)->dfn 11 4 (qV R2) [.tup [a,frD t c],.tup (ks.map tK),.int (r:Nat),.int u]=.ok (.bl v):=λv e=>by
    unfold qV
    exact yP rfl ⟨Zl2,(qk (Z':=Zl) (qaD (qaV q0 (qaV q1 (q2 true hs))))).trans (zd ((vI q3).trans ((qk (Z':=Zl) (qaD (qaV q4 q5))).trans ((qk s2).trans (ye e)))))⟩
   cases hbd:bdN t c ks (r*t) with
   |none=>
    have e4:∀Z:Env,dv 4 Z=.ok (.non,Z)->d2 qeO (dv 4) (ret .non) Z=.ok (.bl false,Z):=λZ h=>qg h rfl rfl
    have z1:dv 4 Z2=.ok (.non,Z2):=by show R.ok (bdD c (bdN t c ks (r*t)),Z2)=_;rw[hbd];rfl
    have z2:dv 4 Zl2=.ok (.non,Zl2):=by show R.ok (bdD c (bdN t c ks (r*t)),Zl2)=_;rw[hbd];rfl
    exact⟨false,r1 false (qoO (e4 Z2 z1)),r2 false (qoO (e4 Zl2 z2))⟩
   | some X=>
    have z1:dv 4 Z2=.ok (qiY X c,Z2):=by show R.ok (bdD c (bdN t c ks (r*t)),Z2)=_;rw[hbd];rfl
    have z2:dv 4 Zl2=.ok (qiY X c,Zl2):=by show R.ok (bdD c (bdN t c ks (r*t)),Zl2)=_;rw[hbd];rfl
    have n1:d2 qeO (dv 4) (ret .non) Z2=.ok (.bl true,Z2):=qg z1 rfl rfl
    have n2:d2 qeO (dv 4) (ret .non) Zl2=.ok (.bl true,Zl2):=qg z2 rfl rfl
    have el:wT [qiY X c,.int u]=.ok (.bl (decide (((qjW X c:Nat):Int)<u*((qjX X c:Nat):Int)))):=by
     unfold wT qcw
     exact yP rfl ⟨_,ye (qiG hk t c X hc (by omega) (Z:=[some (qiY X c),some (.int u)]) (i:=0) (j:=1) rfl rfl)⟩
    exact⟨_,r1 _ (qov n1 (yI z1 rfl el)),r2 _ (qov n2 (qiG hk t c X hc (by omega) z2 rfl))⟩
end
theorem qpD(a b c:D):ixD (.tup [a,b,c]) (.int 0)=some a:=rfl
theorem qpE(a b c:D):ixD (.tup [a,b,c]) (.int 1)=some b:=rfl
theorem qpF(a b c:D):ixD (.tup [a,b,c]) (.int 2)=some c:=rfl
theorem qj2 (x:Nk):eqB (mD (x.2.2.map λm:Nat=>(m:Int))) (.int 0)=some (.bl (!jK x)):=by
 obtain⟨w,g,m⟩:=x
 cases m with
 |none=>rfl
 |some m=>
  show eqB (.int (m:Nat)) (.int ((0:Nat):Int))=some (.bl (!decide (0<m)))
  rw[qfv]
  congr 2
  rw[ybg]
  simp only[decide_eq_true_eq,yb8,decide_eq_false_iff_not]
  omega
theorem qgl {b:D} {n:Nat} (hw:vo b=true) {Z:Env} {i:Nat} {f:M D} (h1:dv i Z=.ok (b,Z)) (h2:f Z=.ok (.int (n:Nat),Z)):wA leD ltD (ret (.int 0)) (dv i) f Z=.ok (.bl (qiE b n),Z):=by
 cases b with
 | int k=>
  show _=R.ok (D.bl (decide (0<=k)&&decide (k<((n:Nat):Int))),Z)
  by_cases c:0<=k
  ·rw[decide_eq_true c,ybb]
   exact qjR rfl h1 (show leD (.int 0) (.int k)=some (.bl true) by rw[qdx,decide_eq_true c]) h2 (qdw _ _)
  ·rw[decide_eq_false c,ybV]
   exact qin rfl h1 (show leD (.int 0) (.int k)=some (.bl false) by rw[qdx,decide_eq_false c])
 |_=>cases hw
section
variable{ks:List Nk}(hk:∀x∈ks,smN x)(hl:ks.length<=12){r:Nat}(hr:r<=200){u:Int}(R_cuts_off R__law_is_cut:List D->R D)
include hk hl hr
theorem qgZ {p:Nat} (hp:p<ks.length) {ys:List D} (hy:ys.length=ofN (nAt ks p) r+1) (g:Nat->Bool) (h1:∀k (h:k<ys.length),R_cuts_off [ys[k],.tup ((noN ks p).map tK),.int ((r-k*(nAt ks p).1:Nat):Int),.int (u-((k*(nAt ks p).2.1:Nat):Int))]=.ok (.bl (g k)))
  (h2:∀k (h:k<ys.length),R__law_is_cut [ys[k],.tup ((noN ks p).map tK),.int ((r-k*(nAt ks p).1:Nat):Int),.int (u-((k*(nAt ks p).2.1:Nat):Int))]=.ok (.bl (g k))) (T K o8 o4 o5 W P:OD) :
  (∃Z',yD (qa3 2 (zm (qt 6) (zm (qt 7) qa2))) (sif (js (tst (qj R_cuts_off %[dv 7,dv 5,d2 yO (dv 2) (d2 zE (dv 6) (d2 ixD (dv 4) (ret (.int 0)))),d2 yO (dv 3) (d2 zE (dv 6) (d2 ixD (dv 4) (ret (.int 1))))|0]))) (zu (ret (.bl false))) z9) (qag 0 ys) [T,K,some (.int (r:Nat)),some (.int u),some (tK (nAt ks p)),some (.tup ((noN ks p).map tK)),none,none]=(bif (yay ys.length).all g then .ok (.nx Z')else .ok (.rt (.bl false) Z'))) /\
  (∃Z',yD (qt 10) (sif (js (tst (qj R__law_is_cut %[d2 ixD (dv 7) (dv 10),dv 9,d2 yO (dv 2) (d2 zE (dv 10) (d2 ixD (dv 8) (ret (.int 0)))),d2 yO (dv 3) (d2 zE (dv 10) (d2 ixD (dv 8) (ret (.int 1))))|0]))) (zu (ret (.bl false))) z9) ((yay ys.length).map λi:Nat=>D.int (i:Nat)) [T,K,some (.int (r:Nat)),some (.int u),o4,W,P,some (.tup ys),some (tK (nAt ks p)),some (.tup ((noN ks p).map tK)),none]=(bif (yay ys.length).all g then .ok (.nx Z')else .ok (.rt (.bl false) Z'))):=by
 have sx:=hk _ (qbi hp)
 have hM:Mx=18000000000000000000:=rfl
 have room:∀k,k<ys.length->yO (.int (r:Nat)) (.int ((k*(nAt ks p).1:Nat):Int))=some (.int ((r-k*(nAt ks p).1:Nat):Int)):=λk h=>by
  have:=((qc6 (r:=r) (t:=k) sx.1).mp (by omega)).1
  rw[uE]
  congr 2
  omega
 have k200:∀k,k<ys.length->k<=1000:=λk h=>by
  have:=((qc6 (r:=r) (t:=k) sx.1).mp (by omega)).1
  have h1:k*1<=k*(nAt ks p).1:=yb1 _ sx.1
  omega
 constructor
 ·let Z (o6 o7:OD):Env:=[T,K,some (.int (r:Nat)),some (.int u),some (tK (nAt ks p)),some (.tup ((noN ks p).map tK)),o6,o7]
  have main:∀(m i:Nat)(o6 o7:OD),m=ys.length-i->i<=ys.length->∃Z',yD (qa3 2 (zm (qt 6) (zm (qt 7) qa2))) (sif (js (tst (qj R_cuts_off %[dv 7,dv 5,d2 yO (dv 2) (d2 zE (dv 6) (d2 ixD (dv 4) (ret (.int 0)))),d2 yO (dv 3) (d2 zE (dv 6) (d2 ixD (dv 4) (ret (.int 1))))|0]))) (zu (ret (.bl false))) z9) (qag i (ys.drop i)) (Z o6 o7)=(bif (List.range' i m).all g then .ok (.nx Z')else .ok (.rt (.bl false) Z')):=λm=>by
   induction m with
   |zero=>
    intro i o6 o7 hm hi
    have:ys.drop i=[]:=List.drop_eq_nil_of_le (by omega)
    rw[this]
    exact⟨_,rfl⟩
   | succ m ih=>
    intro i o6 o7 hm hi
    have hlt:i<ys.length:=by omega
    rw[ydO hlt]
    have eg:qa3 2 (zm (qt 6) (zm (qt 7) qa2)) (.tup [.int (i:Nat),ys[i]]) (Z o6 o7)=some (Z (some (.int (i:Nat))) (some ys[i])):=rfl
    have c:js (tst (qj R_cuts_off %[dv 7,dv 5,d2 yO (dv 2) (d2 zE (dv 6) (d2 ixD (dv 4) (ret (.int 0)))),d2 yO (dv 3) (d2 zE (dv 6) (d2 ixD (dv 4) (ret (.int 1))))|0])) (Z (some (.int (i:Nat))) (some ys[i]))=.ok (!g i,Z (some (.int (i:Nat))) (some ys[i])):=zN (qO (qcA rfl rfl (qg rfl (qg rfl (qg rfl rfl (tk0 _)) (qbE _ (by have:=k200 i hlt;omega))) (room i hlt)) (qg rfl (qg rfl (qg rfl rfl (tk1 _)) (qbE _ (by have:=k200 i hlt;omega))) (uE _ _)) (h1 i hlt)))
    have ee:qag i (ys[i]::ys.drop (i+1))=.tup [.int (i:Nat),ys[i]]::qag (i+1) (ys.drop (i+1)):=rfl
    rw[ee,List.range'_succ,yci]
    cases hg:g i with
    |true=>
     rw[hg]at c
     obtain⟨Z',q⟩:=ih (i+1) (some (.int (i:Nat))) (some ys[i]) (by omega) (by omega)
     refine⟨Z',?_⟩
     rw[vJ eg ((qaD c).trans rfl),q,ybb]
    |false=>
     rw[hg]at c
     exact⟨_,qft eg ((vI c).trans rfl)⟩
  obtain⟨Z',q⟩:=main ys.length 0 none none (by omega) (yaD _)
  rw[<-List.range_eq_range']at q
  exact⟨Z',q⟩
 ·let Z (o:OD):Env:=[T,K,some (.int (r:Nat)),some (.int u),o4,W,P,some (.tup ys),some (tK (nAt ks p)),some (.tup ((noN ks p).map tK)),o]
  have main:∀(is:List Nat)(o:OD),(∀i∈is,i<ys.length)->∃Z',yD (qt 10) (sif (js (tst (qj R__law_is_cut %[d2 ixD (dv 7) (dv 10),dv 9,d2 yO (dv 2) (d2 zE (dv 10) (d2 ixD (dv 8) (ret (.int 0)))),d2 yO (dv 3) (d2 zE (dv 10) (d2 ixD (dv 8) (ret (.int 1))))|0]))) (zu (ret (.bl false))) z9) (is.map λi:Nat=>D.int (i:Nat)) (Z o)=(bif is.all g then .ok (.nx Z')else .ok (.rt (.bl false) Z')):=λis=>by
   induction is with
   |nil=>intro o _;exact⟨_,rfl⟩
   | cons i is ih=>
    intro o hi
    have hlt:=hi i mS_
    have c:js (tst (qj R__law_is_cut %[d2 ixD (dv 7) (dv 10),dv 9,d2 yO (dv 2) (d2 zE (dv 10) (d2 ixD (dv 8) (ret (.int 0)))),d2 yO (dv 3) (d2 zE (dv 10) (d2 ixD (dv 8) (ret (.int 1))))|0])) (Z (some (.int (i:Nat))))=.ok (!g i,Z (some (.int (i:Nat)))):=zN (qO (qcA (qg rfl rfl (qew (gG hlt))) rfl (qg rfl (qg rfl (qg rfl rfl (tk0 _)) (qbE _ (by have:=k200 i hlt;omega))) (room i hlt)) (qg rfl (qg rfl (qg rfl rfl (tk1 _)) (qbE _ (by have:=k200 i hlt;omega))) (uE _ _)) (h2 i hlt)))
    have eg:qt 10 (.int (i:Nat)) (Z o)=some (Z (some (.int (i:Nat)))):=rfl
    rw[mC_,yci]
    cases hg:g i with
    |true=>
     rw[hg]at c
     obtain⟨Z',q⟩:=ih (some (.int (i:Nat))) λx hx=>hi x (mM _ hx)
     refine⟨Z',?_⟩
     rw[vJ eg ((qaD c).trans rfl),q,ybb]
    |false=>
     rw[hg]at c
     exact⟨_,qft eg ((vI c).trans rfl)⟩
  obtain⟨Z',q⟩:=main (yay ys.length) none λi hi=>mR_.mp hi
  exact⟨Z',q⟩
theorem qiH {a b c:D} (ha:scal a=true) (hys:∀ys,c=.tup ys->ys.length<=1000) (ih:∀p,p<ks.length->jK (nAt ks p)=true->∀ys,c=.tup ys->∀k,k<=ofN (nAt ks p) r->∀(h:k<ys.length),∃v,R_cuts_off [ys[k],.tup ((noN ks p).map tK),.int ((r-k*(nAt ks p).1:Nat):Int),.int (u-((k*(nAt ks p).2.1:Nat):Int))]=.ok (.bl v)/\R__law_is_cut [ys[k],.tup ((noN ks p).map tK),.int ((r-k*(nAt ks p).1:Nat):Int),.int (u-((k*(nAt ks p).2.1:Nat):Int))]=.ok (.bl v)) :
  ∃v,zQ R_cuts_off [.tup [a,b,c],.tup (ks.map tK),.int (r:Nat),.int u]=.ok (.bl v)/\dfn 11 4 (qV R__law_is_cut) [.tup [a,b,c],.tup (ks.map tK),.int (r:Nat),.int u]=.ok (.bl v):=by
 let T:OD:=some (.tup [a,b,c])
 let K:OD:=some (.tup (ks.map tK))
 let Rm:OD:=some (.int (r:Nat))
 let U:OD:=some (.int u)
 let Z:Env:=[T,K,Rm,U,none,none,none,none]
 let Zl:Env:=[T,K,Rm,U,none,none,none,none,none,none,none]
 let Zm:Env:=[T,K,Rm,U,none,some a,some b,some c,none,none,none]
 have l3:∀Z:Env,dv 0 Z=.ok (.tup [a,b,c],Z)->qw yh %[dv 0|0] Z=.ok (.int ((3:Nat):Int),Z):=λZ h=>yH h (zP _)
 have lk:∀Z:Env,dv 1 Z=.ok (.tup (ks.map tK),Z)->qw yh %[dv 1|0] Z=.ok (.int (ks.length:Nat),Z):=λZ h=>yH h (by rw[zP,lM_])
 have p0:tst (d2 neB (qw yh %[dv 0|0]) (ret (.int 3))) Z=.ok (false,Z):=qO (qg (l3 Z rfl) rfl (qaB 3 3))
 obtain⟨bn,en,en1,en2⟩:=qiF ha "kind"
 have p1:tst (d2 neB (d2 ixD (dv 0) (ret (.int 0))) (ret (.str "kind"))) Z=.ok (bn,Z):=qO (qg (qg rfl rfl (qpD a b c)) rfl en)
 have ipl:yZ [b,.tup (ks.map tK)]=.ok (.bl (qiE b ks.length)):=by rw[qdL,lM_]
 have p2:js (tst (qj yZ %[d2 ixD (dv 0) (ret (.int 1)),dv 1|0])) Z=.ok (!qiE b ks.length,Z):=zN (qO (yI (qg rfl rfl (qpE a b c)) rfl ipl))
 have p3:js (tst (qaC "tuple" (d2 ixD (dv 0) (ret (.int 2))))) Z=.ok (!vB (tyD c) "tuple",Z):=zN (qcB (d:=c) (qg rfl rfl (qpF a b c)) rfl)
 have q0:js (tst (qaC "tuple" (dv 0))) Zl=.ok (false,Zl):=zN (qcB (d:=.tup [a,b,c]) rfl (yF _))
 have q1:tst (d2 qkJ (qw yh %[dv 0|0]) (qF %[ret (.int 2),ret (.int 3)|0])) Zl=.ok (false,Zl):=qO (qg (l3 Zl rfl) (qbU rfl rfl) rfl)
 have q2:∀z:Bool,vB (tyD a) "str"=z->js (tst (qaC "str" (d2 ixD (dv 0) (ret (.int 0))))) Zl=.ok (!z,Zl):=λz e=>zN (qcB (d:=a) (qg rfl rfl (qpD a b c)) e)
 have q3:tst (d2 eqB (qw yh %[dv 0|0]) (ret (.int 2))) Zl=.ok (false,Zl):=qO (qg (l3 Zl rfl) rfl (qfv 3 2))
 have s3:(qiV (dv 0) (qa3 3 (zm (qt 5) (zm (qt 6) (zm (qt 7) qa2))))) Zl=.ok (.nx Zm):=rfl
 have q4:tst (d2 neB (dv 5) (ret (.str "kind"))) Zm=.ok (bn,Zm):=qO (qg rfl rfl en)
 have q5:js (tst (qj zo %[dv 6|0])) Zm=.ok (!vo b,Zm):=zN (qO (qbD rfl (u4 b)))
 have lawTo:∀v,vB (tyD a) "str"=true->(∃Z',(qE (sif (tor (tst (d2 neB (dv 5) (ret (.str "kind")))) (tor (js (tst (qj zo %[dv 6|0]))) (tor (js (tst (wA leD ltD (ret (.int 0)) (dv 6) (qw yh %[dv 1|0])))) (tst (d2 eqB (d2 ixD (d2 ixD (dv 1) (dv 6)) (ret (.int 2))) (ret (.int 0))))))) (zu (ret (.bl false))) z9) (qE (qN 8 (d2 ixD (dv 1) (dv 6))) (qE (sif (tor (js (tst (qaC "tuple" (dv 7)))) (tst (d2 neB (qw yh %[dv 7|0]) (d2 zf (qj z6 %[dv 8,dv 2|0]) (ret (.int 1)))))) (zu (ret (.bl false))) z9) (qE (qN 9 (qj zB %[dv 1,dv 6|0])) (qE (qak (jO %[qw yh %[dv 7|0]|0]) (qt 10) (sif (js (tst (qj R__law_is_cut %[d2 ixD (dv 7) (dv 10),dv 9,d2 yO (dv 2) (d2 zE (dv 10) (d2 ixD (dv 8) (ret (.int 0)))),d2 yO (dv 3) (d2 zE (dv 10) (d2 ixD (dv 8) (ret (.int 1))))|0]))) (zu (ret (.bl false))) z9)) (zu (ret (.bl true)))))))) Zm=.ok (.rt (.bl v) Z'))->dfn 11 4 (qV R__law_is_cut) [.tup [a,b,c],.tup (ks.map tK),.int (r:Nat),.int u]=.ok (.bl v):=λv hs ⟨Z',e⟩=>by
  unfold qV
  exact yP rfl ⟨Z',(qk (Z':=Zl) (qaD (qaV q0 (qaV q1 (q2 true hs))))).trans ((qk (Z':=Zl) (qaD q3)).trans ((qk s3).trans e))⟩
 have prTo:∀v,(∃Z',yK R_cuts_off Z=.ok (.rt (.bl v) Z'))->zQ R_cuts_off [.tup [a,b,c],.tup (ks.map tK),.int (r:Nat),.int u]=.ok (.bl v):=λv ⟨Z',e⟩=>yP rfl ⟨Z',e⟩
 cases hbn:bn with
 | true=>
  rw[hbn]at p1 q4
  refine⟨false,prTo false ⟨Z,zd ((vI (uy p0 (qeB p1))).trans rfl)⟩,?_⟩
  cases hs:vB (tyD a) "str" with
  |false=>
   unfold qV
   exact yP rfl ⟨Zl,zd ((vI (uy q0 (uy q1 (q2 false hs)))).trans rfl)⟩
  |true=>exact lawTo false hs ⟨Zm,zd ((vI (qeB q4)).trans rfl)⟩
 | false=>
  rw[hbn]at p1 q4
  have ea:a=.str "kind":=en1 hbn
  have hs:vB (tyD a) "str"=true:=by rw[ea];rfl
  cases hpl:qiE b ks.length with
  | false=>
   rw[hpl]at p2
   refine⟨false,prTo false ⟨Z,zd ((vI (uy p0 (uy p1 (qeB p2)))).trans rfl)⟩,lawTo false hs ⟨Zm,zd ((vI (uy q4 ?_)).trans rfl)⟩⟩
   cases hw:vo b with
   |false=>
    rw[hw]at q5
    exact qeB q5
   |true=>
    rw[hw]at q5
    have q6:js (tst (wA leD ltD (ret (.int 0)) (dv 6) (qw yh %[dv 1|0]))) Zm=.ok (!qiE b ks.length,Zm):=zN (qO (qgl hw rfl (lk Zm rfl)))
    rw[hpl]at q6
    exact uy q5 (qeB q6)
  | true=>
   rw[hpl]at p2
   obtain ⟨p,rfl,hp⟩:∃p:Nat,b=.int (p:Nat)/\p<ks.length:=by
    unfold qiE at hpl
    split at hpl
    ·rename_i i
     rw[yal,decide_eq_true_eq,decide_eq_true_eq]at hpl
     exact⟨i.toNat,by rw[ybq hpl.1],by omega⟩
    ·cases hpl
   have sx:=hk _ (qbi hp)
   have hB:(nAt ks p).1<big:=ybw sx.2.1 (by decide)
   have hw:vo (.int (p:Nat))=true:=rfl
   rw[hw]at q5
   have q6:js (tst (wA leD ltD (ret (.int 0)) (dv 6) (qw yh %[dv 1|0]))) Zm=.ok (!qiE (.int (p:Nat)) ks.length,Zm):=zN (qO (qgl hw rfl (lk Zm rfl)))
   rw[hpl]at q6
   have q7:tst (d2 eqB (d2 ixD (d2 ixD (dv 1) (dv 6)) (ret (.int 2))) (ret (.int 0))) Zm=.ok (!jK (nAt ks p),Zm):=qO (qg (qg (qg rfl rfl (qfq hp)) rfl (tk2 _)) rfl (qj2 _))
   let Kd':OD:=some (tK (nAt ks p))
   let Lf:OD:=some (.tup ((noN ks p).map tK))
   let Z1:Env:=[T,K,Rm,U,Kd',none,none,none]
   let Z2:Env:=[T,K,Rm,U,Kd',Lf,none,none]
   let Zm1:Env:=[T,K,Rm,U,none,some a,some (.int (p:Nat)),some c,Kd',none,none]
   let Zm2:Env:=[T,K,Rm,U,none,some a,some (.int (p:Nat)),some c,Kd',Lf,none]
   have e1:(qN 4 (d2 ixD (dv 1) (d2 ixD (dv 0) (ret (.int 1))))) Z=.ok (.nx Z1):=zW (qg rfl (qg rfl rfl (qpE _ _ _)) (qfq hp))
   have e2:(qN 5 (qj vR %[dv 1,d2 ixD (dv 0) (ret (.int 1))|0])) Z1=.ok (.nx Z2):=zW (yI rfl (qg rfl rfl (qpE _ _ _)) (qeH hp hl))
   have f1:(qN 8 (d2 ixD (dv 1) (dv 6))) Zm=.ok (.nx Zm1):=zW (qg rfl rfl (qfq hp))
   have f2:(qN 9 (qj zB %[dv 1,dv 6|0])) Zm1=.ok (.nx Zm2):=zW (yI rfl rfl (vU hp hl))
   cases hty:vB (tyD c) "tuple" with
   | false=>
    rw[hty]at p3
    refine⟨false,prTo false ⟨Z,zd ((vI (uy p0 (uy p1 (uy p2 p3)))).trans rfl)⟩,?_⟩
    cases hth:jK (nAt ks p) with
    |false=>
     rw[hth]at q7
     exact lawTo false hs ⟨Zm,zd ((vI (uy q4 (uy q5 (uy q6 q7)))).trans rfl)⟩
    | true=>
     rw[hth]at q7
     have q8:js (tst (qaC "tuple" (dv 7))) Zm1=.ok (true,Zm1):=by
      have:=zN (qcB (T:="tuple") (Z:=Zm1) (f:=dv 7) (d:=c) rfl rfl)
      rw[hty]at this
      exact this
     exact lawTo false hs ⟨Zm1,(qk (Z':=Zm) (qaD (qaV q4 (qaV q5 (qaV q6 q7))))).trans ((qk f1).trans (zd ((vI (qeB q8)).trans rfl)))⟩
   | true=>
    rw[hty]at p3
    obtain ⟨ys,rfl⟩:∃ys,c=.tup ys:=by
     cases c with
     |tup ys=>exact⟨ys,rfl⟩
     |_=>exact absurd hty (by first|decide|(intro z;cases z))
    have p4:js (tst (qj uT %[dv 4|0])) Z1=.ok (!jK (nAt ks p),Z1):=zN (qO (qbD rfl (qdJ _)))
    have pre:(sif (tor (tst (d2 neB (qw yh %[dv 0|0]) (ret (.int 3)))) (tor (tst (d2 neB (d2 ixD (dv 0) (ret (.int 0))) (ret (.str "kind")))) (tor (js (tst (qj yZ %[d2 ixD (dv 0) (ret (.int 1)),dv 1|0]))) (js (tst (qaC "tuple" (d2 ixD (dv 0) (ret (.int 2))))))))) (zu (ret (.bl false))) z9) Z=.ok (.nx Z):=qaD (qaV p0 (qaV p1 (qaV p2 p3)))
    cases hth:jK (nAt ks p) with
    |false=>
     rw[hth]at q7 p4
     exact⟨false,prTo false ⟨Z1,(qk pre).trans ((qk e1).trans (zd ((vI (qeB p4)).trans rfl)))⟩,lawTo false hs ⟨Zm,zd ((vI (uy q4 (uy q5 (uy q6 q7)))).trans rfl)⟩⟩
    | true=>
     rw[hth]at q7 p4
     have q8:js (tst (qaC "tuple" (dv 7))) Zm1=.ok (false,Zm1):=zN (qcB (T:="tuple") (Z:=Zm1) (f:=dv 7) (d:=.tup ys) rfl (yF _))
     have p5:tst (d2 neB (qw yh %[d2 ixD (dv 0) (ret (.int 2))|0]) (d2 zf (qj z5 %[dv 4,dv 2|0]) (ret (.int 1)))) Z1=.ok (!decide (ys.length=ofN (nAt ks p) r+1),Z1):=qO (qg (yH (a:=.tup ys) (qg rfl rfl (qpF _ _ _)) (zP ys)) (qg (d:=.int ((ofN (nAt ks p) r+1:Nat):Int)) (yI rfl rfl (qdK sx.1 hB r)) rfl rfl) (qaB _ _))
     have q9:tst (d2 neB (qw yh %[dv 7|0]) (d2 zf (qj z6 %[dv 8,dv 2|0]) (ret (.int 1)))) Zm1=.ok (!decide (ys.length=ofN (nAt ks p) r+1),Zm1):=qO (qg (yH (a:=.tup ys) rfl (zP ys)) (qg (d:=.int ((ofN (nAt ks p) r+1:Nat):Int)) (yI rfl rfl (wY sx.1 hB r)) rfl rfl) (qaB _ _))
     have lpre:(sif (tor (tst (d2 neB (dv 5) (ret (.str "kind")))) (tor (js (tst (qj zo %[dv 6|0]))) (tor (js (tst (wA leD ltD (ret (.int 0)) (dv 6) (qw yh %[dv 1|0])))) (tst (d2 eqB (d2 ixD (d2 ixD (dv 1) (dv 6)) (ret (.int 2))) (ret (.int 0))))))) (zu (ret (.bl false))) z9) Zm=.ok (.nx Zm):=qaD (qaV q4 (qaV q5 (qaV q6 q7)))
     by_cases hly:ys.length=ofN (nAt ks p) r+1
     ·rw [decide_eq_true hly]at p5 q9
      have hih:=ih p hp hth ys rfl
      let g:Nat->Bool:=λk=>if h:k<ys.length then Classical.choose (hih k (by omega) h)else false
      have hg:∀k (h:k<ys.length),R_cuts_off [ys[k],.tup ((noN ks p).map tK),.int ((r-k*(nAt ks p).1:Nat):Int),.int (u-((k*(nAt ks p).2.1:Nat):Int))]=.ok (.bl (g k))/\R__law_is_cut [ys[k],.tup ((noN ks p).map tK),.int ((r-k*(nAt ks p).1:Nat):Int),.int (u-((k*(nAt ks p).2.1:Nat):Int))]=.ok (.bl (g k)):=λk h=>by
       have:=yeD (hih k (by omega) h)
       simp only[g,dif_pos h]
       exact this
      obtain⟨⟨z1,w1⟩,z2,w2⟩:=qgZ hk hl hr R_cuts_off R__law_is_cut hp hly g (λk h=>(hg k h).1) (λk h=>(hg k h).2) T K none none none (some a) (some (.int (p:Nat)))
      have en:qej %[d2 ixD (dv 0) (ret (.int 2))|0] Z2=.ok (qag 0 ys,Z2):=by
       rw[qe8,qah (a:=.tup ys) (qg rfl rfl (qpF _ _ _))]
       rfl
      have lp1:(qak (qej %[d2 ixD (dv 0) (ret (.int 2))|0]) (qa3 2 (zm (qt 6) (zm (qt 7) qa2))) (sif (js (tst (qj R_cuts_off %[dv 7,dv 5,d2 yO (dv 2) (d2 zE (dv 6) (d2 ixD (dv 4) (ret (.int 0)))),d2 yO (dv 3) (d2 zE (dv 6) (d2 ixD (dv 4) (ret (.int 1))))|0]))) (zu (ret (.bl false))) z9)) Z2=(bif (yay ys.length).all g then .ok (.nx z1)else .ok (.rt (.bl false) z1)):=by
       rw[vG,en]
       exact w1
      have lp2:(qak (jO %[qw yh %[dv 7|0]|0]) (qt 10) (sif (js (tst (qj R__law_is_cut %[d2 ixD (dv 7) (dv 10),dv 9,d2 yO (dv 2) (d2 zE (dv 10) (d2 ixD (dv 8) (ret (.int 0)))),d2 yO (dv 3) (d2 zE (dv 10) (d2 ixD (dv 8) (ret (.int 1))))|0]))) (zu (ret (.bl false))) z9)) Zm2=(bif (yay ys.length).all g then .ok (.nx z2)else .ok (.rt (.bl false) z2)):=by
       have hl1000:=hys ys rfl
       rw[vG,uD (j:=(ys.length:Nat)) (Z1:=Zm2) (qah (yH (a:=.tup ys) rfl (zP ys))) (by omega) (by omega),yaO,qon]
       exact w2
      have x1:=qk (p:=(sif (tor (js (tst (qj uT %[dv 4|0]))) (tst (d2 neB (qw yh %[d2 ixD (dv 0) (ret (.int 2))|0]) (d2 zf (qj z5 %[dv 4,dv 2|0]) (ret (.int 1)))))) (zu (ret (.bl false))) z9)) (q:=(qE (qN 5 (qj vR %[dv 1,d2 ixD (dv 0) (ret (.int 1))|0])) (qE (qak (qej %[d2 ixD (dv 0) (ret (.int 2))|0]) (qa3 2 (zm (qt 6) (zm (qt 7) qa2))) (sif (js (tst (qj R_cuts_off %[dv 7,dv 5,d2 yO (dv 2) (d2 zE (dv 6) (d2 ixD (dv 4) (ret (.int 0)))),d2 yO (dv 3) (d2 zE (dv 6) (d2 ixD (dv 4) (ret (.int 1))))|0]))) (zu (ret (.bl false))) z9)) (zu (ret (.bl true)))))) (Z:=Z1) (Z':=Z1) (qaD (qaV p4 p5))
      have x2:=qk (p:=(sif (tor (js (tst (qaC "tuple" (dv 7)))) (tst (d2 neB (qw yh %[dv 7|0]) (d2 zf (qj z6 %[dv 8,dv 2|0]) (ret (.int 1)))))) (zu (ret (.bl false))) z9)) (q:=(qE (qN 9 (qj zB %[dv 1,dv 6|0])) (qE (qak (jO %[qw yh %[dv 7|0]|0]) (qt 10) (sif (js (tst (qj R__law_is_cut %[d2 ixD (dv 7) (dv 10),dv 9,d2 yO (dv 2) (d2 zE (dv 10) (d2 ixD (dv 8) (ret (.int 0)))),d2 yO (dv 3) (d2 zE (dv 10) (d2 ixD (dv 8) (ret (.int 1))))|0]))) (zu (ret (.bl false))) z9)) (zu (ret (.bl true)))))) (Z:=Zm1) (Z':=Zm1) (qaD (qaV q8 q9))
      cases hall:(yay ys.length).all g with
      |true=>
       rw[hall]at lp1 lp2
       exact⟨true,prTo true ⟨z1,(qk pre).trans ((qk e1).trans (x1.trans ((qk e2).trans ((qk lp1).trans rfl))))⟩,lawTo true hs ⟨z2,(qk lpre).trans ((qk f1).trans (x2.trans ((qk f2).trans ((qk lp2).trans rfl))))⟩⟩
      |false=>
       rw[hall]at lp1 lp2
       exact⟨false,prTo false ⟨z1,(qk pre).trans ((qk e1).trans (x1.trans ((qk e2).trans (zd lp1))))⟩,lawTo false hs ⟨z2,(qk lpre).trans ((qk f1).trans (x2.trans ((qk f2).trans (zd lp2))))⟩⟩
     ·rw[decide_eq_false hly]at p5 q9
      exact⟨false,prTo false ⟨Z1,(qk pre).trans ((qk e1).trans (zd ((vI (uy p4 p5)).trans rfl)))⟩,lawTo false hs ⟨Zm1,(qk lpre).trans ((qk f1).trans (zd ((vI (uy q8 q9)).trans rfl)))⟩⟩
end
def qj3(ks:List Nk):Nat:=ks.countP jK
theorem qiI(ks:List Nk)(p:Nat):(noN ks p).length=ks.length:=lS_
theorem qkY {ks:List Nk} (h:∀x∈ks,smN x) {p:Nat} (hp:p<ks.length):∀x∈noN ks p,smN x:=λx hx=>by
 rcases List.mem_or_eq_of_mem_set hx with hx|rfl
 ·exact h x hx
 ·have:=h _ (qbi hp)
  exact⟨this.1,this.2.1,this.2.2.1,λm e=>by cases e;omega⟩
theorem qdM {ks:List Nk} {p:Nat} (hp:p<ks.length) (ht:jK (nAt ks p)=true):qj3 (noN ks p)+1=qj3 ks:=by
 unfold qj3 noN
 rw[List.countP_set hp]
 have e:ks[p]=nAt ks p:=by
  have:=qfp hp
  rw[gG hp]at this
  exact yaM this
 have h1:jK ks[p]=true:=by rw[e];exact ht
 have h2:jK ((nAt ks p).1,(nAt ks p).2.1,some 0)=false:=rfl
 have h3:0<ks.countP jK:=List.countP_pos_iff.mpr ⟨ks[p],ybn hp,h1⟩
 rw[h1,h2]
 simp only[if_true,yaX,if_false]
 omega
theorem qkZ {xs:List D} (h:xs.length≠2) (K R U:D):zT [.tup xs,K,R,U]=.ok (.bl false):=by
 unfold zT jG
 let Z:Env:=[some (.tup xs),some K,some R,some U,none]
 have p0:tst (d2 neB (qw yh %[dv 0|0]) (ret (.int 2))) Z=.ok (!decide (xs.length=2),Z):=qO (qg (yH rfl (zP _)) rfl (qaB _ 2))
 rw[decide_eq_false h]at p0
 exact yP rfl ⟨Z,zd ((vI (qeB p0)).trans rfl)⟩
theorem qk0 {xs:List D} (h:xs.length≠3) (K R' U:D) (Rc:List D->R D):zQ Rc [.tup xs,K,R',U]=.ok (.bl false):=by
 unfold zQ yK
 let Z:Env:=[some (.tup xs),some K,some R',some U,none,none,none,none]
 have p0:tst (d2 neB (qw yh %[dv 0|0]) (ret (.int 3))) Z=.ok (!decide (xs.length=3),Z):=qO (qg (yH rfl (zP _)) rfl (qaB _ 3))
 rw[decide_eq_false h]at p0
 exact yP rfl ⟨Z,zd ((vI (qeB p0)).trans rfl)⟩
theorem qfw {xs:List D} {K R' U:D} {Rc:List D->R D} {v1 v2:Bool} (h1:zT [.tup xs,K,R',U]=.ok (.bl v1)) (h2:zQ Rc [.tup xs,K,R',U]=.ok (.bl v2)):dfn 4 4 (yw Rc) [.tup xs,K,R',U]=.ok (.bl (v1||v2)):=by
 unfold yw
 let Z:Env:=[some (.tup xs),some K,some R',some U]
 have q0:js (tst (qaC "tuple" (dv 0))) Z=.ok (false,Z):=zN (qcB (d:=.tup xs) rfl (yF _))
 refine yP rfl ⟨Z,(qk (Z':=Z) (qaD q0)).trans (ye ?_)⟩
 have e1:=qcA (F:=zT) (Z:=Z) (f:=dv 0) (g:=dv 1) (h:=dv 2) (k:=dv 3) rfl rfl rfl rfl h1
 have e2:=qcA (F:=zQ Rc) (Z:=Z) (f:=dv 0) (g:=dv 1) (h:=dv 2) (k:=dv 3) rfl rfl rfl rfl h2
 cases v1 with
 |true=>
  rw[qjx,e1]
  rfl
 |false=>
  rw[Bool.false_or]
  exact orF e1 e2
theorem qgm:∀(n:Nat)(ks:List Nk)(t:D)(r:Nat)(u:Int),Th t->qj3 ks<=n->ks.length<=12->(∀x∈ks,smN x)->r<=200->∃v,jb (n+1) [t,.tup (ks.map tK),.int (r:Nat),.int u]=.ok (.bl v)/\zC (n+1) [t,.tup (ks.map tK),.int (r:Nat),.int u]=.ok (.bl v):=λn=>by
 induction n with
 | zero=>
  intro ks t r u ht hc hl hk hr
  exact cut_step 0 ks t r u ht hl hk hr λp hp hth=>by
   have:=qdM hp hth
   omega
 | succ n ih=>
  intro ks t r u ht hc hl hk hr
  exact cut_step (n+1) ks t r u ht hl hk hr λp hp hth y hy k hkn=>by
   have e:=qdM hp hth
   have sx:=hk _ (qbi hp)
   have h1:=((qc6 (r:=r) (t:=k) sx.1).mp hkn).1
   have h2:k*1<=k*(nAt ks p).1:=yb1 _ sx.1
   have h3:k*(nAt ks p).2.1<=200*39:=Nat.mul_le_mul (by omega) sx.2.2.1
   exact ih (noN ks p) y (r-k*(nAt ks p).1) (u-((k*(nAt ks p).2.1:Nat):Int)) hy (by omega) (by rw[qiI];exact hl) (qkY hk hp) (by omega)
where
 cut_step (n:Nat) (ks:List Nk) (t:D) (r:Nat) (u:Int) (ht:Th t) (hl:ks.length<=12) (hk:∀x∈ks,smN x) (hr:r<=200) (ih:∀p,p<ks.length->jK (nAt ks p)=true->∀y,Th y->∀k,k<=ofN (nAt ks p) r->∃v,jb n [y,.tup ((noN ks p).map tK),.int ((r-k*(nAt ks p).1:Nat):Int),.int (u-((k*(nAt ks p).2.1:Nat):Int))]=.ok (.bl v)/\zC n [y,.tup ((noN ks p).map tK),.int ((r-k*(nAt ks p).1:Nat):Int),.int (u-((k*(nAt ks p).2.1:Nat):Int))]=.ok (.bl v)):∃v,jb (n+1) [t,.tup (ks.map tK),.int (r:Nat),.int u]=.ok (.bl v)/\zC (n+1) [t,.tup (ks.map tK),.int (r:Nat),.int u]=.ok (.bl v):=by
  show ∃v,dfn 4 4 (yw (jb n)) _=_/\dfn 11 4 (qV (zC n)) _=_
  let K:OD:=some (.tup (ks.map tK))
  cases ht with
  | other hty=>
   refine⟨false,?_,?_⟩
   ·unfold yw
    let Z:Env:=[some t,K,some (.int (r:Nat)),some (.int u)]
    exact yP rfl ⟨Z,zd ((vI (zN (qcB (Z:=Z) (f:=dv 0) (d:=t) rfl hty))).trans rfl)⟩
   ·unfold qV
    let Z:Env:=[some t,K,some (.int (r:Nat)),some (.int u),none,none,none,none,none,none,none]
    exact yP rfl ⟨Z,zd ((vI (qeB (zN (qcB (Z:=Z) (f:=dv 0) (d:=t) rfl hty)))).trans rfl)⟩
  | @len xs h2 h3=>
   refine⟨false,qfw (qkZ h2 _ _ _) (qk0 h3 _ _ _ _),?_⟩
   unfold qV
   let Z:Env:=[some (.tup xs),K,some (.int (r:Nat)),some (.int u),none,none,none,none,none,none,none]
   have q1:tst (d2 qkJ (qw yh %[dv 0|0]) (qF %[ret (.int 2),ret (.int 3)|0])) Z=.ok (true,Z):=qO (qg (yH rfl (zP _)) (qbU rfl rfl) (qpB h2 h3))
   exact yP rfl ⟨Z,zd ((vI (uy (zN (qcB (Z:=Z) (f:=dv 0) (d:=.tup xs) rfl (yF _))) (qeB q1))).trans rfl)⟩
  | @two a b ha hb=>
   obtain⟨v,e1,e2⟩:=qgY hk r ha hb (jb n) (zC n)
   refine⟨v,?_,e2⟩
   have:=qfw e1 (qk0 (xs:=[a,b]) (by simp) (.tup (ks.map tK)) (.int (r:Nat)) (.int u) (jb n))
   rw[Bool.or_false]at this
   exact this
  | @thr a b c ha hys hc=>
   obtain⟨v,e1,e2⟩:=qiH hk hl hr (jb n) (zC n) (b:=b) ha hys λp hp hth ys e k hkn hlt=>ih p hp hth _ (hc ys e _ (ybn hlt)) k hkn
   refine⟨v,?_,e2⟩
   have:=qfw (qkZ (xs:=[a,b,c]) (by simp) (.tup (ks.map tK)) (.int (r:Nat)) (.int u)) e1
   rw[Bool.false_or]at this
   exact this
inductive Ct:Nat->D->Prop
 |price {n t c:Nat} (h1:t<=1000) (h2:c<=1000):Ct n (.tup [.str "price",frD t c])
 |kind {n p:Nat} {ys:List D} (hp:p<=12) (hl:ys.length<=10) (h0:0<ys.length) (h:∀y∈ys,Ct n y):Ct (n+1) (.tup [.str "kind",.int (p:Nat),.tup ys])
theorem qk1 {t c:Nat} (h1:t<=1000000) (h2:c<=1000000):qpC (frD t c):=λx y e=>by
 unfold frD at e
 simp only[D.tup.injEq,List.cons.injEq,D.int.injEq,and_true]at e
 omega
theorem Ct.th:∀{n:Nat}{t:D},Ct n t->Th t:=λh=>by
 induction h with
 |price h1 h2=>exact .two rfl (qk1 (by omega) (by omega))
 | kind hp hl h0 h ih=>
  refine .thr rfl (λys e=>?_) λys e y hy=>?_
  ·cases e
   omega
  ·cases e
   exact ih y hy
theorem Ct.imm:∀{n:Nat}{t:D},Ct n t->imm t=true:=λh=>by
 induction h with
 |price h1 h2=>rfl
 | @kind n p ys hp hl h0 h ih=>
  have:immL ys=true:=by
   have:=qgc (f:=λd:D=>d) (as:=ys) λy hy=>ih y hy
   rwa [List.map_id']at this
  simp only[Sk.imm,immL,this,yaF]
theorem qgn (x:Nk):neB (mD (x.2.2.map λm:Nat=>(m:Int))) (.int 0)=some (.bl (jK x)):=by
 obtain⟨w,g,m⟩:=x
 cases m with
 |none=>rfl
 |some m=>
  show neB (.int (m:Nat)) (.int ((0:Nat):Int))=some (.bl (decide (0<m)))
  rw[qaB]
  congr 2
  rw[ybg]
  simp only[decide_eq_true_eq,yb8,decide_eq_false_iff_not]
  omega
theorem qmB {ds:List D} (h:∀d∈ds,(qX d).canLay0=true/\(qX d).depth<=1):qal (.lst ds)=true:=by
 have g:∀ds:List D,(∀d∈ds,(qX d).canLay0=true/\(qX d).depth<=1)->ybd (toPDs ds)=true/\yaB (toPDs ds)<=1:=λds=>by
  induction ds with
  |nil=>intro _;exact⟨rfl,yaD _⟩
  |cons d ds ih=>
   intro h
   obtain⟨i1,i2⟩:=ih λx hx=>h x (mM _ hx)
   obtain⟨j1,j2⟩:=h d mS_
   simp only[toPDs,ybd,yaB,i1,j1,yaF,true_and]
   omega
 obtain⟨g1,g2⟩:=g ds h
 have e:qal (.lst ds)=(ybd (toPDs ds)&&decide (yaB (toPDs ds)+1<=50)):=by simp only[qal,qX,ybt,ya0]
 rw[e,g1,decide_eq_true (by omega)]
 rfl
theorem qfx {ds:List D} (h:∀d∈ds,(qX d).canLay0=true/\(qX d).depth<=1):eqB (.lst ds) (.lst [])=some (.bl ds.isEmpty)/\neB (.lst ds) (.lst [])=some (.bl (!ds.isEmpty)):=by
 have o:=qmB h
 have e1:eqB (.lst ds) (.lst [])=eqA (.lst ds) (.lst []):=rfl
 have e2:neB (.lst ds) (.lst [])=neA (.lst ds) (.lst []):=rfl
 have o2:qal (.lst [])=true:=rfl
 have v:ya1 (qX (.lst ds)) (qX (.lst []))=ds.isEmpty:=by cases ds<;>rfl
 rw[e1,e2]
 unfold eqA neA
 rw[o,o2,v]
 exact⟨rfl,rfl⟩
theorem qox(t c:Nat):(qX (frD t c)).canLay0=true/\(qX (frD t c)).depth<=1:=⟨rfl,yac _⟩
theorem qiJ(i:Int):(qX (.int i)).canLay0=true/\(qX (.int i)).depth<=1:=⟨rfl,yaD _⟩
theorem qpG{f:M D}{Z Z1:Env}{b:Bool}(hf:f Z=.ok (.bl b,Z1)):tst f Z=.ok (b,Z1):=by rw[qjw,hf];rfl
theorem qj4{F:D->D->OD}{f g:M D}{Z Z1 Z2:Env}{a b d:D}(hf:f Z=.ok (a,Z1))(hg:g Z1=.ok (b,Z2))(e:F a b=some d):d2 F f g Z=.ok (d,Z2):=by rw[qnT,hf];simp only[hg,e]
theorem qqu{t u:M Bool}{Z:Env}{x:R (Bool×Env)}(h1:t Z=.ok (false,Z))(h2:u Z=x):tor t u Z=x:=by rw[qbL,h1];exact h2
theorem qoy{t u:M Bool}{Z:Env}{x:R (Bool×Env)}(h1:t Z=.ok (true,Z))(h2:u Z=x):qeW t u Z=x:=by rw[qeh,h1];exact h2
theorem qpH{t:M Bool}{p q:MS}{Z Z1:Env}(h:t Z=.ok (true,Z1)):sif t p q Z=p Z1:=by rw[qgE,h];rfl
theorem qpI{t:M Bool}{p q:MS}{Z Z1:Env}(h:t Z=.ok (false,Z1)):sif t p q Z=q Z1:=by rw[qgE,h];rfl
theorem qj5 {i:Nat} {f:M D} {Z Z1:Env} {ds ds1:List D} {d:D} (h:jr i Z=some ds) (hf:f Z=.ok (d,Z1)) (h1:jr i Z1=some ds1) (hi:imm d=true) (hl:ds1.length<1000000):vW (uY i f) Z=.ok (.nx (Z1.set i (some (.lst (ds1++[d]))))):=by
 simp only[qbb,qcg,h,hf,h1,hi,zA (show ds1.length+1<=1000000 by omega),yaF,if_true]
theorem io3 {F:List D->List D->R (D×List D)} {i:Nat} {f g h:M D} {Z:Env} {ds ds':List D} {a b c d:D} (h0:jr i Z=some ds) (hf:f Z=.ok (a,Z)) (hg:g Z=.ok (b,Z)) (hh:h Z=.ok (c,Z)) (e:F ds [a,b,c]=.ok (d,ds')):ql F i %[f,g,h|0] Z=.ok (d,Z.set i (some (.lst ds'))):=by
 simp only[wN,h0,qfo hf hg hh,e]
theorem io2 {F:List D->List D->R (D×List D)} {i:Nat} {f g:M D} {Z:Env} {ds ds':List D} {a b d:D} (h0:jr i Z=some ds) (hf:f Z=.ok (a,Z)) (hg:g Z=.ok (b,Z)) (e:F ds [a,b]=.ok (d,ds')):ql F i %[f,g|0] Z=.ok (d,Z.set i (some (.lst ds'))):=by
 simp only[wN,h0,qdB hf hg,e]
theorem qiK (b:Int) (n:Nat) (hn:0<n):∃j:Nat,b%((n:Nat):Int)=(j:Int)/\j<n:=by
 have h1:0<=b%((n:Nat):Int):=Int.emod_nonneg _ (by omega)
 have h2:b%((n:Nat):Int)<((n:Nat):Int):=yfr _ (by omega)
 exact⟨(b%((n:Nat):Int)).toNat,by omega,by omega⟩
theorem qoz(T B:Nat):qjW T B<=T/\qjX T B<=B:=⟨yek _ _,yek _ _⟩
def prN(ks:List Nk):List (Nat×Nat):=(0,1)::(ks.filter jK).map λx=>(qjW x.2.1 x.1,qjX x.2.1 x.1)
def lfN(ks:List Nk):List Nat:=(yay ks.length).filter λi=>jK (nAt ks i)
theorem qoA {ks:List Nk} (hk:∀x∈ks,smN x):∀p∈prN ks,p.1<=1000/\p.2<=1000:=λp hp=>by
 rcases List.mem_cons.mp hp with rfl|hp
 ·exact⟨yaD _,by show 1<=1000;omega⟩
 ·obtain⟨x,hx,rfl⟩:=mP_.mp hp
  have sx:=hk x (List.mem_filter.mp hx).1
  have:=qoz x.2.1 x.1
  have s1:=sx.2.1
  have s2:=sx.2.2.1
  exact⟨by show qjW x.2.1 x.1<=1000;omega,by show qjX x.2.1 x.1<=1000;omega⟩
section
variable{ks:List Nk}(hk:∀x∈ks,smN x)(hl:ks.length<=12)(hc:qj3 ks<=3){r:Nat}(hr:r<=9){u:Int}
include hk hl hc hr
theorem qeI (p:Nat×Nat) (h:p.1<=1000/\p.2<=1000):∃v,qQ [.tup [.str "price",fr p],.tup (ks.map tK),.int (r:Nat),.int u]=.ok (.bl v):=by
 obtain⟨v,_,e⟩:=qgm 3 ks (.tup [.str "price",fr p]) r u (.two rfl (qk1 (by omega) (by omega))) hc hl hk (by omega)
 exact⟨v,e⟩
theorem qiL (b:Int) (R__law_made:List D->List D->R (D×List D)):∃GD:List (Nat×Nat),(∀p∈GD,p.1<=1000/\p.2<=1000)/\GD.length<=13/\∀(q:MS),(qE (qN 4 (d2 zf (jI %[qF %[ret (.int 0),ret (.int 1)|0]|0]) (jJ 1 [] none (wD (dv 1)) (qt 0) (tst (d2 neB (d2 ixD (dv 0) (ret (.int 2))) (ret (.int 0)))) (qj yz %[d2 ixD (dv 0) (ret (.int 1)),d2 ixD (dv 0) (ret (.int 0))|0])))) (qE (qN 5 (jJ 1 [1,2,3] none (wD (dv 4)) (qt 0) (tst (qj qQ %[qF %[ret (.str "price"),dv 0|0],dv 1,dv 2,dv 3|0])) (dv 0))) (qE (qN 6 (jJ 1 [1] none (jO %[qw yh %[dv 1|0]|0]) (qt 0) (tst (d2 neB (d2 ixD (d2 ixD (dv 1) (dv 0)) (ret (.int 2))) (ret (.int 0)))) (dv 0))) q))) [some (.lst [.int b]),some (.tup (ks.map tK)),some (.int (r:Nat)),some (.int u),none,none,none,none,none,none,none,none]=q [some (.lst [.int b]),some (.tup (ks.map tK)),some (.int (r:Nat)),some (.int u),some (.lst ((prN ks).map fr)),some (.lst (GD.map fr)),some (.lst ((lfN ks).map λi:Nat=>D.int (i:Nat))),none,none,none,none,none]:=by
 have hpl:=qoA hk
 have hflen:(ks.filter jK).length<=ks.length:=yc4 _ _
 have hplen:(prN ks).length<=13:=by
  show((0,1)::(ks.filter jK).map λx=>(qjW x.2.1 x.1,qjX x.2.1 x.1)).length<=13
  rw[lC_,lM_]
  omega
 let gp:Nat×Nat->Bool:=λp=>if h:p.1<=1000/\p.2<=1000 then Classical.choose (qeI hk hl hc hr (u:=u) p h)else false
 have hgp:∀p∈prN ks,qQ [.tup [.str "price",fr p],.tup (ks.map tK),.int (r:Nat),.int u]=.ok (.bl (gp p)):=λp hp=>by
  have:=yeD (qeI hk hl hc hr (u:=u) p (hpl p hp))
  simp only[gp,dif_pos (hpl p hp)]
  exact this
 refine⟨(prN ks).filter gp,λp hp=>hpl p (List.mem_filter.mp hp).1,yau (yc4 _ _) hplen,λq=>?_⟩
 let B:OD:=some (.lst [.int b])
 let K:OD:=some (.tup (ks.map tK))
 let Ro:OD:=some (.int (r:Nat))
 let U:OD:=some (.int u)
 let PR:OD:=some (.lst ((prN ks).map fr))
 let GD:OD:=some (.lst (((prN ks).filter gp).map fr))
 let LF:OD:=some (.lst ((lfN ks).map λi:Nat=>D.int (i:Nat)))
 let Z0:Env:=[B,K,Ro,U,none,none,none,none,none,none,none,none]
 let Z1:Env:=[B,K,Ro,U,PR,none,none,none,none,none,none,none]
 let Z2:Env:=[B,K,Ro,U,PR,GD,none,none,none,none,none,none]
 have s0:(qN 4 (d2 zf (jI %[qF %[ret (.int 0),ret (.int 1)|0]|0]) (jJ 1 [] none (wD (dv 1)) (qt 0) (tst (d2 neB (d2 ixD (dv 0) (ret (.int 2))) (ret (.int 0)))) (qj yz %[d2 ixD (dv 0) (ret (.int 1)),d2 ixD (dv 0) (ret (.int 0))|0])))) Z0=.ok (.nx Z1):=by
  have c:=qgb (e:=qj yz %[d2 ixD (dv 0) (ret (.int 1)),d2 ixD (dv 0) (ret (.int 0))|0]) (t:=tst (d2 neB (d2 ixD (dv 0) (ret (.int 2))) (ret (.int 0)))) (xs:=wD (dv 1)) (fr:=[]) (Z:=Z0) (r:=[]) (k:=tK) ks jK (λx=>qiY x.2.1 x.1) rfl rfl (by omega) (λx _=>qO (qg (qg rfl rfl (tk2 x)) rfl (qgn x))) (λx hx _=>yI (qg rfl rfl (tk1 x)) (qg rfl rfl (tk0 x)) (qaY _ (hk x hx).1 (ybw (hk x hx).2.1 (by decide))))
  have c1:jI %[qF %[ret (.int 0),ret (.int 1)|0]|0] Z0=.ok (.lst [frD 0 1],Z0):=by
   rw[vc,qah (qbU rfl rfl)]
   simp only[lC_,lN_,yaV,zA (show 1<=1000000 by omega),if_true]
   rfl
  have c2:=qg c1 c (ua (by rw[lM_,yaJ];omega))
  have e:[frD 0 1]++(ks.filter jK).map (λx=>qiY x.2.1 x.1)=(prN ks).map fr:=by
   unfold prN
   rw[mC_,mm_]
   rfl
  rw[e]at c2
  rw[zW c2]
  rfl
 have s1:(qN 5 (jJ 1 [1,2,3] none (wD (dv 4)) (qt 0) (tst (qj qQ %[qF %[ret (.str "price"),dv 0|0],dv 1,dv 2,dv 3|0])) (dv 0))) Z1=.ok (.nx Z2):=by
  have c:=qgb (e:=dv 0) (t:=tst (qj qQ %[qF %[ret (.str "price"),dv 0|0],dv 1,dv 2,dv 3|0])) (xs:=wD (dv 4)) (fr:=[1,2,3]) (Z:=Z1) (r:=[K,Ro,U]) (k:=fr) (prN ks) gp fr rfl rfl (by omega) (λp hp=>qO (qcA (qbU rfl rfl) rfl rfl rfl (hgp p hp))) (λp _ _=>rfl)
  rw[zW c]
  rfl
 have s2:(qN 6 (jJ 1 [1] none (jO %[qw yh %[dv 1|0]|0]) (qt 0) (tst (d2 neB (d2 ixD (d2 ixD (dv 1) (dv 0)) (ret (.int 2))) (ret (.int 0)))) (dv 0))) Z2=.ok (.nx [B,K,Ro,U,PR,GD,LF,none,none,none,none,none]):=by
  have c:=qgb (e:=dv 0) (t:=tst (d2 neB (d2 ixD (d2 ixD (dv 1) (dv 0)) (ret (.int 2))) (ret (.int 0)))) (xs:=jO %[qw yh %[dv 1|0]|0]) (fr:=[1]) (Z:=Z2) (r:=[K]) (k:=λi:Nat=>D.int (i:Nat)) (yay ks.length) (λi=>jK (nAt ks i)) (λi:Nat=>D.int (i:Nat)) (by
   rw[uD (j:=(ks.length:Nat)) (Z1:=Z2) (qah (yH (a:=.tup (ks.map tK)) rfl (by rw[zP,lM_]))) (by omega) (by omega),yaO,qon]) rfl (by rw[lR_];omega) (λi hi=>qO (qg (qg (qg rfl rfl (qfq (mR_.mp hi))) rfl (tk2 _)) rfl (qgn _))) (λ_ _ _=>rfl)
  rw[zW c]
  rfl
 exact(qk s0).trans ((qk s1).trans (qk s2))
end
abbrev mE(ks:List Nk)(r:Nat)(u:Int)(GD:List (Nat×Nat))(b:Int)(o7 o8 o9 o10 o11:OD):Env:=[some (.lst [.int b]),some (.tup (ks.map tK)),some (.int (r:Nat)),some (.int u),some (.lst ((prN ks).map fr)),some (.lst (GD.map fr)),some (.lst ((lfN ks).map λi:Nat=>D.int (i:Nat))),o7,o8,o9,o10,o11]
theorem qg0 (n:Nat) (ks:List Nk) (r:Nat) (u b:Int) (GD:List (Nat×Nat)) (hG:∀p∈GD,p.1<=1000/\p.2<=1000) (hGl:GD.length<=13):(∃b1,(sif (qeW (tst (d2 neB (dv 5) (jI (ret [])))) (tor (tst (d2 eqB (dv 6) (jI (ret [])))) (tst (d2 eqB (ql qi 0 %[ret (.int 2)|0]) (ret (.int 0)))))) (zu (qF %[ret (.str "price"),d2 ixD (dv 5) (ql qi 0 %[qw yh %[dv 5|0]|0])|0])) z9) (mE ks r u GD b none none none none none)=.ok (.nx (mE ks r u GD b1 none none none none none)))\/∃t b1,(sif (qeW (tst (d2 neB (dv 5) (jI (ret [])))) (tor (tst (d2 eqB (dv 6) (jI (ret [])))) (tst (d2 eqB (ql qi 0 %[ret (.int 2)|0]) (ret (.int 0)))))) (zu (qF %[ret (.str "price"),d2 ixD (dv 5) (ql qi 0 %[qw yh %[dv 5|0]|0])|0])) z9) (mE ks r u GD b none none none none none)=.ok (.rt t (mE ks r u GD b1 none none none none none))/\Ct n t:=by
 let Z (b:Int):Env:=mE ks r u GD b none none none none none
 have nilG:=qfx (ds:=GD.map fr) λd hd=>by
  obtain⟨p,_,rfl⟩:=mP_.mp hd
  exact qox _ _
 have nilL:=qfx (ds:=(lfN ks).map λi:Nat=>D.int (i:Nat)) λd hd=>by
  obtain⟨p,_,rfl⟩:=mP_.mp hd
  exact qiJ _
 have ln:∀b,jI (ret []) (Z b)=.ok (.lst [],Z b):=λb=>by
  rw[vc]
  simp only[vE,lN_,zA (show 0<=1000000 by omega),if_true]
 have tG:∀b,tst (d2 neB (dv 5) (jI (ret []))) (Z b)=.ok (!(GD.map fr).isEmpty,Z b):=λb=>qO (qg rfl (ln b) nilG.2)
 have tL:∀b,tst (d2 eqB (dv 6) (jI (ret []))) (Z b)=.ok (((lfN ks).map λi:Nat=>D.int (i:Nat)).isEmpty,Z b):=λb=>qO (qg rfl (ln b) nilL.1)
 have tk:∀(b:Int)(m:Int),0<m->m<1000000->ql qi 0 %[ret (.int m)|0] (Z b)=.ok (.int (b%m),Z (b/m)):=λb m h0 h1=>by
  rw[io1 (i:=0) (Z:=Z b) (ds:=[.int b]) (a:=.int m) rfl rfl (jq h0 (by omega))]
  rfl
 have t2:∀b,tst (d2 eqB (ql qi 0 %[ret (.int 2)|0]) (ret (.int 0))) (Z b)=.ok (decide (b%2=0),Z (b/2)):=λb=>qpG (qj4 (tk b 2 (by omega) (by omega)) rfl (v0 _ _))
 have out:∀b1,0<GD.length->∃t b2,zu (qF %[ret (.str "price"),d2 ixD (dv 5) (ql qi 0 %[qw yh %[dv 5|0]|0])|0]) (Z b1)=.ok (.rt t (Z b2))/\Ct n t:=λb1 h0=>by
  obtain⟨j,hj,hjl⟩:=qiK b1 GD.length h0
  have io:ql qi 0 %[qw yh %[dv 5|0]|0] (Z b1)=.ok (.int (j:Nat),Z (b1/((GD.length:Nat):Int))):=by
   rw[io1 (i:=0) (Z:=Z b1) (ds:=[.int b1]) (a:=.int (GD.length:Nat)) rfl (yH (a:=.lst (GD.map fr)) rfl (by show some (D.int ((GD.map fr).length:Nat))=_;rw[lM_])) (jq (by omega) (by omega)),hj]
   rfl
  have ix:ixD (.lst (GD.map fr)) (.int (j:Nat))=some (fr GD[j]):=qiw (by rw[gM_,gG hjl];rfl)
  have c:d2 ixD (dv 5) (ql qi 0 %[qw yh %[dv 5|0]|0]) (Z b1)=.ok (fr GD[j],Z (b1/((GD.length:Nat):Int))):=qj4 rfl io ix
  refine⟨.tup [.str "price",fr GD[j]],b1/((GD.length:Nat):Int),ye ?_,.price (hG _ (ybn hjl)).1 (hG _ (ybn hjl)).2⟩
  have c0:qa (ret (.str "price")) %[d2 ixD (dv 5) (ql qi 0 %[qw yh %[dv 5|0]|0])|0] (Z b1)=.ok ([.str "price",fr GD[j]],Z (b1/((GD.length:Nat):Int))):=by
   rw[zg]
   simp only[vE,zg,c]
  rw[wM,c0]
  simp only[lC_,lN_,yaV,ybs,zA (show 2<=1000000 by omega),if_true]
 cases hg:(GD.map fr).isEmpty with
 |true=>
  have a1:=tG b
  rw[hg]at a1
  exact .inl ⟨b,(qaD (qop a1)).trans rfl⟩
 | false=>
  have a1:=tG b
  rw[hg]at a1
  have h0:0<GD.length:=by
   cases hGG:GD with
   |nil=>rw[hGG]at hg;cases hg
   |cons x xs=>simp
  cases hlf:((lfN ks).map λi:Nat=>D.int (i:Nat)).isEmpty with
  |true=>
   have a2:=tL b
   rw[hlf]at a2
   obtain⟨t,b2,e1,e2⟩:=out b h0
   exact .inr ⟨t,b2,(vI (qmp a1 (qeB a2))).trans e1,e2⟩
  | false=>
   have a2:=tL b
   rw[hlf]at a2
   by_cases h2:b%2=0
   ·have a3:=t2 b
    rw[decide_eq_true h2]at a3
    obtain⟨t,b2,e1,e2⟩:=out (b/2) h0
    exact .inr ⟨t,b2,(qpH (qoy a1 (qqu a2 a3))).trans e1,e2⟩
   ·have a3:=t2 b
    rw[decide_eq_false h2]at a3
    exact .inl ⟨b/2,(qpI (qoy a1 (qqu a2 a3))).trans rfl⟩
theorem qiM (n:Nat) (R__law_made:List D->List D->R (D×List D)) (ks:List Nk) (r:Nat) (u:Int) (GD:List (Nat×Nat)) {p:Nat} (sx:smN (nAt ks p)) (hof9:∀k,k<=ofN (nAt ks p) r->k<=9) (ih:∀k,k<=ofN (nAt ks p) r->∀b:Int,∃t b',R__law_made [.int b] [.tup ((noN ks p).map tK),.int ((r-k*(nAt ks p).1:Nat):Int),.int (u-((k*(nAt ks p).2.1:Nat):Int))]=.ok (t,[.int b'])/\∃m,n=m+1/\Ct m t):∀(is:List Nat)(b:Int)(acc:List D)(o11:OD),(∀k∈is,k<=ofN (nAt ks p) r)->acc.length+is.length<=10->(∀y∈acc,∃m,n=m+1/\Ct m y)->∃b' ys o',yD (qt 11) (vW (uY 10 (ql R__law_made 0 %[dv 9,d2 yO (dv 2) (d2 zE (dv 11) (d2 ixD (dv 8) (ret (.int 0)))),d2 yO (dv 3) (d2 zE (dv 11) (d2 ixD (dv 8) (ret (.int 1))))|0]))) (is.map λi:Nat=>D.int (i:Nat)) (mE ks r u GD b (some (.int (p:Nat))) (some (tK (nAt ks p))) (some (.tup ((noN ks p).map tK))) (some (.lst acc)) o11)=.ok (.nx (mE ks r u GD b' (some (.int (p:Nat))) (some (tK (nAt ks p))) (some (.tup ((noN ks p).map tK))) (some (.lst (acc++ys))) o'))/\ys.length=is.length/\∀y∈ys,∃m,n=m+1/\Ct m y:=λis=>by
 let Pc:OD:=some (.int (p:Nat))
 let Kn':OD:=some (tK (nAt ks p))
 let Rs:OD:=some (.tup ((noN ks p).map tK))
 let Z' (b:Int) (o7 o8 o9 o10 o11:OD):Env:=mE ks r u GD b o7 o8 o9 o10 o11
 induction is with
 |nil=>intro b acc o11 _ _ _;exact⟨b,[],o11,by rw[ybh];rfl,rfl,λy hy=>by cases hy⟩
 | cons k is ihl=>
  intro b acc o11 hks hacc hct
  have hkn:=hks k mS_
  obtain⟨t,b',e1,m,hm,ct⟩:=ih k hkn b
  have hk9:=hof9 k hkn
  have h1:=((qc6 (r:=r) (t:=k) sx.1).mp hkn).1
  let Zk:Env:=Z' b Pc Kn' Rs (some (.lst acc)) (some (.int (k:Nat)))
  have a1:d2 yO (dv 2) (d2 zE (dv 11) (d2 ixD (dv 8) (ret (.int 0)))) Zk=.ok (.int ((r-k*(nAt ks p).1:Nat):Int),Zk):=qg rfl (qg rfl (qg rfl rfl (tk0 _)) (qbE _ (by omega))) (by
   rw[uE]
   congr 2
   omega)
  have a2:d2 yO (dv 3) (d2 zE (dv 11) (d2 ixD (dv 8) (ret (.int 1)))) Zk=.ok (.int (u-((k*(nAt ks p).2.1:Nat):Int)),Zk):=qg rfl (qg rfl (qg rfl rfl (tk1 _)) (qbE _ (by omega))) (uE _ _)
  have c:ql R__law_made 0 %[dv 9,d2 yO (dv 2) (d2 zE (dv 11) (d2 ixD (dv 8) (ret (.int 0)))),d2 yO (dv 3) (d2 zE (dv 11) (d2 ixD (dv 8) (ret (.int 1))))|0] Zk=.ok (t,Z' b' Pc Kn' Rs (some (.lst acc)) (some (.int (k:Nat)))):=io3 (i:=0) (Z:=Zk) (ds:=[.int b]) rfl rfl a1 a2 e1
  rw[lC_]at hacc
  have ap:=qj5 (i:=10) (Z:=Zk) (ds:=acc) (ds1:=acc) rfl c rfl ct.imm (by omega)
  obtain ⟨b'',ys,o',q,q1,q2⟩:=ihl b' (acc++[t]) (some (.int (k:Nat))) (λx hx=>hks x (mM _ hx)) (by rw[lA_,yaJ];omega) (λy hy=>by
   rcases mA_.mp hy with hy|hy
   ·exact hct y hy
   ·rw[ms_]at hy
    subst hy
    exact⟨m,hm,ct⟩)
  refine⟨b'',t::ys,o',?_,by rw[lC_,lC_,q1],λy hy=>?_⟩
  ·rw[mC_,show acc++t::ys=acc++[t]++ys by simp]
   exact(vJ (Z1:=Zk) rfl ap).trans q
  ·rcases List.mem_cons.mp hy with rfl|hy
   ·exact⟨m,hm,ct⟩
   ·exact q2 y hy
theorem qeJ (n:Nat) (R__law_made:List D->List D->R (D×List D)) (ks:List Nk) (r:Nat) (u b:Int) (hk:∀x∈ks,smN x) (hl:ks.length<=12) (hc:qj3 ks<=3) (hr:r<=9) (ih:∀p,p<ks.length->jK (nAt ks p)=true->∀k,k<=ofN (nAt ks p) r->∀b:Int,∃t b',R__law_made [.int b] [.tup ((noN ks p).map tK),.int ((r-k*(nAt ks p).1:Nat):Int),.int (u-((k*(nAt ks p).2.1:Nat):Int))]=.ok (t,[.int b'])/\∃m,n=m+1/\Ct m t):∃t b',u9 12 4 (j8 R__law_made) [.int b] [.tup (ks.map tK),.int (r:Nat),.int u]=.ok (t,[.int b'])/\Ct n t:=by
 obtain⟨GD,hG,hGl,head⟩:=qiL hk hl hc hr b R__law_made
 let Z (b:Int):Env:=mE ks r u GD b none none none none none
 have first:=qg0 n ks r u b GD hG hGl
 have nilL:=qfx (ds:=(lfN ks).map λi:Nat=>D.int (i:Nat)) λd hd=>by
  obtain⟨p,_,rfl⟩:=mP_.mp hd
  exact qiJ _
 have ln:∀b,jI (ret []) (Z b)=.ok (.lst [],Z b):=λb=>by
  rw[vc]
  simp only[vE,lN_,zA (show 0<=1000000 by omega),if_true]
 have tL:∀b,tst (d2 eqB (dv 6) (jI (ret []))) (Z b)=.ok (((lfN ks).map λi:Nat=>D.int (i:Nat)).isEmpty,Z b):=λb=>qO (qg rfl (ln b) nilL.1)
 rcases first with⟨b1,f1⟩|⟨t,b1,f1,ct⟩
 ·cases hlf:((lfN ks).map λi:Nat=>D.int (i:Nat)).isEmpty with
  |true=>
   have a2:=tL b1
   rw[hlf]at a2
   refine⟨.tup [.str "price",frD 0 1],b1,?_,.price (by omega) (by omega)⟩
   unfold j8
   refine qaP (Z:=Z b1) rfl ?_ rfl
   exact(head _).trans ((qk f1).trans (zd ((vI a2).trans (ye (qbU rfl (qbU rfl rfl))))))
  | false=>
   have a2:=tL b1
   rw[hlf]at a2
   have h0:0<(lfN ks).length:=by
    cases hLL:lfN ks with
    |nil=>rw[hLL]at hlf;cases hlf
    |cons x xs=>simp
   obtain⟨j,hj,hjl⟩:=qiK b1 (lfN ks).length h0
   let p:=(lfN ks)[j]
   have hpm:p∈lfN ks:=ybn hjl
   obtain⟨hp1,hth⟩:=List.mem_filter.mp hpm
   have hp:p<ks.length:=mR_.mp hp1
   have sx:=hk _ (qbi hp)
   have hB:(nAt ks p).1<big:=ybw sx.2.1 (by decide)
   let b2:=b1/(((lfN ks).length:Nat):Int)
   have hll:(lfN ks).length<=12:=by
    have:=yc4 (λi=>jK (nAt ks i)) (yay ks.length)
    rw[lR_]at this
    show((yay ks.length).filter λi=>jK (nAt ks i)).length<=12
    omega
   let Pc:OD:=some (.int (p:Nat))
   let Kn':OD:=some (tK (nAt ks p))
   let Rs:OD:=some (.tup ((noN ks p).map tK))
   let Z' (b:Int) (o7 o8 o9 o10 o11:OD):Env:=mE ks r u GD b o7 o8 o9 o10 o11
   have io:ql qi 0 %[qw yh %[dv 6|0]|0] (Z b1)=.ok (.int (j:Nat),Z b2):=by
    rw[io1 (i:=0) (Z:=Z b1) (ds:=[.int b1]) (a:=.int ((lfN ks).length:Nat)) rfl (yH (a:=.lst ((lfN ks).map λi:Nat=>D.int (i:Nat))) rfl (by show some (D.int (((lfN ks).map λi:Nat=>D.int (i:Nat)).length:Nat))=_;rw[lM_])) (jq (by omega) (by omega)),hj]
    rfl
   have ix:ixD (.lst ((lfN ks).map λi:Nat=>D.int (i:Nat))) (.int (j:Nat))=some (.int (p:Nat)):=qiw (by rw[gM_,gG hjl];rfl)
   have s5:(qN 7 (d2 ixD (dv 6) (ql qi 0 %[qw yh %[dv 6|0]|0]))) (Z b1)=.ok (.nx (Z' b2 Pc none none none none)):=by
    rw[zW (qj4 (f:=dv 6) rfl io ix)]
    rfl
   have s6:(qN 8 (d2 ixD (dv 1) (dv 7))) (Z' b2 Pc none none none none)=.ok (.nx (Z' b2 Pc Kn' none none none)):=zW (qg rfl rfl (qfq hp))
   have s7:(qN 9 (qj zB %[dv 1,dv 7|0])) (Z' b2 Pc Kn' none none none)=.ok (.nx (Z' b2 Pc Kn' Rs none none)):=zW (yI rfl rfl (vU hp hl))
   have s8:(qcd 10 (qmL (ret []))) (Z' b2 Pc Kn' Rs none none)=.ok (.nx (Z' b2 Pc Kn' Rs (some (.lst [])) none)):=by
    rw[qe4,qhT]
    simp only[vE,immL,lN_,zA (show 0<=1000000 by omega),yaF,if_true]
    rfl
   have hof9:∀k,k<=ofN (nAt ks p) r->k<=9:=λk hkn=>by
    have h1:=((qc6 (r:=r) (t:=k) sx.1).mp hkn).1
    have h2:k*1<=k*(nAt ks p).1:=yb1 _ sx.1
    omega
   have lp:=qiM n R__law_made ks r u GD sx hof9 (λk hkn b=>ih p hp hth k hkn b)
   obtain⟨b3,ys,o',q,q1,q2⟩:=lp (yay (ofN (nAt ks p) r+1)) b2 [] none (λk hk=>by have:=mR_.mp hk;omega) (by rw[lN_,lR_];have:=hof9 _ (yac _);omega) (λy hy=>by cases hy)
   rw[ybz]at q
   rw[lR_]at q1
   have h9:=hof9 _ (yac _)
   have s9:(qak (jO %[d2 zf (qj z6 %[dv 8,dv 2|0]) (ret (.int 1))|0]) (qt 11) (vW (uY 10 (ql R__law_made 0 %[dv 9,d2 yO (dv 2) (d2 zE (dv 11) (d2 ixD (dv 8) (ret (.int 0)))),d2 yO (dv 3) (d2 zE (dv 11) (d2 ixD (dv 8) (ret (.int 1))))|0])))) (Z' b2 Pc Kn' Rs (some (.lst [])) none)=.ok (.nx (Z' b3 Pc Kn' Rs (some (.lst ys)) o')):=by
    rw[vG,uD (j:=((ofN (nAt ks p) r+1:Nat):Int)) (Z1:=Z' b2 Pc Kn' Rs (some (.lst [])) none) (qah (qg (yI rfl rfl (wY sx.1 hB r)) rfl rfl)) (by omega) (by omega),yaO,qon]
    exact q
   have hy0:0<ys.length:=by omega
   obtain⟨m,hm,_⟩:=q2 ys[0] (ybn hy0)
   refine⟨.tup [.str "kind",.int (p:Nat),.tup ys],b3,?_,?_⟩
   ·unfold j8
    refine qaP (Z:=Z' b3 Pc Kn' Rs (some (.lst ys)) o') rfl ?_ rfl
    refine(head _).trans ((qk f1).trans ((qk (Z':=Z b1) (qaD a2)).trans ((qk s5).trans ((qk s6).trans ((qk s7).trans ((qk s8).trans ((qk s9).trans (ye (qgR rfl rfl (by rw[qe5];rfl))))))))))
   ·rw [hm]
    exact .kind (by omega) (by omega) hy0 λy hy=>by
     obtain⟨m',hm',ct⟩:=q2 y hy
     have:m'=m:=by omega
     rw[this]at ct
     exact ct
 ·refine⟨t,b1,?_,ct⟩
  unfold j8
  refine qaP (Z:=Z b1) rfl ?_ rfl
  exact(head _).trans (zd f1)
theorem qmC:∀(n:Nat),n<=3->∀(ks:List Nk)(r:Nat)(u b:Int),(∀x∈ks,smN x)->ks.length<=12->qj3 ks<=n->r<=9->∃t b',yA (n+1) [.int b] [.tup (ks.map tK),.int (r:Nat),.int u]=.ok (t,[.int b'])/\Ct n t:=λn=>by
 induction n with
 | zero=>
  intro _ ks r u b hk hl hc hr
  exact qeJ 0 (yA 0) ks r u b hk hl (by omega) hr λp hp hth=>by
   have:=qdM hp hth
   omega
 | succ n ih=>
  intro hn ks r u b hk hl hc hr
  exact qeJ (n+1) (yA (n+1)) ks r u b hk hl (by omega) hr λp hp hth k hkn b=>by
   have e:=qdM hp hth
   have sx:=hk _ (qbi hp)
   have h1:=((qc6 (r:=r) (t:=k) sx.1).mp hkn).1
   have h2:k*1<=k*(nAt ks p).1:=yb1 _ sx.1
   have h3:k*(nAt ks p).2.1<=9*39:=Nat.mul_le_mul (by omega) sx.2.2.1
   obtain⟨t,b',e1,e2⟩:=ih (by omega) (noN ks p) (r-k*(nAt ks p).1) (u-((k*(nAt ks p).2.1:Nat):Int)) b (qkY hk hp) (by rw[qiI];exact hl) (by omega) (by omega)
   exact⟨t,b',e1,n,rfl,e2⟩
theorem vx {wa wb e:Nat} {a b:D} (ha:yG wa e a) (hb:yG wb e b):yG (wa+wb+2) (e+1) (.tup [a,b]):=by
 have h1:=ha.wt;have h2:=hb.wt;have d1:=ha.dp;have d2:=hb.dp
 refine⟨?_,?_,?_,?_⟩
 ·simp only[qX,toPDs,ybN,ybv,ha.lv,hb.lv,yaF]
 ·simp only[qX,toPDs,ya6,yaI,ha.sh,hb.sh,yaF]
 ·simp only[qX,toPDs,ycj,yb0];omega
 ·simp only[qX,toPDs,ya0,yaB];omega
theorem qmD {wa wb e:Nat} {a b:D} (ha:yG wa e a) (hb:yG wb e b):yG (wa+wb+2) (e+1) (.lst [a,b]):=by
 have h1:=ha.wt;have h2:=hb.wt;have d1:=ha.dp;have d2:=hb.dp
 refine⟨?_,?_,?_,?_⟩
 ·simp only[qX,toPDs,ybN,ybv,ha.lv,hb.lv,yaF]
 ·simp only[qX,toPDs,ya6,yaI,ha.sh,hb.sh,yaF]
 ·simp only[qX,toPDs,ycj,yb0];omega
 ·simp only[qX,toPDs,ya0,yaB];omega
theorem qcC {wa wb wc e:Nat} {a b c:D} (ha:yG wa e a) (hb:yG wb e b) (hc:yG wc e c):yG (wa+wb+wc+3) (e+1) (.tup [a,b,c]):=by
 have h1:=ha.wt;have h2:=hb.wt;have h3:=hc.wt;have d1:=ha.dp;have d2:=hb.dp;have d3:=hc.dp
 refine⟨?_,?_,?_,?_⟩
 ·simp only[qX,toPDs,ybN,ybv,ha.lv,hb.lv,hc.lv,yaF]
 ·simp only[qX,toPDs,ya6,yaI,ha.sh,hb.sh,hc.sh,yaF]
 ·simp only[qX,toPDs,ycj,yb0];omega
 ·simp only[qX,toPDs,ya0,yaB];omega
theorem qmE {wa wb wc e:Nat} {a b c:D} (ha:yG wa e a) (hb:yG wb e b) (hc:yG wc e c):yG (wa+wb+wc+3) (e+1) (.lst [a,b,c]):=by
 have h1:=ha.wt;have h2:=hb.wt;have h3:=hc.wt;have d1:=ha.dp;have d2:=hb.dp;have d3:=hc.dp
 refine⟨?_,?_,?_,?_⟩
 ·simp only[qX,toPDs,ybN,ybv,ha.lv,hb.lv,hc.lv,yaF]
 ·simp only[qX,toPDs,ya6,yaI,ha.sh,hb.sh,hc.sh,yaF]
 ·simp only[qX,toPDs,ycj,yb0];omega
 ·simp only[qX,toPDs,ya0,yaB];omega
theorem wm {i:Int} (h:i.natAbs<4096):yG 12 0 (.int i):=by
 have b:=qjV (i:=i) (yfi h (by decide +kernel))
 refine⟨b.lv,b.sh,?_,yac _⟩
 show(if(i==0)=true then 0 else i.natAbs.log2+1)<=12
 split
 ·omega
 ·rename_i hz
  have h0:i.natAbs≠0:=by
   intro z
   have:i=0:=by omega
   exact hz (by rw[this];rfl)
  have:=(yfM h0 (k:=12)).mpr h
  omega
theorem qmF(b:Bool):yG 12 0 (.bl b):=by cases b<;>exact⟨by decide +kernel,by decide +kernel,by decide +kernel,by decide +kernel⟩
theorem nS1:yG 5 0 (.str "price"):=⟨by decide +kernel,by decide +kernel,by decide +kernel,by decide +kernel⟩
theorem nS2:yG 5 0 (.str "kind"):=⟨by decide +kernel,by decide +kernel,by decide +kernel,by decide +kernel⟩
theorem nS3:yG 5 0 (.str "kinds"):=⟨by decide +kernel,by decide +kernel,by decide +kernel,by decide +kernel⟩
theorem nS4:yG 5 0 (.str "cost"):=⟨by decide +kernel,by decide +kernel,by decide +kernel,by decide +kernel⟩
theorem wn{t c:Nat}(h1:t<4096)(h2:c<4096):yG 26 1 (frD t c):=vx (wm (by rw[yb6];exact h1)) (wm (by rw[yb6];exact h2))
def Wc:Nat->Nat
 |0=>40
 |n+1=>40+10*(Wc n+1)
def Wb:Nat->Nat
 |0=>130
 |n+1=>40+max (20*(Wc n+1)) (10*(Wb n+1))
theorem qpJ:∀n,40<=Wc n
 |0=>yac _
 |n+1=>by unfold Wc;omega
theorem qj6:∀n,130<=Wb n
 |0=>yac _
 |n+1=>by
  have:=qj6 n
  unfold Wb
  omega
theorem Wcb:∀n,Wc n<=Wb n
 |0=>by decide
 |n+1=>by
  have:=Wcb n
  unfold Wc Wb
  omega
theorem Ct.nice:∀{n:Nat}{t:D},Ct n t->yG (Wc n) (6+2*n) t:=λh=>by
 induction h with
 | @price n t c h1 h2=>
  have:=qpJ n
  exact(vx (nS1.mono (yac _) (yaD 1)) (wn (t:=t) (c:=c) (by omega) (by omega))).mono (by omega) (by omega)
 | @kind n p ys hp hl h0 h ih=>
  have c:=qdz (n:=10) ih hl
  have e:6+2*n+1+1=6+2*(n+1):=by omega
  have:=qcC (nS2.mono (yac _) (yaD (6+2*n+1))) ((wm (i:=(p:Nat)) (by rw[yb6];omega)).mono (yac _) (yaD (6+2*n+1))) c
  rw[e]at this
  refine this.mono ?_ (yac _)
  show _<=40+10*(Wc n+1)
  omega
theorem qoP {f:M D} {p q:M (Option Int)} {Z:Env} {X Y:D} {l u:Option Int} (ef:f Z=.ok (X,Z)) (ep:p Z=.ok (l,Z)) (eq:q Z=.ok (u,Z)) (es:slB X l u=some Y):wS f p q Z=.ok (Y,Z):=by
 rw[qn9,ef]
 simp only[ep,eq,es]
theorem pt1{g:M D}{Z:Env}{j:Int}(e:g Z=.ok (.int j,Z)):jN g Z=.ok (some j,Z):=by rw[qe6,e]
theorem qqv {f:M D} {Z Z1:Env} {d:D} (e:f Z=.ok (d,Z1)):qF %[f|0] Z=.ok (.tup [d],Z1):=by
 rw[wM,zg,e]
 simp only[vE,lC_,lN_,yaV,zA (show 1<=1000000 by omega),if_true]
theorem ix9{ds:List D}{k:Int}(m:Nat)(h:ds.length=m)(h0:0<=k)(h1:k<m):∃d∈ds,ixD (.lst ds) (.int k)=some d:=qex h0 (by rw[h];exact h1)
def qiN(t c:Nat)(d:D):List D:=[.tup [.str "price",frD (t+1) c],.tup [.str "price",frD 0 1],.tup [.str "price",frD (2*t) (2*c)],.tup [.str "price"],d]++[.tup [.str "price",frD t c,.tup []],.lst [.str "price",frD t c],.tup [.str "cost",frD t c],.tup [.str "price",.int (t:Nat)]]
theorem qj7 {t c:Nat} (h1:t<=1000) (h2:c<=1000) {d:D} (hd:yG 130 5 d) (ht:Th d):∀y∈qiN t c d,Th y/\yG 130 6 y:=λy hy=>by
 have n1:=nS1.mono (yac 5) (yaD 1)
 have n4:=nS4.mono (yac 5) (yaD 1)
 have nf:=wn (t:=t) (c:=c) (by omega) (by omega)
 simp only[qiN,mA_,yav,nN_,or_false]at hy
 rcases hy with(rfl|rfl|rfl|rfl|rfl)|rfl|rfl|rfl|rfl
 ·exact⟨.two rfl (qk1 (by omega) (by omega)),(vx n1 (wn (by omega) (by omega))).mono (by omega) (by omega)⟩
 ·exact⟨.two rfl (qk1 (by omega) (by omega)),(vx n1 (wn (by omega) (by omega))).mono (by omega) (by omega)⟩
 ·exact⟨.two rfl (qk1 (by omega) (by omega)),(vx n1 (wn (by omega) (by omega))).mono (by omega) (by omega)⟩
 ·exact⟨.len (by simp) (by simp),(qis (by decide +kernel)).mono (by omega) (by omega)⟩
 ·exact⟨ht,hd.mono (by omega) (by omega)⟩
 ·refine⟨.thr rfl (λys e=>by cases e;simp) (λys e y hy=>by cases e;cases hy),(qcC n1 nf (show yG 5 1 (.tup []) from⟨by decide +kernel,by decide +kernel,by decide +kernel,by decide +kernel⟩)).mono (by omega) (by omega)⟩
 ·exact⟨.other rfl,(qmD n1 nf).mono (by omega) (by omega)⟩
 ·exact⟨.two rfl (qk1 (by omega) (by omega)),(vx n4 nf).mono (by omega) (by omega)⟩
 ·exact⟨.two rfl (λx y e=>by cases e),(vx nS1 (wm (i:=(t:Nat)) (by rw[yb6];omega))).mono (by omega) (by omega)⟩
theorem qc9 (R__law_bent:List D->List D->R (D×List D)) {t c:Nat} (h1:t<=1000) (h2:c<=1000) {d:D} (hd:yG 130 5 d) (ht:Th d) (b:Int):∃y b',u9 10 3 (jY R__law_bent) [.int b] [.tup [.str "price",frD t c],d]=.ok (y,[.int b'])/\Th y/\yG 130 6 y:=by
 let B:OD:=some (.lst [.int b])
 let C:OD:=some (.tup [.str "price",frD t c])
 let Dd:OD:=some d
 let T:OD:=some (.int (t:Nat))
 let Cc:OD:=some (.int (c:Nat))
 obtain⟨y,hy,ey⟩:=ix9 (ds:=qiN t c d) (k:=b%9) 9 rfl (by omega) (by omega)
 obtain⟨r1,r2⟩:=qj7 h1 h2 hd ht y hy
 refine⟨y,b/9,?_,r1,r2⟩
 let L1:List D:=[.tup [.str "price",frD (t+1) c],.tup [.str "price",frD 0 1],.tup [.str "price",frD (2*t) (2*c)],.tup [.str "price"],d]
 let Z0:Env:=[B,C,Dd,none,none,none,none,none,none,none]
 let Z1:Env:=[B,C,Dd,T,Cc,none,none,none,none,none]
 let Z2:Env:=[B,C,Dd,T,Cc,some (.lst L1),none,none,none,none]
 let Z3:Env:=[B,C,Dd,T,Cc,some (.lst (qiN t c d)),none,none,none,none]
 let Z4:Env:=[some (.lst [.int (b/9)]),C,Dd,T,Cc,some (.lst (qiN t c d)),none,none,none,none]
 have t0:tst (d2 eqB (d2 ixD (dv 1) (ret (.int 0))) (ret (.str "price"))) Z0=.ok (true,Z0):=qO (qg (qg rfl rfl (qj1 _ _)) rfl rfl)
 have s1:(qiV (d2 ixD (dv 1) (ret (.int 1))) (qa3 2 (zm (qt 3) (zm (qt 4) qa2)))) Z0=.ok (.nx Z1):=by
  rw[qhZ,qg (f:=dv 1) (g:=ret (.int 1)) (Z:=Z0) rfl rfl (qg7 _ _)]
  rfl
 have s2:(qN 5 (jI %[qF %[ret (.str "price"),qF %[d2 zf (dv 3) (ret (.int 1)),dv 4|0]|0],qF %[ret (.str "price"),qF %[ret (.int 0),ret (.int 1)|0]|0],qF %[ret (.str "price"),qF %[d2 zE (ret (.int 2)) (dv 3),d2 zE (ret (.int 2)) (dv 4)|0]|0],qF %[ret (.str "price")|0],dv 2|0])) Z1=.ok (.nx Z2):=by
  have c1:qF %[ret (.str "price"),qF %[d2 zf (dv 3) (ret (.int 1)),dv 4|0]|0] Z1=.ok (.tup [.str "price",frD (t+1) c],Z1):=qbU rfl (qbU (qg rfl rfl rfl) rfl)
  have c2:qF %[ret (.str "price"),qF %[ret (.int 0),ret (.int 1)|0]|0] Z1=.ok (.tup [.str "price",frD 0 1],Z1):=qbU rfl (qbU rfl rfl)
  have c3:qF %[ret (.str "price"),qF %[d2 zE (ret (.int 2)) (dv 3),d2 zE (ret (.int 2)) (dv 4)|0]|0] Z1=.ok (.tup [.str "price",frD (2*t) (2*c)],Z1):=qbU rfl (qbU (qg (a:=.int ((2:Nat):Int)) rfl rfl (qbE _ (by omega))) (qg (a:=.int ((2:Nat):Int)) rfl rfl (qbE _ (by omega))))
  have c4:qF %[ret (.str "price")|0] Z1=.ok (.tup [.str "price"],Z1):=qqv rfl
  have c5:dv 2 Z1=.ok (d,Z1):=rfl
  have c:(jI %[qF %[ret (.str "price"),qF %[d2 zf (dv 3) (ret (.int 1)),dv 4|0]|0],qF %[ret (.str "price"),qF %[ret (.int 0),ret (.int 1)|0]|0],qF %[ret (.str "price"),qF %[d2 zE (ret (.int 2)) (dv 3),d2 zE (ret (.int 2)) (dv 4)|0]|0],qF %[ret (.str "price")|0],dv 2|0]) Z1=.ok (.lst L1,Z1):=by
   rw[vc,zg,c1]
   simp only[zg,c2,c3,c4,c5,vE,lC_,lN_,yaV,ybs,zA (show 5<=1000000 by omega),if_true]
   rfl
  rw[zW c]
  rfl
 have s3:(qN 5 (d2 zf (dv 5) (jI %[qF %[ret (.str "price"),qF %[dv 3,dv 4|0],qF (ret [])|0],jI %[ret (.str "price"),d2 ixD (dv 1) (ret (.int 1))|0],qF %[ret (.str "cost"),d2 ixD (dv 1) (ret (.int 1))|0],qF %[ret (.str "price"),dv 3|0]|0]))) Z2=.ok (.nx Z3):=by
  have i1:d2 ixD (dv 1) (ret (.int 1)) Z2=.ok (frD t c,Z2):=qg rfl rfl (qg7 _ _)
  have z0:qF (ret []) Z2=.ok (.tup [],Z2):=by
   rw[wM]
   simp only[vE,lN_,zA (show 0<=1000000 by omega),if_true]
  have c1:qF %[ret (.str "price"),qF %[dv 3,dv 4|0],qF (ret [])|0] Z2=.ok (.tup [.str "price",frD t c,.tup []],Z2):=qgR rfl (qbU rfl rfl) z0
  have c2:jI %[ret (.str "price"),d2 ixD (dv 1) (ret (.int 1))|0] Z2=.ok (.lst [.str "price",frD t c],Z2):=by
   rw[vc,qdB rfl i1]
   simp only[lC_,lN_,yaV,ybs,zA (show 2<=1000000 by omega),if_true]
  have c3:qF %[ret (.str "cost"),d2 ixD (dv 1) (ret (.int 1))|0] Z2=.ok (.tup [.str "cost",frD t c],Z2):=qbU rfl i1
  have c4:qF %[ret (.str "price"),dv 3|0] Z2=.ok (.tup [.str "price",.int (t:Nat)],Z2):=qbU rfl rfl
  have c:(jI %[qF %[ret (.str "price"),qF %[dv 3,dv 4|0],qF (ret [])|0],jI %[ret (.str "price"),d2 ixD (dv 1) (ret (.int 1))|0],qF %[ret (.str "cost"),d2 ixD (dv 1) (ret (.int 1))|0],qF %[ret (.str "price"),dv 3|0]|0]) Z2=.ok (.lst [.tup [.str "price",frD t c,.tup []],.lst [.str "price",frD t c],.tup [.str "cost",frD t c],.tup [.str "price",.int (t:Nat)]],Z2):=by
   rw[vc,zg,c1]
   simp only[zg,c2,c3,c4,vE,lC_,lN_,yaV,ybs,zA (show 4<=1000000 by omega),if_true]
  rw[zW (qg (f:=dv 5) rfl c (ua (by show 5+4<=1000000;omega)))]
  rfl
 have s4:(zu (d2 ixD (dv 5) (ql qi 0 %[ret (.int 9)|0]))) Z3=.ok (.rt y Z4):=by
  have io:ql qi 0 %[ret (.int 9)|0] Z3=.ok (.int (b%9),Z4):=io1 (i:=0) (Z:=Z3) (ds:=[.int b]) (a:=.int 9) rfl rfl (jq (by omega) (by omega))
  exact ye (qj4 (f:=dv 5) rfl io ey)
 unfold jY
 refine qaP (Z:=Z4) rfl ?_ rfl
 exact zd ((vI t0).trans ((qk s1).trans ((qk s2).trans ((qk s3).trans s4))))
def kd3(b:D)(ys:List D):D:=.tup [.str "kind",b,.tup ys]
def qj8(p:Nat)(ys:List D)(zs c1 c2:List D):List D:=[kd3 (.int (p:Nat)) zs,kd3 (.int (p:Nat)) zs,kd3 (.int (p:Nat)) zs,kd3 (.int (p:Nat)) zs]++[kd3 (.int (p:Nat)) c1,kd3 (.int (p:Nat)) (ys++c2),kd3 (.int (p:Nat)) ys.reverse]++[kd3 (.int ((p:Int)+1)) ys,kd3 (.bl (decide (((p:Nat):Int)=1))) ys,.tup [.str "kinds",.int (p:Nat),.tup ys],.tup [.str "kind",.int (p:Nat),.lst ys]]++[.tup [.str "kind",.tup ys],.lst [.str "kind",.int (p:Nat),.tup ys],kd3 (.int ((p:Int)-1)) ys,.tup [.str "price",frD 9 1]]
theorem qk2{b:D}{ys:List D}(hl:ys.length<=1000)(h:∀y∈ys,Th y):Th (kd3 b ys):=.thr rfl (λzs e=>by cases e;exact hl) λzs e=>by cases e;exact h
theorem qgo{w e m:Nat}{b:D}{ys:List D}(hb:yG 12 0 b)(h:∀y∈ys,yG w e y)(hl:ys.length<=m):yG (40+m*(w+1)) (e+2) (kd3 b ys):=(qcC (nS2.mono (yac _) (yaD (e+1))) (hb.mono (yac _) (yaD (e+1))) (qdz h hl)).mono (by omega) (by omega)
theorem qj9 {n p:Nat} {ys zs:List D} (hp:p<=12) (hl:ys.length<=10) (hy:∀y∈ys,Ct n y) (hz:∀z∈zs,Th z/\yG (Wb n) (6+2*n) z) (hzl:zs.length<=10) (h2:ys.length≠2\/True):∀y∈qj8 p ys zs (qbK ys none (some (-1))) (qbK ys (some (-1)) none),Th y/\yG (Wb (n+1)) (6+2*(n+1)) y:=λy hm=>by
 have th:∀y∈ys,Th y:=λy h=>(hy y h).th
 have ni:∀y∈ys,yG (Wc n) (6+2*n) y:=λy h=>(hy y h).nice
 have np:yG 12 0 (.int (p:Nat)):=wm (by rw[yb6];omega)
 have e2:6+2*n+2=6+2*(n+1):=by omega
 have wb:Wb (n+1)=40+max (20*(Wc n+1)) (10*(Wb n+1)):=rfl
 have fit:∀{b:D}{xs:List D},yG 12 0 b->(∀x∈xs,x∈ys)->xs.length<=20->Th (kd3 b xs)/\yG (Wb (n+1)) (6+2*(n+1)) (kd3 b xs):=λ{b xs} hb hx hxl=>⟨qk2 (by omega) λx h=>th x (hx x h),by
  have:=qgo (m:=20) hb (λx h=>ni x (hx x h)) hxl
  rw[e2]at this
  exact this.mono (by rw[wb];omega) (yac _)⟩
 have fitZ:Th (kd3 (.int (p:Nat)) zs)/\yG (Wb (n+1)) (6+2*(n+1)) (kd3 (.int (p:Nat)) zs):=⟨qk2 (by omega) λz h=>(hz z h).1,by
  have:=qgo (m:=10) np (λz h=>(hz z h).2) hzl
  rw[e2]at this
  exact this.mono (by rw[wb];omega) (yac _)⟩
 have l1:=qfn ys none (some (-1))
 have l2:=qfn ys (some (-1)) none
 have nt:=qdz (n:=20) ni (by omega:ys.length<=20)
 have nl:=qjU (n:=20) ni (by omega:ys.length<=20)
 have z0:=yaD (6+2*n+1)
 simp only[qj8,mA_,yav,nN_,or_false]at hm
 rcases hm with(((rfl|rfl|rfl|rfl)|rfl|rfl|rfl)|rfl|rfl|rfl|rfl)|rfl|rfl|rfl|rfl
 ·exact fitZ
 ·exact fitZ
 ·exact fitZ
 ·exact fitZ
 ·exact fit np (λx h=>qiA h) (by omega)
 ·exact fit np (λx h=>(mA_.mp h).elim id qiA) (by rw[lA_];omega)
 ·exact fit np (λx h=>List.mem_reverse.mp h) (by rw[ycr];omega)
 ·exact fit (wm (by omega)) (λx h=>h) (by omega)
 ·exact fit (qmF _) (λx h=>h) (by omega)
 ·refine⟨.thr rfl (λzs e=>by cases e;omega) (λzs e=>by cases e;exact th),?_⟩
  have:=qcC (nS3.mono (yac _) z0) (np.mono (yac _) z0) nt
  rw[show 6+2*n+1+1=6+2*(n+1) by omega]at this
  exact this.mono (by rw[wb];omega) (yac _)
 ·refine⟨.thr rfl (λzs e=>by cases e) (λzs e=>by cases e),?_⟩
  have:=qcC (nS2.mono (yac _) z0) (np.mono (yac _) z0) nl
  rw[show 6+2*n+1+1=6+2*(n+1) by omega]at this
  exact this.mono (by rw[wb];omega) (yac _)
 ·refine ⟨.two rfl (λx y e=>?_),?_⟩
  ·have e':ys=[.int x,.int y]:=by cases e;rfl
   have:=hy (.int x) (by rw[e'];exact mS_)
   cases this
  ·have:=vx (nS2.mono (yac _) z0) nt
   rw[show 6+2*n+1+1=6+2*(n+1) by omega]at this
   exact this.mono (by rw[wb];omega) (yac _)
 ·refine⟨.other rfl,?_⟩
  have:=qmE (nS2.mono (yac _) z0) (np.mono (yac _) z0) nt
  rw[show 6+2*n+1+1=6+2*(n+1) by omega]at this
  exact this.mono (by rw[wb];omega) (yac _)
 ·exact fit (wm (by omega)) (λx h=>h) (by omega)
 ·refine⟨.two rfl (qk1 (by omega) (by omega)),?_⟩
  have:=qj6 (n+1)
  exact(vx (nS1.mono (yac _) (yaD 1)) (wn (t:=9) (c:=1) (by omega) (by omega))).mono (by omega) (by omega)
theorem qrf (x:D):zE (.lst [x]) (.int 4)=some (.lst [x,x,x,x]):=by
 have e3:zx (([x]:List D).length*((4:Int)).toNat)=true:=zA (by show 1*4<=1000000;omega)
 show(if(!([x]:List D).isEmpty&&decide (2<=(4:Int)))&&zx (([x]:List D).length*((4:Int)).toNat)then some (D.lst (yat (4:Int).toNat [x]).flatten)else none)=_
 rw[e3]
 rfl
theorem qiO (R__law_bent:List D->List D->R (D×List D)) {n p:Nat} {ys:List D} (hp:p<=12) (hl:ys.length<=10) (h0:0<ys.length) (hy:∀y∈ys,Ct n y) {d:D} (ih:∀y∈ys,∀b:Int,∃t b',R__law_bent [.int b] [y,d]=.ok (t,[.int b'])/\Th t/\yG (Wb n) (6+2*n) t) (b:Int) :
  ∃y b',u9 10 3 (jY R__law_bent) [.int b] [kd3 (.int (p:Nat)) ys,d]=.ok (y,[.int b'])/\Th y/\yG (Wb (n+1)) (6+2*(n+1)) y:=by
 obtain⟨a,ha,hal⟩:=qiK b ys.length h0
 let b1:=b/((ys.length:Nat):Int)
 obtain⟨t,b2,et,tt,tn⟩:=ih ys[a] (ybn hal) b1
 let zs:=ys.take a++[t]++ys.drop (a+1)
 let C1:=qbK ys none (some (-1))
 let C2:=qbK ys (some (-1)) none
 let b3:=b2/15
 have hzl:zs.length<=10:=by simp only[zs,lA_,yaT,ybF,yaJ];omega
 have hz:∀z∈zs,Th z/\yG (Wb n) (6+2*n) z:=λz h=>by
  have yk:∀y∈ys,Th y/\yG (Wb n) (6+2*n) y:=λy h=>⟨(hy y h).th,(hy y h).nice.mono (Wcb n) (yac _)⟩
  rcases mA_.mp h with h|h
  ·rcases mA_.mp h with h|h
   ·exact yk z (yeQ h)
   ·rw[ms_]at h
    rw[h]
    exact⟨tt,tn⟩
  ·exact yk z (yeP h)
 obtain⟨y,hyL,ey⟩:=ix9 (ds:=qj8 p ys zs C1 C2) (k:=b2%15) 15 rfl (by omega) (by omega)
 obtain⟨r1,r2⟩:=qj9 hp hl hy hz hzl (.inr trivial) y hyL
 refine⟨y,b3,?_,r1,r2⟩
 let C:OD:=some (kd3 (.int (p:Nat)) ys)
 let Dd:OD:=some d
 let Wo:OD:=some (.str "kind")
 let Pl:OD:=some (.int (p:Nat))
 let On:OD:=some (.tup ys)
 let At:OD:=some (.int (a:Nat))
 let L1:List D:=[kd3 (.int (p:Nat)) zs,kd3 (.int (p:Nat)) zs,kd3 (.int (p:Nat)) zs,kd3 (.int (p:Nat)) zs]
 let L2:List D:=[kd3 (.int (p:Nat)) C1,kd3 (.int (p:Nat)) (ys++C2),kd3 (.int (p:Nat)) ys.reverse]
 let L3:List D:=[kd3 (.int ((p:Int)+1)) ys,kd3 (.bl (decide (((p:Nat):Int)=1))) ys,.tup [.str "kinds",.int (p:Nat),.tup ys],.tup [.str "kind",.int (p:Nat),.lst ys]]
 let L4:List D:=[.tup [.str "kind",.tup ys],.lst [.str "kind",.int (p:Nat),.tup ys],kd3 (.int ((p:Int)-1)) ys,.tup [.str "price",frD 9 1]]
 let E (b:Int) (o5 o6 o7 o8 o9:OD):Env:=[some (.lst [.int b]),C,Dd,none,none,o5,o6,o7,o8,o9]
 have t0:tst (d2 eqB (d2 ixD (dv 1) (ret (.int 0))) (ret (.str "price"))) (E b none none none none none)=.ok (false,E b none none none none none):=qO (qg (qg rfl rfl (qpD _ _ _)) rfl rfl)
 have s1:(qiV (dv 1) (qa3 3 (zm (qt 6) (zm (qt 7) (zm (qt 8) qa2))))) (E b none none none none none)=.ok (.nx (E b none Wo Pl On none)):=rfl
 have s2:(qN 9 (ql qi 0 %[qw yh %[dv 8|0]|0])) (E b none Wo Pl On none)=.ok (.nx (E b1 none Wo Pl On At)):=by
  have io:ql qi 0 %[qw yh %[dv 8|0]|0] (E b none Wo Pl On none)=.ok (.int (a:Nat),E b1 none Wo Pl On none):=by
   rw[io1 (i:=0) (Z:=E b none Wo Pl On none) (ds:=[.int b]) (a:=.int (ys.length:Nat)) rfl (yH (a:=.tup ys) rfl (zP ys)) (jq (by omega) (by omega)),ha]
   rfl
  rw[zW io]
  rfl
 let Z2:Env:=E b1 none Wo Pl On At
 let Z3:Env:=E b2 none Wo Pl On At
 have e8:dv 8 Z2=.ok (.tup ys,Z2):=rfl
 have e8':dv 8 Z3=.ok (.tup ys,Z3):=rfl
 have s3:(qN 5 (d2 zE (jI %[qF %[dv 6,dv 7,d2 zf (d2 zf (wS (dv 8) (ret none) (jN (dv 9))) (qF %[ql R__law_bent 0 %[d2 ixD (dv 8) (dv 9),dv 2|0]|0])) (wS (dv 8) (jN (d2 zf (dv 9) (ret (.int 1)))) (ret none))|0]|0]) (ret (.int 4)))) Z2=.ok (.nx (E b2 (some (.lst L1)) Wo Pl On At)):=by
  have c1:wS (dv 8) (ret none) (jN (dv 9)) Z2=.ok (.tup (ys.take a),Z2):=qoP e8 rfl (pt1 (j:=(a:Nat)) rfl) (show slB (.tup ys) none (some ((a:Nat):Int))=some (.tup (ys.take a)) by rw[slB,qdC _ a (by omega)])
  have c2:wS (dv 8) (jN (d2 zf (dv 9) (ret (.int 1)))) (ret none) Z3=.ok (.tup (ys.drop (a+1)),Z3):=qoP e8' (pt1 (j:=((a+1:Nat):Int)) (qg rfl rfl rfl)) rfl (show slB (.tup ys) (some ((a+1:Nat):Int)) none=some (.tup (ys.drop (a+1))) by rw[slB,qdD _ (a+1) (by omega)])
  have ix:d2 ixD (dv 8) (dv 9) Z2=.ok (ys[a],Z2):=qg rfl rfl (qew (gG hal))
  have io:ql R__law_bent 0 %[d2 ixD (dv 8) (dv 9),dv 2|0] Z2=.ok (t,Z3):=io2 (i:=0) (Z:=Z2) (ds:=[.int b1]) rfl ix rfl et
  have c3:=qj4 (F:=zf) (qj4 (F:=zf) c1 (qqv io) (vf (by rw[yaT,yaJ];omega))) c2 (vf (by simp only[lA_,yaT,ybF,yaJ];omega))
  have c4:qa (dv 6) %[dv 7,d2 zf (d2 zf (wS (dv 8) (ret none) (jN (dv 9))) (qF %[ql R__law_bent 0 %[d2 ixD (dv 8) (dv 9),dv 2|0]|0])) (wS (dv 8) (jN (d2 zf (dv 9) (ret (.int 1)))) (ret none))|0] Z2=.ok ([.str "kind",.int (p:Nat),.tup zs],Z3):=by
   have e6:dv 6 Z2=.ok (.str "kind",Z2):=rfl
   have e7:dv 7 Z2=.ok (.int (p:Nat),Z2):=rfl
   rw[zg,e6]
   simp only[zg,e7,c3,vE]
   rfl
  have c5:(jI %[qF %[dv 6,dv 7,d2 zf (d2 zf (wS (dv 8) (ret none) (jN (dv 9))) (qF %[ql R__law_bent 0 %[d2 ixD (dv 8) (dv 9),dv 2|0]|0])) (wS (dv 8) (jN (d2 zf (dv 9) (ret (.int 1)))) (ret none))|0]|0]) Z2=.ok (.lst [kd3 (.int (p:Nat)) zs],Z3):=by
   have c6:qF %[dv 6,dv 7,d2 zf (d2 zf (wS (dv 8) (ret none) (jN (dv 9))) (qF %[ql R__law_bent 0 %[d2 ixD (dv 8) (dv 9),dv 2|0]|0])) (wS (dv 8) (jN (d2 zf (dv 9) (ret (.int 1)))) (ret none))|0] Z2=.ok (kd3 (.int (p:Nat)) zs,Z3):=by
    rw[wM,c4]
    simp only[lC_,lN_,yaV,ybs,zA (show 3<=1000000 by omega),if_true]
    rfl
   rw[vc,zg,c6]
   simp only[vE,lC_,lN_,yaV,zA (show 1<=1000000 by omega),if_true]
  rw[zW (qj4 c5 (g:=ret (.int 4)) rfl (qrf _))]
  rfl
 let Z4:Env:=E b2 (some (.lst L1)) Wo Pl On At
 let Z5:Env:=E b2 (some (.lst (L1++L2))) Wo Pl On At
 let Z6:Env:=E b2 (some (.lst (L1++L2++L3))) Wo Pl On At
 let Z7:Env:=E b3 (some (.lst (L1++L2++L3))) Wo Pl On At
 have s4:(qN 5 (d2 zf (dv 5) (jI %[qF %[dv 6,dv 7,wS (dv 8) (ret none) (jN (d1 qbA (ret (.int 1))))|0],qF %[dv 6,dv 7,d2 zf (dv 8) (wS (dv 8) (jN (d1 qbA (ret (.int 1)))) (ret none))|0],qF %[dv 6,dv 7,qet (dv 8)|0]|0]))) Z4=.ok (.nx Z5):=by
  have e8:dv 8 Z4=.ok (.tup ys,Z4):=rfl
  have ng:d1 qbA (ret (.int 1)) Z4=.ok (.int (-1),Z4):=rfl
  have c1:wS (dv 8) (ret none) (jN (d1 qbA (ret (.int 1)))) Z4=.ok (.tup C1,Z4):=qoP e8 rfl (pt1 ng) rfl
  have c2:wS (dv 8) (jN (d1 qbA (ret (.int 1)))) (ret none) Z4=.ok (.tup C2,Z4):=qoP e8 (pt1 ng) rfl rfl
  have l2:=qfn ys (some (-1)) none
  have c3:d2 zf (dv 8) (wS (dv 8) (jN (d1 qbA (ret (.int 1)))) (ret none)) Z4=.ok (.tup (ys++C2),Z4):=qg e8 c2 (vf (by show ys.length+(qbK ys (some (-1)) none).length<=1000000;omega))
  have c4:qet (dv 8) Z4=.ok (.tup ys.reverse,Z4):=by
   rw[ql8,e8]
   rfl
  have x1:qF %[dv 6,dv 7,wS (dv 8) (ret none) (jN (d1 qbA (ret (.int 1))))|0] Z4=.ok (kd3 (.int (p:Nat)) C1,Z4):=qgR rfl rfl c1
  have x2:qF %[dv 6,dv 7,d2 zf (dv 8) (wS (dv 8) (jN (d1 qbA (ret (.int 1)))) (ret none))|0] Z4=.ok (kd3 (.int (p:Nat)) (ys++C2),Z4):=qgR rfl rfl c3
  have x3:qF %[dv 6,dv 7,qet (dv 8)|0] Z4=.ok (kd3 (.int (p:Nat)) ys.reverse,Z4):=qgR rfl rfl c4
  have c:(jI %[qF %[dv 6,dv 7,wS (dv 8) (ret none) (jN (d1 qbA (ret (.int 1))))|0],qF %[dv 6,dv 7,d2 zf (dv 8) (wS (dv 8) (jN (d1 qbA (ret (.int 1)))) (ret none))|0],qF %[dv 6,dv 7,qet (dv 8)|0]|0]) Z4=.ok (.lst L2,Z4):=by
   rw[vc,zg,x1]
   simp only[zg,x2,x3,vE,lC_,lN_,yaV,ybs,zA (show 3<=1000000 by omega),if_true]
   rfl
  rw[zW (qg (f:=dv 5) rfl c (ua (by show 4+3<=1000000;omega)))]
  rfl
 have s5:(qN 5 (d2 zf (dv 5) (jI %[qF %[dv 6,d2 zf (dv 7) (ret (.int 1)),dv 8|0],qF %[dv 6,d2 eqB (dv 7) (ret (.int 1)),dv 8|0],qF %[ret (.str "kinds"),dv 7,dv 8|0],qF %[dv 6,dv 7,qw qbJ %[dv 8|0]|0]|0]))) Z5=.ok (.nx Z6):=by
  have x1:qF %[dv 6,d2 zf (dv 7) (ret (.int 1)),dv 8|0] Z5=.ok (kd3 (.int ((p:Int)+1)) ys,Z5):=qgR rfl (qg rfl rfl (yi _ _)) rfl
  have x2:qF %[dv 6,d2 eqB (dv 7) (ret (.int 1)),dv 8|0] Z5=.ok (kd3 (.bl (decide (((p:Nat):Int)=1))) ys,Z5):=qgR rfl (qg rfl rfl (v0 _ _)) rfl
  have x3:qF %[ret (.str "kinds"),dv 7,dv 8|0] Z5=.ok (.tup [.str "kinds",.int (p:Nat),.tup ys],Z5):=qgR rfl rfl rfl
  have x4:qF %[dv 6,dv 7,qw qbJ %[dv 8|0]|0] Z5=.ok (.tup [.str "kind",.int (p:Nat),.lst ys],Z5):=qgR rfl rfl (yH (a:=.tup ys) rfl (qeA _))
  have c:(jI %[qF %[dv 6,d2 zf (dv 7) (ret (.int 1)),dv 8|0],qF %[dv 6,d2 eqB (dv 7) (ret (.int 1)),dv 8|0],qF %[ret (.str "kinds"),dv 7,dv 8|0],qF %[dv 6,dv 7,qw qbJ %[dv 8|0]|0]|0]) Z5=.ok (.lst L3,Z5):=by
   rw[vc,zg,x1]
   simp only[zg,x2,x3,x4,vE,lC_,lN_,yaV,ybs,zA (show 4<=1000000 by omega),if_true]
   rfl
  rw[zW (qg (f:=dv 5) rfl c (ua (by show 7+4<=1000000;omega)))]
  rfl
 have s6:(zu (d2 ixD (d2 zf (dv 5) (jI %[qF %[dv 6,dv 8|0],qw qbJ %[dv 1|0],qF %[dv 6,d2 yO (dv 7) (ret (.int 1)),dv 8|0],qF %[ret (.str "price"),qF %[ret (.int 9),ret (.int 1)|0]|0]|0])) (ql qi 0 %[ret (.int 15)|0]))) Z6=.ok (.rt y Z7):=by
  have x1:qF %[dv 6,dv 8|0] Z6=.ok (.tup [.str "kind",.tup ys],Z6):=qbU rfl rfl
  have x2:qw qbJ %[dv 1|0] Z6=.ok (.lst [.str "kind",.int (p:Nat),.tup ys],Z6):=yH (a:=kd3 (.int (p:Nat)) ys) rfl (qeA _)
  have x3:qF %[dv 6,d2 yO (dv 7) (ret (.int 1)),dv 8|0] Z6=.ok (kd3 (.int ((p:Int)-1)) ys,Z6):=qgR rfl (qg rfl rfl (uE _ _)) rfl
  have x4:qF %[ret (.str "price"),qF %[ret (.int 9),ret (.int 1)|0]|0] Z6=.ok (.tup [.str "price",frD 9 1],Z6):=qbU rfl (qbU rfl rfl)
  have c:(jI %[qF %[dv 6,dv 8|0],qw qbJ %[dv 1|0],qF %[dv 6,d2 yO (dv 7) (ret (.int 1)),dv 8|0],qF %[ret (.str "price"),qF %[ret (.int 9),ret (.int 1)|0]|0]|0]) Z6=.ok (.lst L4,Z6):=by
   rw[vc,zg,x1]
   simp only[zg,x2,x3,x4,vE,lC_,lN_,yaV,ybs,zA (show 4<=1000000 by omega),if_true]
   rfl
  have cc:(d2 zf (dv 5) (jI %[qF %[dv 6,dv 8|0],qw qbJ %[dv 1|0],qF %[dv 6,d2 yO (dv 7) (ret (.int 1)),dv 8|0],qF %[ret (.str "price"),qF %[ret (.int 9),ret (.int 1)|0]|0]|0])) Z6=.ok (.lst (qj8 p ys zs C1 C2),Z6):=qg (f:=dv 5) rfl c (ua (by show 11+4<=1000000;omega))
  have io:ql qi 0 %[ret (.int 15)|0] Z6=.ok (.int (b2%15),Z7):=io1 (i:=0) (Z:=Z6) (ds:=[.int b2]) (a:=.int 15) rfl rfl (jq (by omega) (by omega))
  exact ye (qj4 cc io ey)
 unfold jY
 refine qaP (Z:=Z7) rfl ?_ rfl
 exact(qk (Z':=E b none none none none none) (qaD t0)).trans ((qk s1).trans ((qk s2).trans ((qk s3).trans ((qk s4).trans ((qk s5).trans s6)))))
theorem qfy {d:D} (hd:yG 130 5 d) (ht:Th d):∀(n:Nat)(t:D),Ct n t->∀b:Int,∃y b',jZ (n+1) [.int b] [t,d]=.ok (y,[.int b'])/\Th y/\yG (Wb n) (6+2*n) y:=λn=>by
 induction n with
 |zero=>
  intro t h b
  cases h with
  |price h1 h2=>exact qc9 (jZ 0) h1 h2 hd ht b
 | succ n ih=>
  intro t h b
  cases h with
  |price h1 h2=>
   obtain⟨y,b',e,e1,e2⟩:=qc9 (jZ (n+1)) h1 h2 hd ht b
   exact⟨y,b',e,e1,e2.mono (qj6 _) (by omega)⟩
  | @kind _ p ys hp hl h0 hy=>exact qiO (jZ (n+1)) hp hl h0 hy (λy hm b=>ih y (hy y hm) b) b
section
variable{d:D}(hs:vp d=true)
include hs
theorem qoB {r:Nat} (hr:r<=200) (u:Int):qR [d,.int (r:Nat),.int u]=.ok .non:=by
 unfold qR
 let Z:Env:=[some d,some (.int (r:Nat)),some (.int u)]
 refine qer rfl ⟨Z,?_⟩
 unfold zJ
 refine(qk (Z':=Z) ?_).trans ((qk (Z':=Z) ?_).trans ((qk (Z':=Z) ?_).trans ?_))
 ·push_cast [Z,uG _ hs]
 ·push_cast [Z,wj _ (qow r)]
 ·push_cast [Z,qaX (.int u) rfl]
 ·push_cast [Z,qfs (show((r:Nat):Int)<=200 by omega)]
theorem qpK:qR [d,.int 201,.int 1]=.exc ⟨"TooMany",.non⟩ [some d,some (.int 201),some (.int 1)]:=by
 unfold qR
 let Z:Env:=[some d,some (.int 201),some (.int 1)]
 refine qcm rfl ?_
 unfold zJ
 refine(qk (Z':=Z) ?_).trans ((qk (Z':=Z) ?_).trans ((qk (Z':=Z) ?_).trans ?_))
 ·push_cast [Z,uG _ hs]
 ·push_cast [Z,wj (.int 201) rfl]
 ·push_cast [Z,qaX (.int 1) rfl]
 ·push_cast [Z,qgW,qpA]
theorem qpL:qR [d,.int (-1),.int 1]=.exc ⟨"NoNumber",.non⟩ [some d,some (.int (-1)),some (.int 1)]:=by
 unfold qR
 let Z:Env:=[some d,some (.int (-1)),some (.int 1)]
 refine qcm rfl ?_
 unfold zJ
 refine(qk (Z':=Z) ?_).trans (qie ?_)
 ·push_cast [Z,uG _ hs]
 ·push_cast [Z,qeD (.int (-1)) rfl,qou]
theorem qpM:qR [d,.int 201,.non]=.exc ⟨"NoNumber",.non⟩ [some d,some (.int 201),some .non]:=by
 unfold qR
 let Z:Env:=[some d,some (.int 201),some .non]
 refine qcm rfl ?_
 unfold zJ
 refine(qk (Z':=Z) ?_).trans ((qk (Z':=Z) ?_).trans (qie ?_))
 ·push_cast [Z,uG _ hs]
 ·push_cast [Z,wj (.int 201) rfl]
 ·push_cast [Z,qeE .non rfl,qou]
end
theorem qk3 {F:List D->R D} {l:M (List D)} {Z Z':Env} {ds:List D} {n:Str} (hl:l Z=.ok (ds,Z)) (h:F ds=.exc ⟨n,.non⟩ Z') (hn:RN.contains n=true):wP RN F l Z=.exc ⟨n,.non⟩ Z:=by
 rw[qbS,hl]
 simp only[h,hn,if_true]
theorem qpN {s x u:D} {n:Str} (h:qR [s,x,u]=.exc ⟨n,.non⟩ [some s,some x,some u]) (hn:RN.contains n=true):ji [.non,s,x,u]=.exc ⟨n,.non⟩ [some .non,some s,some x,some u]:=by
 unfold ji qaW
 refine qcm rfl (qie ?_)
 show vW _ [some .non,some s,some x,some u]=_
 rw[qbb,qk3 (Z:=[some .non,some s,some x,some u]) (qfo (a:=s) (b:=x) (c:=u) rfl rfl rfl) h hn]
theorem qiP {s x u:D} {n:Str} {w:D} (h:qR [s,x,u]=.exc ⟨n,.non⟩ [some s,some x,some u]) (hn:RN.contains n=true) (hm:jX [.exc n]=.ok w):qZ [s,x,u]=.ok w:=by
 let Z:Env:=[some s,some x,some u,none]
 unfold qZ
 refine yP rfl ⟨Z,?_⟩
 unfold qaz
 refine zd (qpx (n:=n) (v:=.non) ?_ hn hm)
 have a4:qa (ret .non) %[dv 0,dv 1,dv 2|0] Z=.ok ([.non,s,x,u],Z):=by
  rw[zg]
  simp only[vE,qfo (Z:=Z) (f:=dv 0) (g:=dv 1) (h:=dv 2) (a:=s) (b:=x) (c:=u) rfl rfl rfl]
 show vW _ Z=_
 rw[qbb,qk3 a4 (qpN h hn) hn]
theorem qiQ {t d:D} (hs:vp d=true) {r:Nat} (hr:r<=200) {u:Int} {v:Bool} (h:qbo [t,d,.int (r:Nat),.int u]=.ok (.bl v)):ji [t,d,.int (r:Nat),.int u]=.ok (.bl v):=by
 unfold ji qaW
 let Z:Env:=[some t,some d,some (.int (r:Nat)),some (.int u)]
 refine qpk rfl ⟨Z,(qk (Z':=Z) ?_).trans (ye (qcA rfl rfl rfl rfl h))⟩
 show vW _ Z=_
 rw[qbb,qbS,qfo (Z:=Z) (f:=dv 1) (g:=dv 2) (h:=dv 3) (a:=d) (b:=.int (r:Nat)) (c:=.int u) rfl rfl rfl]
 simp only[qoB hs hr u]
def thB:D->Bool
 |.tup [_,_]=>false
 |.tup [a,_,c]=>scal a && !vB (tyD c) "tuple"
 |_=>true
theorem qpO {d:D} (h:thB d=true):Th d:=by
 cases d with
 | tup xs=>
  match xs,h with
  | [],_=>exact .len (by simp) (by simp)
  | [_],_=>exact .len (by simp) (by simp)
  | [a,b,c],h=>
   have h':scal a=true/\vB (tyD c) "tuple"=false:=by simpa [thB] using h
   refine .thr h'.1 (λys e=>?_) (λys e=>?_)
   ·rw[e]at h'
    exact absurd h'.2 (by rw[yF];simp)
   ·rw[e]at h'
    exact absurd h'.2 (by rw[yF];simp)
  |_::_::_::_::_,_=>exact .len (by simp) (by simp)
 |_=>exact .other (by first|decide|rfl)
theorem qmG:(qey++qez).all thB=true:=by decide +kernel
theorem qpP (n:Int):∃d n',zK [.int n] []=.ok (d,[.int n'])/\yG 130 5 d/\Th d:=by
 obtain⟨d,hd,e⟩:=qex (ds:=qey++qez) (k:=n%22) (by omega) (by show n%22<22;omega)
 have hn:=List.all_eq_true.mp qit d hd
 rw[yal]at hn
 refine⟨d,n/22,?_,qis hn.1,qpO (List.all_eq_true.mp qmG d hd)⟩
 unfold zK
 refine qaP (Z:=[some (.lst [.int (n/22)]),some (.lst (qey++qez))]) rfl ?_ rfl
 unfold ym
 refine(qk (Z':=[some (.lst [.int n]),some (.lst qey)]) ?_).trans ?_
 ·push_cast [neg_int,qmk,zA (show 1<=1000000 by omega),zA (show 2<=1000000 by omega),zA (show 14<=1000000 by omega),qey]
 refine(qk (Z':=[some (.lst [.int n]),some (.lst (qey++qez))]) ?_).trans ?_
 ·have e2:=ua (xs:=qey) (ys:=qez) (by decide)
  simp only[qez]at e2
  push_cast [neg_int,zA (show 1<=1000000 by omega),zA (show 3<=1000000 by omega),zA (show 8<=1000000 by omega),e2,qez]
 ·push_cast [jq (m:=22) (by decide) (by decide),e]
theorem qiR {w e:Nat} {d:D} (h:yG w e d) (hw:w<=390000) (he:e<=50):qav d=true:=by
 have h1:=PyData.shown_le 40 (by omega) _ h.lv
 have h2:(40+2)*(qX d).weight<=42*390000:=yb1 _ (yau h.wt hw)
 have h3:=h.dp
 have e1:(qX d).shown.length<=yaq:=by rw[yfD];omega
 have e2:(qX d).depth<=50:=by omega
 simp only[qav,h.sh,e1,e2,decide_true,ybb]
theorem rE{d:D}(h:qav d=true):vn [d]=some (.str (qX d).shown):=by simp only[vn,h,if_true]
theorem wb3:Wb 3<=390000:=by decide +kernel
section
variable{ks:List Nk}(hk:∀x∈ks,smN x)(hl:ks.length<=3)(hs:vp (.tup (ks.map tK))=true){r:Nat}(hr:r<=9)
include hk hl hs hr
theorem qg1 {t:D} (ht:Th t) (hn:yG (Wb 3) 12 t) (u:Int) (S I B Od Be Cu o10 o11:OD):∃q10 q11,(qE (qN 10 (qw vn %[dv 9|0])) (qE (qN 11 (qj qQ %[dv 9,dv 3,dv 4,dv 7|0])) (sif (tor (js (tst (qj zr %[vd ji %[dv 9,dv 3,dv 4,dv 7|0],dv 11|0]))) (tst (d2 neB (qw vn %[dv 9|0]) (dv 10)))) (zu (ret (.bl false))) z9))) [S,I,B,some (.tup (ks.map tK)),some (.int (r:Nat)),Od,Be,some (.int u),Cu,some t,o10,o11]=.ok (.nx [S,I,B,some (.tup (ks.map tK)),some (.int (r:Nat)),Od,Be,some (.int u),Cu,some t,q10,q11]):=by
 have okt:qav t=true:=qiR hn wb3 (by omega)
 have hc:qj3 ks<=3:=yau (yeE) hl
 obtain⟨v,e1,e2⟩:=qgm 3 ks t r u ht hc (by omega) hk (by omega)
 let K:OD:=some (.tup (ks.map tK))
 let Ro:OD:=some (.int (r:Nat))
 let U:OD:=some (.int u)
 let H:OD:=some (.str (qX t).shown)
 let Z0:Env:=[S,I,B,K,Ro,Od,Be,U,Cu,some t,o10,o11]
 let Z1:Env:=[S,I,B,K,Ro,Od,Be,U,Cu,some t,H,o11]
 let Z2:Env:=[S,I,B,K,Ro,Od,Be,U,Cu,some t,H,some (.bl v)]
 have s0:(qN 10 (qw vn %[dv 9|0])) Z0=.ok (.nx Z1):=zW (yH (a:=t) rfl (rE okt))
 have s1:(qN 11 (qj qQ %[dv 9,dv 3,dv 4,dv 7|0])) Z1=.ok (.nx Z2):=zW (qcA rfl rfl rfl rfl e2)
 have a4:qa (dv 9) %[dv 3,dv 4,dv 7|0] Z2=.ok ([t,.tup (ks.map tK),.int (r:Nat),.int u],Z2):=by
  have e9:dv 9 Z2=.ok (t,Z2):=rfl
  rw[zg,e9]
  simp only[qfo (Z:=Z2) (f:=dv 3) (g:=dv 4) (h:=dv 7) (a:=.tup (ks.map tK)) (b:=.int (r:Nat)) (c:=.int u) rfl rfl rfl]
 have c1:vd ji %[dv 9,dv 3,dv 4,dv 7|0] Z2=.ok (.bl v,Z2):=by
  rw[qdt,a4]
  simp only[qiQ hs (show r<=200 by omega) e1]
 have t1:js (tst (qj zr %[vd ji %[dv 9,dv 3,dv 4,dv 7|0],dv 11|0])) Z2=.ok (false,Z2):=by
  have:=zN (qO (yI c1 (g:=dv 11) rfl (qcz v v)))
  have hv:(v==v)=true:=by cases v<;>rfl
  rw[hv]at this
  exact this
 have t2:=qO (qg (Z:=Z2) (yH (f:=dv 9) (a:=t) rfl (rE okt)) (g:=dv 10) rfl (qiu _))
 exact⟨H,some (.bl v),(qk s0).trans ((qk s1).trans ((qaD (qaV t1 t2)).trans rfl))⟩
theorem qoC {d:D} (hd:yG 130 5 d) (hdt:Th d) (u b:Int) (S I Be o8 o9 o10 o11:OD):∃b' q8 q9 q10 q11,(qE (qN 8 (ql j9 2 %[dv 3,dv 4,dv 7|0])) (qak (wD (d2 zf (jI %[dv 8,qF %[ret (.str "price"),qF %[ret (.int 1),ret (.int 1)|0]|0],dv 5|0]) (jJ 1 [2,8,5] (some (1,2)) (jO %[ret (.int 3)|0]) (qt 0) (ret true) (ql zh 1 %[dv 2,dv 3|0])))) (qt 9) (qE (qN 10 (qw vn %[dv 9|0])) (qE (qN 11 (qj qQ %[dv 9,dv 3,dv 4,dv 7|0])) (sif (tor (js (tst (qj zr %[vd ji %[dv 9,dv 3,dv 4,dv 7|0],dv 11|0]))) (tst (d2 neB (qw vn %[dv 9|0]) (dv 10)))) (zu (ret (.bl false))) z9))))) [S,I,some (.lst [.int b]),some (.tup (ks.map tK)),some (.int (r:Nat)),some d,Be,some (.int u),o8,o9,o10,o11]=.ok (.nx [S,I,some (.lst [.int b']),some (.tup (ks.map tK)),some (.int (r:Nat)),some d,Be,some (.int u),q8,q9,q10,q11]):=by
 have hc:qj3 ks<=3:=yau (yeE) hl
 obtain⟨cut,b1,em,ct⟩:=qmC 3 (yac _) ks r u b hk (by omega) hc hr
 obtain⟨t1,m1,e1,g1,n1⟩:=qfy hd hdt 3 cut ct b1
 obtain⟨t2,m2,e2,g2,n2⟩:=qfy hd hdt 3 cut ct m1
 obtain⟨t3,m3,e3,g3,n3⟩:=qfy hd hdt 3 cut ct m2
 let K:OD:=some (.tup (ks.map tK))
 let Ro:OD:=some (.int (r:Nat))
 let Od:OD:=some d
 let U:OD:=some (.int u)
 let Cu:OD:=some cut
 let P1:D:=.tup [.str "price",frD 1 1]
 let Ts:List D:=[cut,P1,d]++[t1,t2,t3]
 have hT:∀x∈Ts,Th x/\yG (Wb 3) 12 x:=λx hx=>by
  have w3:=qj6 3
  simp only[Ts,mA_,yav,nN_,or_false]at hx
  rcases hx with(rfl|rfl|rfl)|rfl|rfl|rfl
  ·exact⟨ct.th,ct.nice.mono (Wcb 3) (by omega)⟩
  ·exact⟨.two rfl (qk1 (by omega) (by omega)),(vx (nS1.mono (yac _) (yaD 1)) (wn (t:=1) (c:=1) (by omega) (by omega))).mono (by omega) (by omega)⟩
  ·exact⟨hdt,hd.mono (by omega) (by omega)⟩
  ·exact⟨g1,n1⟩
  ·exact⟨g2,n2⟩
  ·exact⟨g3,n3⟩
 let Bx (b:Int):OD:=some (.lst [.int b])
 let Z0:Env:=[S,I,Bx b,K,Ro,Od,Be,U,o8,o9,o10,o11]
 let Z1:Env:=[S,I,Bx b1,K,Ro,Od,Be,U,Cu,o9,o10,o11]
 let Z2:Env:=[S,I,Bx m3,K,Ro,Od,Be,U,Cu,o9,o10,o11]
 obtain ⟨Zr,qr,p9,p10,p11,rfl⟩:=qaU (G:=qt 9) (b:=(qE (qN 10 (qw vn %[dv 9|0])) (qE (qN 11 (qj qQ %[dv 9,dv 3,dv 4,dv 7|0])) (sif (tor (js (tst (qj zr %[vd ji %[dv 9,dv 3,dv 4,dv 7|0],dv 11|0]))) (tst (d2 neB (qw vn %[dv 9|0]) (dv 10)))) (zu (ret (.bl false))) z9)))) (k:=λx:D=>x) (step:=λ(s:Unit) (_:D)=>s) (Inv:=λ_ _ Z=>∃o9 o10 o11,Z=[S,I,Bx m3,K,Ro,Od,Be,U,Cu,o9,o10,o11]) Ts 0 () Z2 ⟨o9,o10,o11,rfl⟩ (λx hx k _ Z _ _=>by
  rintro⟨o9,o10,o11,rfl⟩
  obtain⟨q10,q11,e⟩:=qg1 hk hl hs hr (hT x hx).1 (hT x hx).2 u S I (Bx m3) Od Be Cu o10 o11
  exact⟨[S,I,Bx m3,K,Ro,Od,Be,U,Cu,some x,o10,o11],_,rfl,e,some x,q10,q11,rfl⟩)
 rw[List.map_id']at qr
 refine⟨m3,Cu,p9,p10,p11,(qk (Z':=Z1) ?_).trans ?_⟩
 ·have io:ql j9 2 %[dv 3,dv 4,dv 7|0] Z0=.ok (cut,[S,I,Bx b1,K,Ro,Od,Be,U,o8,o9,o10,o11]):=io3 (i:=2) (Z:=Z0) (ds:=[.int b]) rfl rfl rfl rfl em
  rw[zW io]
  rfl
 ·have io:∀(j a b:Int)(t:D),zh [.int a] [cut,d]=.ok (t,[.int b])->ql zh 1 %[dv 2,dv 3|0] [some (.int j),Bx a,Cu,Od]=.ok (t,[some (.int j),Bx b,Cu,Od]):=λj a b t e=>io2 (i:=1) (Z:=[some (.int j),Bx a,Cu,Od]) (ds:=[.int a]) rfl rfl rfl e
  have cl:∀(j a b:Int)(t:D)(ds acc:List D)(o:OD),zh [.int a] [cut,d]=.ok (t,[.int b])->acc.length<=100->jh (qt 0) (ret true) (ql zh 1 %[dv 2,dv 3|0]) (.int j::ds) acc [o,Bx a,Cu,Od]=jh (qt 0) (ret true) (ql zh 1 %[dv 2,dv 3|0]) ds (acc++[t]) [some (.int j),Bx b,Cu,Od]:=λj a b t ds acc o e ha=>by
   rw[jh]
   simp only[qt,ybM,vE,io j a b t e,zA (show acc.length+1<=1000000 by omega),if_true]
  have cc:(jJ 1 [2,8,5] (some (1,2)) (jO %[ret (.int 3)|0]) (qt 0) (ret true) (ql zh 1 %[dv 2,dv 3|0])) Z1=.ok (.lst [t1,t2,t3],Z2):=by
   rw[qdo]
   have rg:jO %[ret (.int 3)|0] Z1=.ok ([.int 0,.int 1,.int 2],Z1):=by
    rw[uD (qah rfl) (by omega) (by omega)]
    rfl
   rw[rg]
   have el:jh (qt 0) (ret true) (ql zh 1 %[dv 2,dv 3|0]) [.int 0,.int 1,.int 2] [] [none,Bx b1,Cu,Od]=.ok ([t1,t2,t3],[some (.int 2),Bx m3,Cu,Od]):=by
    rw[cl 0 b1 m1 t1 _ _ _ e1 (by simp),cl 1 m1 m2 t2 _ _ _ e2 (by simp),cl 2 m2 m3 t3 _ _ _ e3 (by simp)]
    rfl
   show(match jh (qt 0) (ret true) (ql zh 1 %[dv 2,dv 3|0]) [.int 0,.int 1,.int 2] [] [none,Bx b1,Cu,Od] with|.ok (ys,Ze)=>R.ok (D.lst ys,qlz (some (1,2)) Ze _)|_ => .bad)=_
   rw[el]
   rfl
  have l3:(jI %[dv 8,qF %[ret (.str "price"),qF %[ret (.int 1),ret (.int 1)|0]|0],dv 5|0]) Z1=.ok (.lst [cut,P1,d],Z1):=by
   have z1:qF %[ret (.str "price"),qF %[ret (.int 1),ret (.int 1)|0]|0] Z1=.ok (P1,Z1):=qbU rfl (qbU rfl rfl)
   have e8:dv 8 Z1=.ok (cut,Z1):=rfl
   have e5:dv 5 Z1=.ok (d,Z1):=rfl
   rw[vc,zg,e8]
   simp only[zg,z1,e5,vE,lC_,lN_,yaV,ybs,zA (show 3<=1000000 by omega),if_true]
  have it:(wD (d2 zf (jI %[dv 8,qF %[ret (.str "price"),qF %[ret (.int 1),ret (.int 1)|0]|0],dv 5|0]) (jJ 1 [2,8,5] (some (1,2)) (jO %[ret (.int 3)|0]) (qt 0) (ret true) (ql zh 1 %[dv 2,dv 3|0])))) Z1=.ok (Ts,Z2):=by
   rw[qfS,qnT,l3]
   simp only[cc,ua (show([cut,P1,d]:List D).length+[t1,t2,t3].length<=1000000 by simp)]
   rfl
  rw[vG,it]
  exact qr
theorem qk4 {d:D} (hd:yG 130 5 d) (hdt:Th d) (S I Be:OD):∀(us:List Int)(b:Int)(o7 o8 o9 o10 o11:OD),∃b' q7 q8 q9 q10 q11,yD (qt 7) (qE (qN 8 (ql j9 2 %[dv 3,dv 4,dv 7|0])) (qak (wD (d2 zf (jI %[dv 8,qF %[ret (.str "price"),qF %[ret (.int 1),ret (.int 1)|0]|0],dv 5|0]) (jJ 1 [2,8,5] (some (1,2)) (jO %[ret (.int 3)|0]) (qt 0) (ret true) (ql zh 1 %[dv 2,dv 3|0])))) (qt 9) (qE (qN 10 (qw vn %[dv 9|0])) (qE (qN 11 (qj qQ %[dv 9,dv 3,dv 4,dv 7|0])) (sif (tor (js (tst (qj zr %[vd ji %[dv 9,dv 3,dv 4,dv 7|0],dv 11|0]))) (tst (d2 neB (qw vn %[dv 9|0]) (dv 10)))) (zu (ret (.bl false))) z9))))) (us.map D.int) [S,I,some (.lst [.int b]),some (.tup (ks.map tK)),some (.int (r:Nat)),some d,Be,o7,o8,o9,o10,o11]=.ok (.nx [S,I,some (.lst [.int b']),some (.tup (ks.map tK)),some (.int (r:Nat)),some d,Be,q7,q8,q9,q10,q11])
 | [],b,o7,o8,o9,o10,o11=>⟨b,o7,o8,o9,o10,o11,rfl⟩
 |u::us,b,o7,o8,o9,o10,o11=>by
  obtain⟨b1,q8,q9,q10,q11,e⟩:=qoC hk hl hs hr hd hdt u b S I Be o8 o9 o10 o11
  obtain⟨b2,p7,p8,p9,p10,p11,q⟩:=qk4 hd hdt S I Be us b1 (some (.int u)) q8 q9 q10 q11
  exact⟨b2,p7,p8,p9,p10,p11,by rw[mC_];exact(vJ rfl e).trans q⟩
end
theorem qpQ(x:Str):neB (.str x) (.str x)=some (.bl false):=qiu x
theorem qka (ns:List Int) (i:Int) (h0:0<=i) (r:Env) (hr:r.length=10):∃r',r'.length=10/\(qE (qcd 2 (qeg yB %[dv 0,dv 1|0])) (qE (qN 3 (ql je 2 %[ret (.int 3),ret .non|0])) (qE (qN 4 (ql qi 2 %[ret (.int 10)|0])) (qE (qN 5 (ql zK 2 (ret []))) (qE (qN 6 (d2 ixD (qj jc %[dv 3,dv 4|0]) (ret (.int 0)))) (qE (qak (wD (jI %[d2 zf (dv 6) (ret (.int 1)),d2 zf (d2 zf (dv 6) (ret (.int 1))) (ql qi 2 %[ret (.int 4)|0]),dv 6|0])) (qt 7) (qE (qN 8 (ql j9 2 %[dv 3,dv 4,dv 7|0])) (qak (wD (d2 zf (jI %[dv 8,qF %[ret (.str "price"),qF %[ret (.int 1),ret (.int 1)|0]|0],dv 5|0]) (jJ 1 [2,8,5] (some (1,2)) (jO %[ret (.int 3)|0]) (qt 0) (ret true) (ql zh 1 %[dv 2,dv 3|0])))) (qt 9) (qE (qN 10 (qw vn %[dv 9|0])) (qE (qN 11 (qj qQ %[dv 9,dv 3,dv 4,dv 7|0])) (sif (tor (js (tst (qj zr %[vd ji %[dv 9,dv 3,dv 4,dv 7|0],dv 11|0]))) (tst (d2 neB (qw vn %[dv 9|0]) (dv 10)))) (zu (ret (.bl false))) z9)))))) (qE (sif (tor (tst (d2 neB (qj qZ %[dv 3,ret (.int 201),ret (.int 1)|0]) (ret (.str "many")))) (tst (d2 neB (qj qZ %[dv 3,d1 qbA (ret (.int 1)),ret (.int 1)|0]) (ret (.str "number"))))) (zu (ret (.bl false))) z9) (sif (tst (d2 neB (qj qZ %[dv 3,ret (.int 201),ret .non|0]) (ret (.str "number")))) (zu (ret (.bl false))) z9)))))))) ([some (.fz ns),some (.int i)]++r)=.ok (.nx ([some (.fz ns),some (.int i)]++r')):=by
 match r,hr with
 | [o2,o3,o4,o5,o6,o7,o8,o9,o10,o11],_=>
  obtain⟨n,eb⟩:=qos ns i h0
  obtain⟨dks,n1,es,hk0,hl0⟩:=qgV n
  obtain⟨kw',ekw,hkw⟩:=qgg dks hk0
  obtain⟨ks,ek,hlen,hk⟩:=qeF dks hk0
  have hl:ks.length<=3:=by rw[ek,lM_]at hl0;omega
  let n2:=n1/10
  obtain⟨m,em,hm9⟩:∃m:Nat,n1%10=(m:Int)/\m<=9:=⟨(n1%10).toNat,by omega,by omega⟩
  obtain⟨d,n3,eo,hd,hdt⟩:=qpP n2
  have hs:vp (.tup (ks.map tK))=true:=by
   rw[<-ek,ekw]
   exact qjY hkw (by
    have:(kw'.map kw).length=kw'.length:=lM_ _
    rw[<-ekw]at this
    omega)
  obtain ⟨bd,ebest⟩:=qbv hkw (by
    have:(kw'.map kw).length=kw'.length:=lM_ _
    rw[<-ekw]at this
    omega) (show m<=20 by omega)
  rw[<-ekw,ek]at ebest
  rw[ek]at es
  let best:=qcU ((vg kw' m).map λp=>yQ kw' p.1)
  let S:OD:=some (.fz ns)
  let I:OD:=some (.int i)
  let K:OD:=some (.tup (ks.map tK))
  let Ro:OD:=some (.int (m:Nat))
  let Od:OD:=some d
  let Be:OD:=some (.int best)
  let n4:=n3/4
  let us:List Int:=[best+1,best+1+n3%4,best]
  obtain⟨b',q7,q8,q9,q10,q11,q⟩:=qk4 hk hl hs hm9 hd hdt S I Be us n4 o7 o8 o9 o10 o11
  let B':OD:=some (.lst [.int b'])
  refine⟨[B',K,Ro,Od,Be,q7,q8,q9,q10,q11],rfl,?_⟩
  show(qE (qcd 2 (qeg yB %[dv 0,dv 1|0])) (qE (qN 3 (ql je 2 %[ret (.int 3),ret .non|0])) (qE (qN 4 (ql qi 2 %[ret (.int 10)|0])) (qE (qN 5 (ql zK 2 (ret []))) (qE (qN 6 (d2 ixD (qj jc %[dv 3,dv 4|0]) (ret (.int 0)))) (qE (qak (wD (jI %[d2 zf (dv 6) (ret (.int 1)),d2 zf (d2 zf (dv 6) (ret (.int 1))) (ql qi 2 %[ret (.int 4)|0]),dv 6|0])) (qt 7) (qE (qN 8 (ql j9 2 %[dv 3,dv 4,dv 7|0])) (qak (wD (d2 zf (jI %[dv 8,qF %[ret (.str "price"),qF %[ret (.int 1),ret (.int 1)|0]|0],dv 5|0]) (jJ 1 [2,8,5] (some (1,2)) (jO %[ret (.int 3)|0]) (qt 0) (ret true) (ql zh 1 %[dv 2,dv 3|0])))) (qt 9) (qE (qN 10 (qw vn %[dv 9|0])) (qE (qN 11 (qj qQ %[dv 9,dv 3,dv 4,dv 7|0])) (sif (tor (js (tst (qj zr %[vd ji %[dv 9,dv 3,dv 4,dv 7|0],dv 11|0]))) (tst (d2 neB (qw vn %[dv 9|0]) (dv 10)))) (zu (ret (.bl false))) z9)))))) (qE (sif (tor (tst (d2 neB (qj qZ %[dv 3,ret (.int 201),ret (.int 1)|0]) (ret (.str "many")))) (tst (d2 neB (qj qZ %[dv 3,d1 qbA (ret (.int 1)),ret (.int 1)|0]) (ret (.str "number"))))) (zu (ret (.bl false))) z9) (sif (tst (d2 neB (qj qZ %[dv 3,ret (.int 201),ret .non|0]) (ret (.str "number")))) (zu (ret (.bl false))) z9)))))))) [S,I,o2,o3,o4,o5,o6,o7,o8,o9,o10,o11]=_
  refine(qk (Z':=[S,I,some (.lst [.int n]),o3,o4,o5,o6,o7,o8,o9,o10,o11]) ?_).trans ?_
  ·push_cast [S,I,eb,immFs,immF,immL,imm,yaF]
  refine(qk (Z':=[S,I,some (.lst [.int n1]),K,o4,o5,o6,o7,o8,o9,o10,o11]) ?_).trans ?_
  ·push_cast [es]
   rfl
  refine(qk (Z':=[S,I,some (.lst [.int n2]),K,Ro,o5,o6,o7,o8,o9,o10,o11]) ?_).trans ?_
  ·have c:ql qi 2 %[ret (.int 10)|0] [S,I,some (.lst [.int n1]),K,o4,o5,o6,o7,o8,o9,o10,o11]=.ok (.int (m:Nat),[S,I,some (.lst [.int n2]),K,o4,o5,o6,o7,o8,o9,o10,o11]):=by
    rw[io1 (i:=2) (ds:=[.int n1]) (a:=.int 10) rfl rfl (jq (by omega) (by omega)),em]
    rfl
   rw[zW c]
   rfl
  refine(qk (Z':=[S,I,some (.lst [.int n3]),K,Ro,Od,o6,o7,o8,o9,o10,o11]) ?_).trans ?_
  ·push_cast [eo]
   rfl
  refine(qk (Z':=[S,I,some (.lst [.int n3]),K,Ro,Od,Be,o7,o8,o9,o10,o11]) (zW (qg (yI rfl rfl ebest) rfl rfl))).trans ?_
  let Z5:Env:=[S,I,some (.lst [.int n3]),K,Ro,Od,Be,o7,o8,o9,o10,o11]
  let Z6:Env:=[S,I,some (.lst [.int n4]),K,Ro,Od,Be,o7,o8,o9,o10,o11]
  let Z7:Env:=[S,I,B',K,Ro,Od,Be,q7,q8,q9,q10,q11]
  refine(qk (Z':=Z7) ?_).trans ?_
  ·have c1:d2 zf (dv 6) (ret (.int 1)) Z5=.ok (.int (best+1),Z5):=qg rfl rfl (yi _ _)
   have c2:d2 zf (d2 zf (dv 6) (ret (.int 1))) (ql qi 2 %[ret (.int 4)|0]) Z5=.ok (.int (best+1+n3%4),Z6):=qj4 c1 (io1 (i:=2) (Z:=Z5) (ds:=[.int n3]) (a:=.int 4) rfl rfl (jq (by omega) (by omega))) (yi _ _)
   have c3:dv 6 Z6=.ok (.int best,Z6):=rfl
   have it:(wD (jI %[d2 zf (dv 6) (ret (.int 1)),d2 zf (d2 zf (dv 6) (ret (.int 1))) (ql qi 2 %[ret (.int 4)|0]),dv 6|0])) Z5=.ok (us.map D.int,Z6):=by
    rw[qfS,vc,zg,c1]
    simp only[zg,c2,c3,vE,lC_,lN_,yaV,ybs,zA (show 3<=1000000 by omega),if_true]
    rfl
   rw[vG,it]
   exact q
  have w1:=qiP (qpK hs) qae qdG
  have w2:=qiP (qpL hs) u5 qap
  have w3:=qiP (qpM hs) u5 qap
  have x1:tst (d2 neB (qj qZ %[dv 3,ret (.int 201),ret (.int 1)|0]) (ret (.str "many"))) Z7=.ok (false,Z7):=qO (qg (qc5 rfl rfl rfl w1) rfl (qpQ _))
  have x2:tst (d2 neB (qj qZ %[dv 3,d1 qbA (ret (.int 1)),ret (.int 1)|0]) (ret (.str "number"))) Z7=.ok (false,Z7):=qO (qg (qc5 rfl (g:=d1 qbA (ret (.int 1))) rfl rfl w2) rfl (qpQ _))
  have x3:tst (d2 neB (qj qZ %[dv 3,ret (.int 201),ret .non|0]) (ret (.str "number"))) Z7=.ok (false,Z7):=qO (qg (qc5 rfl rfl rfl w3) rfl (qpQ _))
  exact(qk (Z':=Z7) ((qaD (qaV x1 x2)).trans rfl)).trans ((qaD x3).trans rfl)
theorem qgp (ns:List Int):∀(ds:List D)(o1:OD)(r:Env),r.length=10->(∀d∈ds,∃i:Int,d=.int i/\0<=i)->∃Z,yD (qt 1) (qE (qcd 2 (qeg yB %[dv 0,dv 1|0])) (qE (qN 3 (ql je 2 %[ret (.int 3),ret .non|0])) (qE (qN 4 (ql qi 2 %[ret (.int 10)|0])) (qE (qN 5 (ql zK 2 (ret []))) (qE (qN 6 (d2 ixD (qj jc %[dv 3,dv 4|0]) (ret (.int 0)))) (qE (qak (wD (jI %[d2 zf (dv 6) (ret (.int 1)),d2 zf (d2 zf (dv 6) (ret (.int 1))) (ql qi 2 %[ret (.int 4)|0]),dv 6|0])) (qt 7) (qE (qN 8 (ql j9 2 %[dv 3,dv 4,dv 7|0])) (qak (wD (d2 zf (jI %[dv 8,qF %[ret (.str "price"),qF %[ret (.int 1),ret (.int 1)|0]|0],dv 5|0]) (jJ 1 [2,8,5] (some (1,2)) (jO %[ret (.int 3)|0]) (qt 0) (ret true) (ql zh 1 %[dv 2,dv 3|0])))) (qt 9) (qE (qN 10 (qw vn %[dv 9|0])) (qE (qN 11 (qj qQ %[dv 9,dv 3,dv 4,dv 7|0])) (sif (tor (js (tst (qj zr %[vd ji %[dv 9,dv 3,dv 4,dv 7|0],dv 11|0]))) (tst (d2 neB (qw vn %[dv 9|0]) (dv 10)))) (zu (ret (.bl false))) z9)))))) (qE (sif (tor (tst (d2 neB (qj qZ %[dv 3,ret (.int 201),ret (.int 1)|0]) (ret (.str "many")))) (tst (d2 neB (qj qZ %[dv 3,d1 qbA (ret (.int 1)),ret (.int 1)|0]) (ret (.str "number"))))) (zu (ret (.bl false))) z9) (sif (tst (d2 neB (qj qZ %[dv 3,ret (.int 201),ret .non|0]) (ret (.str "number")))) (zu (ret (.bl false))) z9)))))))) ds ([some (.fz ns),o1]++r)=.ok (.nx Z)
 | [],o1,r,_,_=>⟨_,rfl⟩
 |d::ds,o1,r,hr,h=>by
  obtain⟨i,rfl,h0⟩:=h d mS_
  obtain⟨r',hr',e⟩:=qka ns i h0 r hr
  obtain⟨Z,q⟩:=qgp ns ds (some (.int i)) r' hr' λy hy=>h y (mM _ hy)
  refine⟨Z,?_⟩
  unfold yD
  simp only[qt,List.cons_append,ybz,ybM,ydA]at e |-
  simp only[e]
  exact q
theorem law_true (ns:List Int) (hn:ns.length<=63):qfr [.fz ns]=.ok (.bl true):=by
 let j:Int:=if(if(3:Int)<(ns.length:Int) then(3:Int) else(ns.length:Int))>1 then(if(3:Int)<(ns.length:Int) then(3:Int) else(ns.length:Int))else 1
 have hj0:0<=j:=by simp only[j];split<;>split<;>omega
 have hj1:j<=6:=by simp only[j];split<;>split<;>omega
 obtain ⟨Z,q⟩:=qgp ns (qdl 0 j.toNat) none [none,none,none,none,none,none,none,none,none,none] rfl λd hd=>by
  unfold qdl at hd
  obtain⟨k,hk,rfl⟩:=mP_.mp hd
  exact⟨_,rfl,by omega⟩
 unfold qfr
 refine yP rfl ⟨Z,?_⟩
 unfold qmq
 refine(qk (Z':=Z) ?_).trans rfl
 rw[vG,uD (j:=j) (Z1:=[some (.fz ns),none,none,none,none,none,none,none,none,none,none,none]) ?_ hj0 (by omega)]
 ·exact q
 ·rfl
section
variable{P:yar}{w:World}{K:yan}{mg:Str->Option Value}{base:Heap}
variable{f:Addr}{fd:yaP}
set_option maxHeartbeats 4000000
theorem wv:qv ["e","found"] ["e"] (qe jR):=⟨rfl,rfl,rfl,by decide +kernel,rfl,by decide +kernel,by decide +kernel⟩
section
variable(P:yar)(w:World)(K:Fr0)(mg:Str->Option Value)(base:Heap)
abbrev Q0:Prop:=qid P w K mg base 1 "_law_marks" ["e"] (spD K jX)
abbrev Q1:Prop:=qB P w K mg base 1 "is_less" ["fraction","u"] (spD K wT)
abbrev Q2:Prop:=qB P w K mg base 1 "greatest_divisor" ["one","other"] (spD K zZ)
abbrev Q3:Prop:=qB P w K mg base 2 "lowest_terms" ["top","bottom"] (spD K ub)
abbrev Q4:Prop:=qB P w K mg base 3 "bound_of" ["store","room","price"] (spD K vO)
abbrev Q5:Prop:=qB P w K mg base 1 "is_whole" ["thing"] (spD K vP)
abbrev Q6:Prop:=qB P w K mg base 2 "is_count" ["thing"] (spD K zG)
abbrev Q7:Prop:=qB P w K mg base 3 "is_price" ["thing"] (spD K vQ)
abbrev Q8:Prop:=qB P w K mg base 4 "is_price_cut" ["thing","store","room","u"] (spD K zT)
abbrev Q9:Prop:=qB P w K mg base 1 "with_kind" ["store","place","kind"] (spD K v5)
abbrev Q10:Prop:=qB P w K mg base 1 "with_most" ["kind","most"] (spD K v6)
abbrev Q11:Prop:=qB P w K mg base 2 "none_of" ["store","place"] (spD K vR)
abbrev Q12:Prop:=qB P w K mg base 1 "is_there" ["kind"] (spD K uT)
abbrev Q13:Prop:=qB P w K mg base 1 "most_within" ["kind","room"] (spD K z5)
abbrev Q14:Prop:=qB P w K mg base 3 "is_place" ["thing","store"] (spD K yZ)
abbrev Q16:Prop:=qB P w K mg base 12 "cuts_off" ["thing","store","room","u"] (spD K qbo)
abbrev Q17:Prop:=wQ P w K mg base 1 "need_few" ["number"] (spX K (clR K RN) uU)
abbrev Q18:Prop:=wQ P w K mg base 2 "need_whole" ["thing"] (spX K (clR K RN) yx)
abbrev Q19:Prop:=wQ P w K mg base 3 "need_count" ["thing"] (spX K (clR K RN) yy)
abbrev Q20:Prop:=qB P w K mg base 3 "is_kind" ["thing"] (spD K wU)
abbrev Q21:Prop:=qB P w K mg base 4 "is_store" ["thing"] (spD K qac)
abbrev Q22:Prop:=wQ P w K mg base 5 "need_store" ["thing"] (spX K (clR K RN) vi)
abbrev Q23:Prop:=wQ P w K mg base 6 "need_cut_asked" ["store","room","u"] (spX K (clR K RN) qR)
abbrev Q24:Prop:=wQ P w K mg base 13 "is_cut" ["thing","store","room","u"] (spX K (clR K RN) ji)
abbrev Q25:Prop:=qB P w K mg base 14 "_law_said" ["store","room","u"] (spD K qZ)
abbrev Q26:Prop:=qB P w K mg base 1 "_law_take" ["box","many"] (qba K qi)
abbrev Q27:Prop:=qB P w K mg base 5 "_law_bent" ["box","cut","odd"] (qba K zh)
abbrev Q28:Prop:=qB P w K mg base 1 "_law_truth" ["found","due"] (spD K zr)
abbrev Q29:Prop:=qB P w K mg base 1 "_law_without" ["store","place"] (spD K zB)
abbrev Q30:Prop:=qB P w K mg base 1 "_law_often" ["kind","room"] (spD K z6)
abbrev Q31:Prop:=qB P w K mg base 1 "_law_whole" ["thing"] (spD K zo)
abbrev Q32:Prop:=qB P w K mg base 1 "_law_common" ["one","other"] (spD K yL)
abbrev Q33:Prop:=qB P w K mg base 2 "_law_low" ["top","bottom"] (spD K yz)
abbrev Q34:Prop:=qB P w K mg base 3 "_law_bound_by" ["store","room","price"] (spD K j4)
abbrev Q35:Prop:=qB P w K mg base 2 "_law_is_price" ["thing"] (spD K j7)
abbrev Q36:Prop:=qB P w K mg base 7 "_law_is_cut" ["thing","store","room","u"] (spD K qQ)
abbrev Q37:Prop:=qB P w K mg base 11 "_law_made" ["box","store","room","u"] (qba K j9)
abbrev Q38:Prop:=qB P w K mg base 1 "_law_sum" ["store","load","place"] (spD K vT)
abbrev Q39:Prop:=qB P w K mg base 1 "_law_all_loads" ["store","room"] (spD K yj)
abbrev Q40:Prop:=qB P w K mg base 2 "_law_best_of" ["store","room"] (spD K jc)
abbrev Q41:Prop:=qB P w K mg base 2 "_law_odd_thing" ["box"] (qba K zK)
abbrev Q42:Prop:=qB P w K mg base 2 "_law_kind_of" ["box","ends"] (qba K jd)
abbrev Q43:Prop:=qB P w K mg base 3 "_law_stocked" ["box","most","ends"] (qba K je)
abbrev Q44:Prop:=qB P w K mg base 1 "_law_mix" ["cell","k"] (spD K uV)
abbrev Q45:Prop:=qB P w K mg base 1 "_law_cell" ["script","k"] (spD K y0)
abbrev Q46:Prop:=qB P w K mg base 2 "_law_box" ["script","k"] (spD K yB)
end
theorem q0 (F:Fun K "_law_marks" "_law_marks" jR f fd) (m:mg "_law_marks"=some (.ref f)) (T:Txt K mg) (XTt:XT K mg RN TN) (hB:K.In base):Q0 P w K mg base:=by
 have rn0:RN.contains "TooMany"=true:=by decide
 refine⟨f,fd,?_,m,F.kp,F.binds λ_ _ _ _ _ _ us hl=>match us,hl with | [_],_=>rfl⟩
 show qen P w K mg base CX0 1 f fd ["e"] (spD K (dfn (["e","found"]:List Str).length (["e"]:List Str).length uo))
 refine qjJ (N:=["e","found"]) (ps:=["e"]) (k:=0) (O:=[]) (body:=uo) F wv ?a ?b
 case a=>decide
 intro cdv A outer s H E B hr al
 have hal:∀Z σ H',Rep K (cfn [] [] B H (λ_=>False) (λ_ _=>False) λ_=>none) Z σ H'->AloneA (A.deeper (ybi "_law_marks" (qe jR) s.heap.objs.size f cdv)) H':=Sk.AloneA.rep al (λ_ z=>z)
 exact (qh (jk (DW.dt (uf (jg (jf (qcl (RN:=RN) (m:="SackError") (mgl:=mg) XTt (by decide) (by decide) rfl T.b_isinstance rfl (qc 0) (XTt.ask rn0 (by decide)) qx))) (ue (jg (jf (ql3 XTt rfl T.b_isinstance rfl T.b_ValueError (qc 0) qx)))))) (qm (qy zp)) qA)
   (qh (qJ (i:=1) wv.nd (jj (qb (qcl (RN:=RN) (m:="NoStore") (mgl:=mg) XTt (by decide) (by decide) rfl T.b_isinstance rfl (qc 0) (XTt.ask rn0 (by decide)) qx) (qb (qcl (RN:=RN) (m:="NoNumber") (mgl:=mg) XTt (by decide) (by decide) rfl T.b_isinstance rfl (qc 0) (XTt.ask rn0 (by decide)) qx) (qb (qcl (RN:=RN) (m:="NoLoad") (mgl:=mg) XTt (by decide) (by decide) rfl T.b_isinstance rfl (qc 0) (XTt.ask rn0 (by decide)) qx) (qb (qcl (RN:=RN) (m:="TooMany") (mgl:=mg) XTt (by decide) (by decide) rfl T.b_isinstance rfl (qc 0) (XTt.ask rn0 (by decide)) qx) qd))))))
   (qh (qJ (i:=1) wv.nd (qo qT qU (qc 1) (jj (qb (qcl (RN:=RN) (m:="NotSingle") (mgl:=mg) XTt (by decide) (by decide) rfl T.b_isinstance rfl (qc 0) (XTt.ask rn0 (by decide)) qx) (qb (qcl (RN:=RN) (m:="NoText") (mgl:=mg) XTt (by decide) (by decide) rfl T.b_isinstance rfl (qc 0) (XTt.ask rn0 (by decide)) qx) qd)))))
   (qh (jk (ze qnf qhC (qds yea qfZ qjE qfb (qc 1) (qb yN qd)) qf (qI _)) (qm (qy zp)) qA)
   (qm (qy (qC qq qp (jj (qb zp (qb zp (qb zp (qb zp (qb zp (qb zp qd))))))) (qds ycI qf0 qjF qfc (qc 1) (qb yN qd)))))))))
theorem qg2:qv ["fraction","u"] ["fraction","u"] (qe vL):=⟨rfl,rfl,rfl,by decide +kernel,rfl,by decide +kernel,by decide +kernel⟩
theorem q1 (F:Fun K "is_less" "is_less" vL f fd) (m:mg "is_less"=some (.ref f)) (T:Txt K mg) (XTt:XT K mg RN TN) (hB:K.In base):Q1 P w K mg base:=by
 refine⟨f,fd,?_,m,F.kp,F.binds λ_ _ _ _ _ _ us hl=>match us,hl with | [_,_],_=>rfl⟩
 exact zc (N:=["fraction","u"]) (O:=[]) (body:=qcw) F qg2 (by decide) λcdv A outer s H E B hr=>(qm (qy (uW qhk qd9 (qC qq qp (qc 0) (gI T.c_TOP)) (qo zv zb (qc 1) (qC qq qp (qc 0) (gI T.c_BOTTOM))) (qI _))))
theorem jy:qv ["one","other","rest"] ["one","other"] (qe zF):=⟨rfl,rfl,rfl,by decide +kernel,rfl,by decide +kernel,by decide +kernel⟩
theorem q2 (F:Fun K "greatest_divisor" "greatest_divisor" zF f fd) (m:mg "greatest_divisor"=some (.ref f)) (T:Txt K mg) (XTt:XT K mg RN TN) (hB:K.In base):Q2 P w K mg base:=by
 refine⟨f,fd,?_,m,F.kp,F.binds λ_ _ _ _ _ _ us hl=>match us,hl with | [_,_],_=>rfl⟩
 exact zc (N:=["one","other","rest"]) (O:=[]) (body:=yJ) F jy (by decide) λcdv A outer s H E B hr=>(qh (qfT yaS (ze qeQ qb8 (qc 1) qf (qI _)) (qh (qJ (i:=2) jy.nd (qo qbX qas (qc 0) (qc 1)))
   (qh (qJ (i:=0) jy.nd (qc 1))
   (qm (qJ (i:=1) jy.nd (qc 2))))))
   (qm (qy (qc 0))))
theorem wZ:qv ["top","bottom","divisor"] ["top","bottom"] (qe jA):=⟨rfl,rfl,rfl,by decide +kernel,rfl,by decide +kernel,by decide +kernel⟩
theorem q3 (F:Fun K "lowest_terms" "lowest_terms" jA f fd) (m:mg "lowest_terms"=some (.ref f)) (T:Txt K mg) (XTt:XT K mg RN TN) (hB:K.In base) (C_greatest_divisor:Q2 P w K mg base):Q3 P w K mg base:=by
 refine⟨f,fd,?_,m,F.kp,F.binds λ_ _ _ _ _ _ us hl=>match us,hl with | [_,_],_=>rfl⟩
 exact zc (N:=["top","bottom","divisor"]) (O:=[]) (body:=vq) F wZ (by decide) λcdv A outer s H E B hr=>(qh (qJ (i:=2) wZ.nd (dC C_greatest_divisor hr (qb (qc 0) (qb (qc 1) qd))))
   (qm (qy (qH (qb (qo vj y8 (qc 0) (qc 2)) (qb (qo vj y8 (qc 1) (qc 2)) qd))))))
theorem u6:qv ["store","room","price","top","kind","more"] ["store","room","price"] (qe uJ):=⟨rfl,rfl,rfl,by decide +kernel,rfl,by decide +kernel,by decide +kernel⟩
theorem q4 (F:Fun K "bound_of" "bound_of" uJ f fd) (m:mg "bound_of"=some (.ref f)) (T:Txt K mg) (XTt:XT K mg RN TN) (hB:K.In base) (C_lowest_terms:Q3 P w K mg base):Q4 P w K mg base:=by
 refine⟨f,fd,?_,m,F.kp,F.binds λ_ _ _ _ _ _ us hl=>match us,hl with | [_,_,_],_=>rfl⟩
 exact zc (N:=["store","room","price","top","kind","more"]) (O:=[]) (body:=qab) F u6 (by decide) λcdv A outer s H E B hr=>(qh (qJ (i:=3) u6.nd (qo zv zb (qc 1) (qC qq qp (qc 2) (gI T.c_TOP))))
   (qh (vC yaS rfl (wL (qc 0)) (qY (i:=4) u6.nd) (qh (qJ (i:=5) u6.nd (qo qai vm (qo zv zb (qC qq qp (qc 4) (gI T.c_WORTH)) (qC qq qp (qc 2) (gI T.c_BOTTOM))) (qo zv zb (qC qq qp (qc 4) (gI T.c_WEIGHT)) (qC qq qp (qc 2) (gI T.c_TOP)))))
   (qh (jk (DW.dt (qhy (ze qeQ qb8 (qc 5) qf (qI _)) (qeX (ze qcP qa5 (qC qq qp (qc 4) (gI T.c_MOST)) uz (qI _))))) (qm (qy uz)) qA)
   (qm (jk (ze qeQ qb8 (qc 5) qf (qI _)) (qm (qJ (i:=3) u6.nd (qo qT qU (qc 3) (qo zv zb (qc 5) (qC qq qp (qc 4) (gI T.c_MOST)))))) qA)))))
   (qm (qy (dC C_lowest_terms hr (qb (qc 3) (qb (qC qq qp (qc 2) (gI T.c_BOTTOM)) qd)))))))
theorem qfz:qv ["thing"] ["thing"] (qe uK):=⟨rfl,rfl,rfl,by decide +kernel,rfl,by decide +kernel,by decide +kernel⟩
theorem q5 (F:Fun K "is_whole" "is_whole" uK f fd) (m:mg "is_whole"=some (.ref f)) (T:Txt K mg) (XTt:XT K mg RN TN) (hB:K.In base):Q5 P w K mg base:=by
 refine⟨f,fd,?_,m,F.kp,F.binds λ_ _ _ _ _ _ us hl=>match us,hl with | [_],_=>rfl⟩
 exact zc (N:=["thing"]) (O:=[]) (body:=qbj) F qfz (by decide) λcdv A outer s H E B hr=>(qm (qy (qaj (vb qhF rfl T.b_isinstance rfl T.b_int qku (qc 0) qx) (wy (qki (vb qdi rfl T.b_isinstance rfl T.b_bool qe3 (qc 0) qx))))))
theorem qfA:qv ["thing"] ["thing"] (qe uL):=⟨rfl,rfl,rfl,by decide +kernel,rfl,by decide +kernel,by decide +kernel⟩
theorem q6 (F:Fun K "is_count" "is_count" uL f fd) (m:mg "is_count"=some (.ref f)) (T:Txt K mg) (XTt:XT K mg RN TN) (hB:K.In base) (C_is_whole:Q5 P w K mg base):Q6 P w K mg base:=by
 refine⟨f,fd,?_,m,F.kp,F.binds λ_ _ _ _ _ _ us hl=>match us,hl with | [_],_=>rfl⟩
 exact zc (N:=["thing"]) (O:=[]) (body:=qbk) F qfA (by decide) λcdv A outer s H E B hr=>(qm (qy (qaj (dC C_is_whole hr (qb (qc 0) qd)) (wy (uW qld qhB (qc 0) qf (qI _))))))
theorem qfB:qv ["thing"] ["thing"] (qe uM):=⟨rfl,rfl,rfl,by decide +kernel,rfl,by decide +kernel,by decide +kernel⟩
theorem q7 (F:Fun K "is_price" "is_price" uM f fd) (m:mg "is_price"=some (.ref f)) (T:Txt K mg) (XTt:XT K mg RN TN) (hB:K.In base) (C_greatest_divisor:Q2 P w K mg base) (C_is_count:Q6 P w K mg base):Q7 P w K mg base:=by
 refine⟨f,fd,?_,m,F.kp,F.binds λ_ _ _ _ _ _ us hl=>match us,hl with | [_],_=>rfl⟩
 exact zc (N:=["thing"]) (O:=[]) (body:=qbl) F qfB (by decide) λcdv A outer s H E B hr=>(qh (jk (DW.dt (uf (jg (jf (vb uh rfl T.b_isinstance rfl T.b_tuple y9 (qc 0) qx))) (ue (ze (yE hr) jw (qP zj zn rfl T.b_len yq (qb (qc 0) qd)) qf (qI _))))) (qm (qy yN)) qA)
   (qh (jk (DW.dt (uf (jg (jf (dC C_is_count hr (qb (qC qq qp (qc 0) (gI T.c_TOP)) qd)))) (uf (jg (jf (dC C_is_count hr (qb (qC qq qp (qc 0) (gI T.c_BOTTOM)) qd)))) (ue (ze (uk hr) jQ (qC qq qp (qc 0) (gI T.c_BOTTOM)) qf (qI _)))))) (qm (qy yN)) qA)
   (qm (qy (uW (uk hr) jQ (dC C_greatest_divisor hr (qb (qC qq qp (qc 0) (gI T.c_TOP)) (qb (qC qq qp (qc 0) (gI T.c_BOTTOM)) qd))) qf (qI _))))))
theorem w5:qv ["thing","store","room","u","most"] ["thing","store","room","u"] (qe jB):=⟨rfl,rfl,rfl,by decide +kernel,rfl,by decide +kernel,by decide +kernel⟩
theorem q8 (F:Fun K "is_price_cut" "is_price_cut" jB f fd) (m:mg "is_price_cut"=some (.ref f)) (T:Txt K mg) (XTt:XT K mg RN TN) (hB:K.In base) (C_is_less:Q1 P w K mg base) (C_bound_of:Q4 P w K mg base) (C_is_price:Q7 P w K mg base):Q8 P w K mg base:=by
 refine⟨f,fd,?_,m,F.kp,F.binds λ_ _ _ _ _ _ us hl=>match us,hl with | [_,_,_,_],_=>rfl⟩
 exact zc (N:=["thing","store","room","u","most"]) (O:=[]) (body:=jG) F w5 (by decide) λcdv A outer s H E B hr=>(qh (jk (DW.dt (uf (ze (yE hr) jw (qP zj zn rfl T.b_len yq (qb (qc 0) qd)) qf (qI _)) (uf (ze (yE hr) jw (qC qq qp (qc 0) qf) zp (qI _)) (ue (jg (jf (dC C_is_price hr (qb (qC qq qp (qc 0) qf) qd)))))))) (qm (qy yN)) qA)
   (qh (qJ (i:=4) w5.nd (dC C_bound_of hr (qb (qc 1) (qb (qc 2) (qb (qC qq qp (qc 0) qf) qd)))))
   (qm (qy (qaj (uW qeR qdh (qc 4) uz (qI _)) (wy (dC C_is_less hr (qb (qc 4) (qb (qc 3) qd)))))))))
theorem qeK:qv ["store","place","kind"] ["store","place","kind"] (qe yS):=⟨rfl,rfl,rfl,by decide +kernel,rfl,by decide +kernel,by decide +kernel⟩
theorem q9 (F:Fun K "with_kind" "with_kind" yS f fd) (m:mg "with_kind"=some (.ref f)) (T:Txt K mg) (XTt:XT K mg RN TN) (hB:K.In base):Q9 P w K mg base:=by
 refine⟨f,fd,?_,m,F.kp,F.binds λ_ _ _ _ _ _ us hl=>match us,hl with | [_,_,_],_=>rfl⟩
 exact zc (N:=["store","place","kind"]) (O:=[]) (body:=qax) F qeK (by decide) λcdv A outer s H E B hr=>(qm (qy (qo qT qU (qo qT qU (ul (qc 0) wJ (wK (qc 1))) (qH (qb (qc 2) qd))) (ul (qc 0) (wK (qo qT qU (qc 1) qf)) wJ))))
theorem qeL:qv ["kind","most"] ["kind","most"] (qe yT):=⟨rfl,rfl,rfl,by decide +kernel,rfl,by decide +kernel,by decide +kernel⟩
theorem q10 (F:Fun K "with_most" "with_most" yT f fd) (m:mg "with_most"=some (.ref f)) (T:Txt K mg) (XTt:XT K mg RN TN) (hB:K.In base):Q10 P w K mg base:=by
 refine⟨f,fd,?_,m,F.kp,F.binds λ_ _ _ _ _ _ us hl=>match us,hl with | [_,_],_=>rfl⟩
 exact zc (N:=["kind","most"]) (O:=[]) (body:=qay) F qeL (by decide) λcdv A outer s H E B hr=>(qm (qy (qH (qb (qC qq qp (qc 0) (gI T.c_WEIGHT)) (qb (qC qq qp (qc 0) (gI T.c_WORTH)) (qb (qc 1) qd))))))
theorem qg3:qv ["store","place"] ["store","place"] (qe vM):=⟨rfl,rfl,rfl,by decide +kernel,rfl,by decide +kernel,by decide +kernel⟩
theorem q11 (F:Fun K "none_of" "none_of" vM f fd) (m:mg "none_of"=some (.ref f)) (T:Txt K mg) (XTt:XT K mg RN TN) (hB:K.In base) (C_with_kind:Q9 P w K mg base) (C_with_most:Q10 P w K mg base):Q11 P w K mg base:=by
 refine⟨f,fd,?_,m,F.kp,F.binds λ_ _ _ _ _ _ us hl=>match us,hl with | [_,_],_=>rfl⟩
 exact zc (N:=["store","place"]) (O:=[]) (body:=qcx) F qg3 (by decide) λcdv A outer s H E B hr=>(qm (qy (dC C_with_kind hr (qb (qc 0) (qb (qc 1) (qb (dC C_with_most hr (qb (qC qq qp (qc 0) (qc 1)) (qb qf qd))) qd))))))
theorem qfC:qv ["kind"] ["kind"] (qe uN):=⟨rfl,rfl,rfl,by decide +kernel,rfl,by decide +kernel,by decide +kernel⟩
theorem q12 (F:Fun K "is_there" "is_there" uN f fd) (m:mg "is_there"=some (.ref f)) (T:Txt K mg) (XTt:XT K mg RN TN) (hB:K.In base):Q12 P w K mg base:=by
 refine⟨f,fd,?_,m,F.kp,F.binds λ_ _ _ _ _ _ us hl=>match us,hl with | [_],_=>rfl⟩
 exact zc (N:=["kind"]) (O:=[]) (body:=qbm) F qfC (by decide) λcdv A outer s H E B hr=>(qm (qy (qlp (uW qcP qa5 (qC qq qp (qc 0) (gI T.c_MOST)) uz (qI _)) (wy (uW qeQ qb8 (qC qq qp (qc 0) (gI T.c_MOST)) qf (qI _))))))
theorem qaq:qv ["kind","room","alone"] ["kind","room"] (qe yb):=⟨rfl,rfl,rfl,by decide +kernel,rfl,by decide +kernel,by decide +kernel⟩
theorem q13 (F:Fun K "most_within" "most_within" yb f fd) (m:mg "most_within"=some (.ref f)) (T:Txt K mg) (XTt:XT K mg RN TN) (hB:K.In base):Q13 P w K mg base:=by
 refine⟨f,fd,?_,m,F.kp,F.binds λ_ _ _ _ _ _ us hl=>match us,hl with | [_,_],_=>rfl⟩
 exact zc (N:=["kind","room","alone"]) (O:=[]) (body:=uF) F qaq (by decide) λcdv A outer s H E B hr=>(qh (qJ (i:=2) qaq.nd (qo vj y8 (qc 1) (qC qq qp (qc 0) (gI T.c_WEIGHT))))
   (qm (qy (qpd (ze qcP qa5 (qC qq qp (qc 0) (gI T.c_MOST)) uz (qI _)) (qc 2) (qP (qaG rfl) qaK rfl T.b_min qfQ (qb (qc 2) (qb (qC qq qp (qc 0) (gI T.c_MOST)) qd)))))))
theorem qfD:qv ["thing","store"] ["thing","store"] (qe uO):=⟨rfl,rfl,rfl,by decide +kernel,rfl,by decide +kernel,by decide +kernel⟩
theorem q14 (F:Fun K "is_place" "is_place" uO f fd) (m:mg "is_place"=some (.ref f)) (T:Txt K mg) (XTt:XT K mg RN TN) (hB:K.In base) (C_is_count:Q6 P w K mg base):Q14 P w K mg base:=by
 refine⟨f,fd,?_,m,F.kp,F.binds λ_ _ _ _ _ _ us hl=>match us,hl with | [_,_],_=>rfl⟩
 exact zc (N:=["thing","store"]) (O:=[]) (body:=qbn) F qfD (by decide) λcdv A outer s H E B hr=>(qm (qy (qaj (dC C_is_count hr (qb (qc 0) qd)) (wy (uW qhk qd9 (qc 0) (qP zj zn rfl T.b_len yq (qb (qc 1) qd)) (qI _))))))
theorem yf:qv ["thing","store","room","u","kind","left","times","part"] ["thing","store","room","u"] (qe yc):=⟨rfl,rfl,rfl,by decide +kernel,rfl,by decide +kernel,by decide +kernel⟩
theorem q15 (F:Fun K "is_kind_cut" "is_kind_cut" yc f fd) (m:mg "is_kind_cut"=some (.ref f)) (T:Txt K mg) (XTt:XT K mg RN TN) (hB:K.In base) {kR:Nat} (hL:4<=kR) {R_cuts_off:List D->R D} (C_cuts_off:qB P w K mg base kR "cuts_off" ["thing","store","room","u"] (spD K R_cuts_off)) (C_none_of:Q11 P w K mg base) (C_is_there:Q12 P w K mg base) (C_most_within:Q13 P w K mg base) (C_is_place:Q14 P w K mg base):qB P w K mg base (kR+1) "is_kind_cut" ["thing","store","room","u"] (spD K (zQ R_cuts_off)):=by
 refine⟨f,fd,?_,m,F.kp,F.binds λ_ _ _ _ _ _ us hl=>match us,hl with | [_,_,_,_],_=>rfl⟩
 show vV P w K mg base CX0 (kR+0+1) f fd ["thing","store","room","u"] (spD K (dfn (["thing","store","room","u","kind","left","times","part"]:List Str).length (["thing","store","room","u"]:List Str).length (yK R_cuts_off)))
 refine zc (N:=["thing","store","room","u","kind","left","times","part"]) (ps:=["thing","store","room","u"]) (k:=kR+0) (O:=[]) (body:=(yK R_cuts_off)) F yf ?a ?b
 case a=>decide
 intro cdv A outer s H E B hr
 exact (qh (jk (DW.dt (uf (ze (yE hr) jw (qP zj zn rfl T.b_len yq (qb (qc 0) qd)) qf (qI _)) (uf (ze (yE hr) jw (qC qq qp (qc 0) qf) zp (qI _)) (uf (jg (jf (dC C_is_place hr (qb (qC qq qp (qc 0) qf) (qb (qc 1) qd)) (hk:=by omega)))) (ue (jg (jf (vb uh rfl T.b_isinstance rfl T.b_tuple y9 (qC qq qp (qc 0) qf) qx)))))))) (qm (qy yN)) qA)
   (qh (qJ (i:=4) yf.nd (qC qq qp (qc 1) (qC qq qp (qc 0) qf)))
   (qh (jk (DW.dt (uf (jg (jf (dC C_is_there hr (qb (qc 4) qd) (hk:=by omega)))) (ue (ze (yE hr) jw (qP zj zn rfl T.b_len yq (qb (qC qq qp (qc 0) qf) qd)) (qo qT qU (dC C_most_within hr (qb (qc 4) (qb (qc 2) qd)) (hk:=by omega)) qf) (qI _))))) (qm (qy yN)) qA)
   (qh (qJ (i:=5) yf.nd (dC C_none_of hr (qb (qc 1) (qb (qC qq qp (qc 0) qf) qd)) (hk:=by omega)))
   (qh (vC yaS rfl (qlU rfl T.b_enumerate (qb (qC qq qp (qc 0) qf) qd)) (qaJ (n:=2) rfl (zw (qY (i:=6) yf.nd) (zw (qY (i:=7) yf.nd) vX))) (qm (jk (jg (jf (dC C_cuts_off hr (qb (qc 7) (qb (qc 5) (qb (qo qai vm (qc 2) (qo zv zb (qc 6) (qC qq qp (qc 4) (gI T.c_WEIGHT)))) (qb (qo qai vm (qc 3) (qo zv zb (qc 6) (qC qq qp (qc 4) (gI T.c_WORTH)))) qd)))) (hk:=by omega)))) (qm (qy yN)) qA)))
   (qm (qy yN)))))))
theorem qfE:qv ["thing","store","room","u"] ["thing","store","room","u"] (qe yr):=⟨rfl,rfl,rfl,by decide +kernel,rfl,by decide +kernel,by decide +kernel⟩
theorem q16 (F:Fun K "cuts_off" "cuts_off" yr f fd) (m:mg "cuts_off"=some (.ref f)) (T:Txt K mg) (XTt:XT K mg RN TN) (hB:K.In base) {kR:Nat} (hL:4<=kR) {R_cuts_off:List D->R D} (C_cuts_off:qB P w K mg base kR "cuts_off" ["thing","store","room","u"] (spD K R_cuts_off)) (C_is_price_cut:Q8 P w K mg base) (C_is_kind_cut:qB P w K mg base (kR+1) "is_kind_cut" ["thing","store","room","u"] (spD K (zQ R_cuts_off))):qB P w K mg base (kR+2) "cuts_off" ["thing","store","room","u"] (spD K (dfn 4 4 (yw R_cuts_off))):=by
 refine⟨f,fd,?_,m,F.kp,F.binds λ_ _ _ _ _ _ us hl=>match us,hl with | [_,_,_,_],_=>rfl⟩
 show vV P w K mg base CX0 (kR+1+1) f fd ["thing","store","room","u"] (spD K (dfn (["thing","store","room","u"]:List Str).length (["thing","store","room","u"]:List Str).length (yw R_cuts_off)))
 refine zc (N:=["thing","store","room","u"]) (ps:=["thing","store","room","u"]) (k:=kR+1) (O:=[]) (body:=(yw R_cuts_off)) F qfE ?a ?b
 case a=>decide
 intro cdv A outer s H E B hr
 exact (qh (jk (jg (jf (vb uh rfl T.b_isinstance rfl T.b_tuple y9 (qc 0) qx))) (qm (qy yN)) qA)
   (qm (qy (qlp (dC C_is_price_cut hr (qb (qc 0) (qb (qc 1) (qb (qc 2) (qb (qc 3) qd)))) (hk:=by omega)) (wy (dC C_is_kind_cut hr (qb (qc 0) (qb (qc 1) (qb (qc 2) (qb (qc 3) qd)))) (hk:=by omega)))))))
theorem qrg (F:Fun K "cuts_off" "cuts_off" yr f fd) (m:mg "cuts_off"=some (.ref f)):qB P w K mg base 4 "cuts_off" ["thing","store","room","u"] (spD K (jb 0)) :=
 ⟨f,fd,qkO,m,F.kp,F.binds λ_ _ _ _ _ _ us hl=>match us,hl with | [_,_,_,_],_=>rfl⟩
theorem qfF:qv ["number"] ["number"] (qe yU):=⟨rfl,rfl,rfl,by decide +kernel,rfl,by decide +kernel,by decide +kernel⟩
theorem q17 (F:Fun K "need_few" "need_few" yU f fd) (m:mg "need_few"=some (.ref f)) (T:Txt K mg) (XTt:XT K mg RN TN) (hB:K.In base):Q17 P w K mg base:=by
 obtain⟨S,mS,xS⟩:=XTt.xcls hB
 obtain⟨C_TooMany,hc_TooMany⟩:=XTt.has (n:="TooMany") (by decide)
 have mc_TooMany:=XTt.mgc _ _ (XTt.cls hc_TooMany).1
 obtain⟨bm_TooMany,xc_TooMany,_⟩:=xS.own _ _ hc_TooMany
 refine⟨f,fd,?_,m,F.kp,F.binds λ_ _ _ _ _ _ us hl=>match us,hl with | [_],_=>rfl⟩
 show vV P w K mg base (CX1 P w) 1 f fd ["number"] (spX K (clR K RN) (qcJ (["number"]:List Str).length (["number"]:List Str).length vS))
 refine qcW (N:=["number"]) (ps:=["number"]) (k:=0) (O:=[]) (body:=vS) (cl:=clR K RN) F qfF ?a ?b
 case a=>decide
 intro cdv A outer s H E B hr
 have L:=qcV (P:=P) (w:=w) (K:=K) (mg:=mg) (base:=base) (N:=["number"]) (qual:="need_few") (scope:=qe yU) (f:=f) (cdv:=cdv) (A:=A) (outer:=outer) (s:=s) (H:=H) (E:=E) (c:=cfn [] [] B H (λ_=>False) (λx H'=>∀C,clR K RN x.cls=some C->E (.ref C) none H') λ_=>none) (cl:=clR K RN) rfl (λx C H' h1 h2=>h2 C h1)
 exact(qm (jk (ze qeQ qb8 (qc 0) (gI T.c_ASKED_AT_MOST) (qI _)) (qm (qbR rfl L hc_TooMany rfl mc_TooMany xc_TooMany (qb zp qd))) qA))
theorem qdN:qv ["thing"] ["thing"] (qe jS):=⟨rfl,rfl,rfl,by decide +kernel,rfl,by decide +kernel,by decide +kernel⟩
theorem q18 (F:Fun K "need_whole" "need_whole" jS f fd) (m:mg "need_whole"=some (.ref f)) (T:Txt K mg) (XTt:XT K mg RN TN) (hB:K.In base) (C_is_whole:Q5 P w K mg base):Q18 P w K mg base:=by
 obtain⟨S,mS,xS⟩:=XTt.xcls hB
 obtain⟨C_NoNumber,hc_NoNumber⟩:=XTt.has (n:="NoNumber") (by decide)
 have mc_NoNumber:=XTt.mgc _ _ (XTt.cls hc_NoNumber).1
 obtain⟨bm_NoNumber,xc_NoNumber,_⟩:=xS.own _ _ hc_NoNumber
 refine⟨f,fd,?_,m,F.kp,F.binds λ_ _ _ _ _ _ us hl=>match us,hl with | [_],_=>rfl⟩
 show vV P w K mg base (CX1 P w) 2 f fd ["thing"] (spX K (clR K RN) (qcJ (["thing"]:List Str).length (["thing"]:List Str).length uq))
 refine qcW (N:=["thing"]) (ps:=["thing"]) (k:=1) (O:=[]) (body:=uq) (cl:=clR K RN) F qdN ?a ?b
 case a=>decide
 intro cdv A outer s H E B hr
 have L:=qcV (P:=P) (w:=w) (K:=K) (mg:=mg) (base:=base) (N:=["thing"]) (qual:="need_whole") (scope:=qe jS) (f:=f) (cdv:=cdv) (A:=A) (outer:=outer) (s:=s) (H:=H) (E:=E) (c:=cfn [] [] B H (λ_=>False) (λx H'=>∀C,clR K RN x.cls=some C->E (.ref C) none H') λ_=>none) (cl:=clR K RN) rfl (λx C H' h1 h2=>h2 C h1)
 exact(qm (jk (jg (jf (dC C_is_whole hr (qb (qc 0) qd)))) (qm (qbR rfl L hc_NoNumber rfl mc_NoNumber xc_NoNumber (qb zp qd))) qA))
theorem qdO:qv ["thing"] ["thing"] (qe jU):=⟨rfl,rfl,rfl,by decide +kernel,rfl,by decide +kernel,by decide +kernel⟩
theorem q19 (F:Fun K "need_count" "need_count" jU f fd) (m:mg "need_count"=some (.ref f)) (T:Txt K mg) (XTt:XT K mg RN TN) (hB:K.In base) (C_is_count:Q6 P w K mg base):Q19 P w K mg base:=by
 obtain⟨S,mS,xS⟩:=XTt.xcls hB
 obtain⟨C_NoNumber,hc_NoNumber⟩:=XTt.has (n:="NoNumber") (by decide)
 have mc_NoNumber:=XTt.mgc _ _ (XTt.cls hc_NoNumber).1
 obtain⟨bm_NoNumber,xc_NoNumber,_⟩:=xS.own _ _ hc_NoNumber
 refine⟨f,fd,?_,m,F.kp,F.binds λ_ _ _ _ _ _ us hl=>match us,hl with | [_],_=>rfl⟩
 show vV P w K mg base (CX1 P w) 3 f fd ["thing"] (spX K (clR K RN) (qcJ (["thing"]:List Str).length (["thing"]:List Str).length ur))
 refine qcW (N:=["thing"]) (ps:=["thing"]) (k:=2) (O:=[]) (body:=ur) (cl:=clR K RN) F qdO ?a ?b
 case a=>decide
 intro cdv A outer s H E B hr
 have L:=qcV (P:=P) (w:=w) (K:=K) (mg:=mg) (base:=base) (N:=["thing"]) (qual:="need_count") (scope:=qe jU) (f:=f) (cdv:=cdv) (A:=A) (outer:=outer) (s:=s) (H:=H) (E:=E) (c:=cfn [] [] B H (λ_=>False) (λx H'=>∀C,clR K RN x.cls=some C->E (.ref C) none H') λ_=>none) (cl:=clR K RN) rfl (λx C H' h1 h2=>h2 C h1)
 exact(qm (jk (jg (jf (dC C_is_count hr (qb (qc 0) qd)))) (qm (qbR rfl L hc_NoNumber rfl mc_NoNumber xc_NoNumber (qb zp qd))) qA))
theorem qg4:qv ["thing"] ["thing"] (qe vN):=⟨rfl,rfl,rfl,by decide +kernel,rfl,by decide +kernel,by decide +kernel⟩
theorem q20 (F:Fun K "is_kind" "is_kind" vN f fd) (m:mg "is_kind"=some (.ref f)) (T:Txt K mg) (XTt:XT K mg RN TN) (hB:K.In base) (C_is_count:Q6 P w K mg base):Q20 P w K mg base:=by
 refine⟨f,fd,?_,m,F.kp,F.binds λ_ _ _ _ _ _ us hl=>match us,hl with | [_],_=>rfl⟩
 exact zc (N:=["thing"]) (O:=[]) (body:=qcy) F qg4 (by decide) λcdv A outer s H E B hr=>(qh (jk (DW.dt (uf (jg (jf (vb uh rfl T.b_isinstance rfl T.b_tuple y9 (qc 0) qx))) (ue (ze (yE hr) jw (qP zj zn rfl T.b_len yq (qb (qc 0) qd)) qf (qI _))))) (qm (qy yN)) qA)
   (qh (jk (DW.dt (uf (jg (jf (dC C_is_count hr (qb (qC qq qp (qc 0) (gI T.c_WEIGHT)) qd)))) (ue (ze (uk hr) jQ (qC qq qp (qc 0) (gI T.c_WEIGHT)) qf (qI _))))) (qm (qy yN)) qA)
   (qm (qy (qaj (dC C_is_count hr (qb (qC qq qp (qc 0) (gI T.c_WORTH)) qd)) (wy (qlp (uW qcP qa5 (qC qq qp (qc 0) (gI T.c_MOST)) uz (qI _)) (wy (dC C_is_count hr (qb (qC qq qp (qc 0) (gI T.c_MOST)) qd))))))))))
theorem qfG:qv ["thing"] ["thing"] (qe yV):=⟨rfl,rfl,rfl,by decide +kernel,rfl,by decide +kernel,by decide +kernel⟩
theorem q21 (F:Fun K "is_store" "is_store" yV f fd) (m:mg "is_store"=some (.ref f)) (T:Txt K mg) (XTt:XT K mg RN TN) (hB:K.In base) (C_is_kind:Q20 P w K mg base):Q21 P w K mg base:=by
 refine⟨f,fd,?_,m,F.kp,F.binds λ_ _ _ _ _ _ us hl=>match us,hl with | [_],_=>rfl⟩
 exact zc (N:=["thing"]) (O:=[]) (body:=qbp) F qfG (by decide) λcdv A outer s H E B hr=>(qh (jk (DW.dt (uf (jg (jf (vb uh rfl T.b_isinstance rfl T.b_tuple y9 (qc 0) qx))) (ue (ze qeQ qb8 (qP zj zn rfl T.b_len yq (qb (qc 0) qd)) (gI T.c_KINDS_AT_MOST) (qI _))))) (qm (qy yN)) qA)
   (qm (qy (qP (qjl rfl) qhG rfl T.b_all qnQ (qb (qcc (fo:=none) rfl (wL (qc 0)) (cs ["thing"] ["part"] 1 [] (qe yV)) (f0 [] []) (λ_ _ _ _ _ _ _ _ _ _ _=>⟨(qY (i:=0) (nd ["part"])),qeb,(dC C_is_kind hr (qb (qc 0) qd))⟩)) qd)))))
theorem qdP:qv ["thing"] ["thing"] (qe jV):=⟨rfl,rfl,rfl,by decide +kernel,rfl,by decide +kernel,by decide +kernel⟩
theorem q22 (F:Fun K "need_store" "need_store" jV f fd) (m:mg "need_store"=some (.ref f)) (T:Txt K mg) (XTt:XT K mg RN TN) (hB:K.In base) (C_is_store:Q21 P w K mg base):Q22 P w K mg base:=by
 obtain⟨S,mS,xS⟩:=XTt.xcls hB
 obtain⟨C_NoStore,hc_NoStore⟩:=XTt.has (n:="NoStore") (by decide)
 have mc_NoStore:=XTt.mgc _ _ (XTt.cls hc_NoStore).1
 obtain⟨bm_NoStore,xc_NoStore,_⟩:=xS.own _ _ hc_NoStore
 refine⟨f,fd,?_,m,F.kp,F.binds λ_ _ _ _ _ _ us hl=>match us,hl with | [_],_=>rfl⟩
 show vV P w K mg base (CX1 P w) 5 f fd ["thing"] (spX K (clR K RN) (qcJ (["thing"]:List Str).length (["thing"]:List Str).length vh))
 refine qcW (N:=["thing"]) (ps:=["thing"]) (k:=4) (O:=[]) (body:=vh) (cl:=clR K RN) F qdP ?a ?b
 case a=>decide
 intro cdv A outer s H E B hr
 have L:=qcV (P:=P) (w:=w) (K:=K) (mg:=mg) (base:=base) (N:=["thing"]) (qual:="need_store") (scope:=qe jV) (f:=f) (cdv:=cdv) (A:=A) (outer:=outer) (s:=s) (H:=H) (E:=E) (c:=cfn [] [] B H (λ_=>False) (λx H'=>∀C,clR K RN x.cls=some C->E (.ref C) none H') λ_=>none) (cl:=clR K RN) rfl (λx C H' h1 h2=>h2 C h1)
 exact(qm (jk (jg (jf (dC C_is_store hr (qb (qc 0) qd)))) (qm (qbR rfl L hc_NoStore rfl mc_NoStore xc_NoStore (qb zp qd))) qA))
theorem qbx:qv ["store","room","u"] ["store","room","u"] (qe zH):=⟨rfl,rfl,rfl,by decide +kernel,rfl,by decide +kernel,by decide +kernel⟩
theorem q23 (F:Fun K "need_cut_asked" "need_cut_asked" zH f fd) (m:mg "need_cut_asked"=some (.ref f)) (T:Txt K mg) (XTt:XT K mg RN TN) (hB:K.In base) (C_need_few:Q17 P w K mg base) (C_need_whole:Q18 P w K mg base) (C_need_count:Q19 P w K mg base) (C_need_store:Q22 P w K mg base):Q23 P w K mg base:=by
 have hcl:∀n,RN.contains n=true->(clR K RN n).isSome=true:=λn hn=>Option.isSome_iff_exists.mpr (XTt.has hn)
 refine⟨f,fd,?_,m,F.kp,F.binds λ_ _ _ _ _ _ us hl=>match us,hl with | [_,_,_],_=>rfl⟩
 show vV P w K mg base (CX1 P w) 6 f fd ["store","room","u"] (spX K (clR K RN) (qcJ (["store","room","u"]:List Str).length (["store","room","u"]:List Str).length zJ))
 refine qcW (N:=["store","room","u"]) (ps:=["store","room","u"]) (k:=5) (O:=[]) (body:=zJ) (cl:=clR K RN) F qbx ?a ?b
 case a=>decide
 intro cdv A outer s H E B hr
 have L:=qcV (P:=P) (w:=w) (K:=K) (mg:=mg) (base:=base) (N:=["store","room","u"]) (qual:="need_cut_asked") (scope:=qe zH) (f:=f) (cdv:=cdv) (A:=A) (outer:=outer) (s:=s) (H:=H) (E:=E) (c:=cfn [] [] B H (λ_=>False) (λx H'=>∀C,clR K RN x.cls=some C->E (.ref C) none H') λ_=>none) (cl:=clR K RN) rfl (λx C H' h1 h2=>h2 C h1)
 exact (qh (wG (xC L.two hcl C_need_store hr (qb (qc 0) qd)))
   (qh (wG (xC L.two hcl C_need_count hr (qb (qc 1) qd)))
   (qh (wG (xC L.two hcl C_need_whole hr (qb (qc 2) qd)))
   (qm (wG (xC L.two hcl C_need_few hr (qb (qc 1) qd)))))))
theorem qiS:qv ["thing","store","room","u"] ["thing","store","room","u"] (qe v4):=⟨rfl,rfl,rfl,by decide +kernel,rfl,by decide +kernel,by decide +kernel⟩
theorem q24 (F:Fun K "is_cut" "is_cut" v4 f fd) (m:mg "is_cut"=some (.ref f)) (T:Txt K mg) (XTt:XT K mg RN TN) (hB:K.In base) (C_cuts_off:Q16 P w K mg base) (C_need_cut_asked:Q23 P w K mg base):Q24 P w K mg base:=by
 have hcl:∀n,RN.contains n=true->(clR K RN n).isSome=true:=λn hn=>Option.isSome_iff_exists.mpr (XTt.has hn)
 refine⟨f,fd,?_,m,F.kp,F.binds λ_ _ _ _ _ _ us hl=>match us,hl with | [_,_,_,_],_=>rfl⟩
 show vV P w K mg base (CX1 P w) 13 f fd ["thing","store","room","u"] (spX K (clR K RN) (qcJ (["thing","store","room","u"]:List Str).length (["thing","store","room","u"]:List Str).length qaW))
 refine qcW (N:=["thing","store","room","u"]) (ps:=["thing","store","room","u"]) (k:=12) (O:=[]) (body:=qaW) (cl:=clR K RN) F qiS ?a ?b
 case a=>decide
 intro cdv A outer s H E B hr
 have L:=qcV (P:=P) (w:=w) (K:=K) (mg:=mg) (base:=base) (N:=["thing","store","room","u"]) (qual:="is_cut") (scope:=qe v4) (f:=f) (cdv:=cdv) (A:=A) (outer:=outer) (s:=s) (H:=H) (E:=E) (c:=cfn [] [] B H (λ_=>False) (λx H'=>∀C,clR K RN x.cls=some C->E (.ref C) none H') λ_=>none) (cl:=clR K RN) rfl (λx C H' h1 h2=>h2 C h1)
 exact (qh (wG (xC L.two hcl C_need_cut_asked hr (qb (qc 1) (qb (qc 2) (qb (qc 3) qd)))))
   (qm (qy (dC C_cuts_off hr (qb (qc 0) (qb (qc 1) (qb (qc 2) (qb (qc 3) qd))))))))
theorem qbF:qv ["store","room","u","e"] ["store","room","u"] (qe yW):=⟨rfl,rfl,rfl,by decide +kernel,rfl,by decide +kernel,by decide +kernel⟩
theorem q25 (F:Fun K "_law_said" "_law_said" yW f fd) (m:mg "_law_said"=some (.ref f)) (T:Txt K mg) (XTt:XT K mg RN TN) (hB:K.In base) (C__law_marks:Q0 P w K mg base) (C_is_cut:Q24 P w K mg base):Q25 P w K mg base:=by
 obtain⟨f__law_marks,fd__law_marks,G__law_marks,m__law_marks,k__law_marks,b__law_marks⟩:=C__law_marks.ex
 have hcl:∀n,RN.contains n=true->(clR K RN n).isSome=true:=λn hn=>Option.isSome_iff_exists.mpr (XTt.has hn)
 obtain⟨S,mS,xS⟩:=XTt.xcls hB
 refine⟨f,fd,?_,m,F.kp,F.binds λ_ _ _ _ _ _ us hl=>match us,hl with | [_,_,_],_=>rfl⟩
 exact zc (N:=["store","room","u","e"]) (O:=[]) (body:=qaz) F qbF (by decide) λcdv A outer s H E B hr=>(qh (qn0 (i:=3) qbF.nd rfl rfl xS rfl mS G__law_marks (hr.mono (by decide)) rfl m__law_marks k__law_marks b__law_marks (λxe pn E2 cE L=>(qm (wG (xC L hcl C_is_cut hr (qb uz (qb (qc 0) (qb (qc 1) (qb (qc 2) qd)))))))))
   (qm (qy zp)))
theorem w6:qv ["box","many","left","digit"] ["box","many"] (qe yX):=⟨rfl,rfl,rfl,by decide +kernel,rfl,by decide +kernel,by decide +kernel⟩
theorem q26 (F:Fun K "_law_take" "_law_take" yX f fd) (m:mg "_law_take"=some (.ref f)) (T:Txt K mg) (XTt:XT K mg RN TN) (hB:K.In base):Q26 P w K mg base:=by
 refine⟨f,fd,?_,m,F.kp,F.binds λ_ _ _ _ _ _ us hl=>match us,hl with | [_,_],_=>rfl⟩
 show vV P w K mg base CX0 1 f fd ["box","many"] (qba K (u9 (["box","many","left","digit"]:List Str).length (["box","many"]:List Str).length v7))
 refine qgB (N:=["box","many","left","digit"]) (ps:=["box","many"]) (k:=0) (O:=[0]) (body:=v7) F w6 ?a ?a0 ?b
 case a=>decide
 case a0=>decide
 intro cdv A outer s H E B Io S hr
 exact (qh (qfK (qP qeS qea rfl T.b_divmod qhP (qb (qkq (i:=0) qf) (qb (qc 1) qd))) (qaJ (n:=2) rfl (zw (qY (i:=2) w6.nd) (zw (qY (i:=3) w6.nd) vX))))
   (qh (qlB (i:=0) (qc 2) qf)
   (qm (qy (qc 3)))))
theorem zt:qv ["box","cut","odd","top","bottom","some","word","place","ones","at"] ["box","cut","odd"] (qe jW):=⟨rfl,rfl,rfl,by decide +kernel,rfl,by decide +kernel,by decide +kernel⟩
theorem q27 (F:Fun K "_law_bent" "_law_bent" jW f fd) (m:mg "_law_bent"=some (.ref f)) (T:Txt K mg) (XTt:XT K mg RN TN) (hB:K.In base) {kR:Nat} (hL:1<=kR) {R__law_bent:List D->List D->R (D×List D)} (C__law_bent:qB P w K mg base kR "_law_bent" ["box","cut","odd"] (qba K R__law_bent)) (C__law_take:Q26 P w K mg base):qB P w K mg base (kR+1) "_law_bent" ["box","cut","odd"] (qba K (u9 10 3 (jY R__law_bent))):=by
 refine⟨f,fd,?_,m,F.kp,F.binds λ_ _ _ _ _ _ us hl=>match us,hl with | [_,_,_],_=>rfl⟩
 show vV P w K mg base CX0 (kR+0+1) f fd ["box","cut","odd"] (qba K (u9 (["box","cut","odd","top","bottom","some","word","place","ones","at"]:List Str).length (["box","cut","odd"]:List Str).length (jY R__law_bent)))
 refine qgB (N:=["box","cut","odd","top","bottom","some","word","place","ones","at"]) (ps:=["box","cut","odd"]) (k:=kR+0) (O:=[0]) (body:=(jY R__law_bent)) F zt ?a ?a0 ?b
 case a=>decide
 case a0=>decide
 intro cdv A outer s H E B Io S hr
 exact (qh (jk (ze (uk hr) jQ (qC qq qp (qc 1) qf) zp (qI _)) (qh (qfK (qC qq qp (qc 1) qf) (qaJ (n:=2) rfl (zw (qY (i:=3) zt.nd) (zw (qY (i:=4) zt.nd) vX))))
   (qh (qJ (i:=5) zt.nd (jj (qb (qH (qb zp (qb (qH (qb (qo qT qU (qc 3) qf) (qb (qc 4) qd))) qd))) (qb (qH (qb zp (qb (qH (qb qf (qb qf qd))) qd))) (qb (qH (qb zp (qb (qH (qb (qo zv zb qf (qc 3)) (qb (qo zv zb qf (qc 4)) qd))) qd))) (qb (qH (qb zp qd)) (qb (qc 2) qd)))))))
   (qh (qJ (i:=5) zt.nd (qo qT qU (qc 5) (jj (qb (qH (qb zp (qb (qH (qb (qc 3) (qb (qc 4) qd))) (qb (qH qd) qd)))) (qb (jj (qb zp (qb (qC qq qp (qc 1) qf) qd))) (qb (qH (qb zp (qb (qC qq qp (qc 1) qf) qd))) (qb (qH (qb zp (qb (qc 3) qd))) qd)))))))
   (qm (qy (qC qq qp (qc 5) (iC (i:=0) C__law_take hr (qb qf qd) (hk:=by omega)))))))) qA)
   (qh (qfK (qc 1) (qaJ (n:=3) rfl (zw (qY (i:=6) zt.nd) (zw (qY (i:=7) zt.nd) (zw (qY (i:=8) zt.nd) vX)))))
   (qh (qJ (i:=9) zt.nd (iC (i:=0) C__law_take hr (qb (qP zj zn rfl T.b_len yq (qb (qc 8) qd)) qd) (hk:=by omega)))
   (qh (qJ (i:=5) zt.nd (qo zv zb (jj (qb (qH (qb (qc 6) (qb (qc 7) (qb (qo qT qU (qo qT qU (ul (qc 8) wJ (wK (qc 9))) (qH (qb (iC (i:=0) C__law_bent hr (qb (qC qq qp (qc 8) (qc 9)) (qb (qc 2) qd)) (hk:=by omega)) qd))) (ul (qc 8) (wK (qo qT qU (qc 9) qf)) wJ)) qd)))) qd)) qf))
   (qh (qJ (i:=5) zt.nd (qo qT qU (qc 5) (jj (qb (qH (qb (qc 6) (qb (qc 7) (qb (ul (qc 8) wJ (wK (qbB qf))) qd)))) (qb (qH (qb (qc 6) (qb (qc 7) (qb (qo qT qU (qc 8) (ul (qc 8) (wK (qbB qf)) wJ)) qd)))) (qb (qH (qb (qc 6) (qb (qc 7) (qb (ql7 (qc 8)) qd)))) qd))))))
   (qh (qJ (i:=5) zt.nd (qo qT qU (qc 5) (jj (qb (qH (qb (qc 6) (qb (qo qT qU (qc 7) qf) (qb (qc 8) qd)))) (qb (qH (qb (qc 6) (qb (uW (uk hr) jQ (qc 7) qf (qI _)) (qb (qc 8) qd)))) (qb (qH (qb zp (qb (qc 7) (qb (qc 8) qd)))) (qb (qH (qb (qc 6) (qb (qc 7) (qb (qd7 qbz qcQ rfl T.b_list qhR (qb (qc 8) qd)) qd)))) qd)))))))
   (qm (qy (qC qq qp (qo qT qU (qc 5) (jj (qb (qH (qb (qc 6) (qb (qc 8) qd))) (qb (qd7 qbz qcQ rfl T.b_list qhR (qb (qc 1) qd)) (qb (qH (qb (qc 6) (qb (qo qai vm (qc 7) qf) (qb (qc 8) qd)))) (qb (qH (qb zp (qb (qH (qb qf (qb qf qd))) qd))) qd)))))) (iC (i:=0) C__law_take hr (qb qf qd) (hk:=by omega)))))))))))
theorem qrh (F:Fun K "_law_bent" "_law_bent" jW f fd) (m:mg "_law_bent"=some (.ref f)):qB P w K mg base 1 "_law_bent" ["box","cut","odd"] (qba K (jZ 0)) :=
 ⟨f,fd,qf9,m,F.kp,F.binds λ_ _ _ _ _ _ us hl=>match us,hl with | [_,_,_],_=>rfl⟩
theorem qdQ:qv ["found","due"] ["found","due"] (qe yt):=⟨rfl,rfl,rfl,by decide +kernel,rfl,by decide +kernel,by decide +kernel⟩
theorem q28 (F:Fun K "_law_truth" "_law_truth" yt f fd) (m:mg "_law_truth"=some (.ref f)) (T:Txt K mg) (XTt:XT K mg RN TN) (hB:K.In base):Q28 P w K mg base:=by
 refine⟨f,fd,?_,m,F.kp,F.binds λ_ _ _ _ _ _ us hl=>match us,hl with | [_,_],_=>rfl⟩
 exact zc (N:=["found","due"]) (O:=[]) (body:=wV) F qdQ (by decide) λcdv A outer s H E B hr=>(qm (qy (qaj (vb qdi rfl T.b_isinstance rfl T.b_bool qe3 (qc 0) qx) (wy (uW (uk hr) jQ (qc 0) (qc 1) (qI _))))))
theorem qcD:qv ["store","place"] ["store","place"] (qe jC):=⟨rfl,rfl,rfl,by decide +kernel,rfl,by decide +kernel,by decide +kernel⟩
theorem q29 (F:Fun K "_law_without" "_law_without" jC f fd) (m:mg "_law_without"=some (.ref f)) (T:Txt K mg) (XTt:XT K mg RN TN) (hB:K.In base):Q29 P w K mg base:=by
 refine⟨f,fd,?_,m,F.kp,F.binds λ_ _ _ _ _ _ us hl=>match us,hl with | [_,_],_=>rfl⟩
 exact zc (N:=["store","place"]) (O:=[]) (body:=vt) F qcD (by decide) λcdv A outer s H E B hr=>(qm (qy (qo qT qU (qo qT qU (ul (qc 0) wJ (wK (qc 1))) (qH (qb (qH (qb (qC qq qp (qC qq qp (qc 0) (qc 1)) qf) (qb (qC qq qp (qC qq qp (qc 0) (qc 1)) qf) (qb qf qd)))) qd))) (ul (qc 0) (wK (qo qT qU (qc 1) qf)) wJ))))
theorem qa1:qv ["kind","room","often"] ["kind","room"] (qe yu):=⟨rfl,rfl,rfl,by decide +kernel,rfl,by decide +kernel,by decide +kernel⟩
theorem q30 (F:Fun K "_law_often" "_law_often" yu f fd) (m:mg "_law_often"=some (.ref f)) (T:Txt K mg) (XTt:XT K mg RN TN) (hB:K.In base):Q30 P w K mg base:=by
 refine⟨f,fd,?_,m,F.kp,F.binds λ_ _ _ _ _ _ us hl=>match us,hl with | [_,_],_=>rfl⟩
 exact zc (N:=["kind","room","often"]) (O:=[]) (body:=wW) F qa1 (by decide) λcdv A outer s H E B hr=>(qh (qJ (i:=2) qa1.nd (qo vj y8 (qc 1) (qC qq qp (qc 0) qf)))
   (qh (jk (ze qcP qa5 (qC qq qp (qc 0) qf) uz (qI _)) (qm (qy (qc 2))) qA)
   (qm (qy (qP (qaG rfl) qaK rfl T.b_min qfQ (qb (qc 2) (qb (qC qq qp (qc 0) qf) qd)))))))
theorem qdR:qv ["thing"] ["thing"] (qe yv):=⟨rfl,rfl,rfl,by decide +kernel,rfl,by decide +kernel,by decide +kernel⟩
theorem q31 (F:Fun K "_law_whole" "_law_whole" yv f fd) (m:mg "_law_whole"=some (.ref f)) (T:Txt K mg) (XTt:XT K mg RN TN) (hB:K.In base):Q31 P w K mg base:=by
 refine⟨f,fd,?_,m,F.kp,F.binds λ_ _ _ _ _ _ us hl=>match us,hl with | [_],_=>rfl⟩
 exact zc (N:=["thing"]) (O:=[]) (body:=wX) F qdR (by decide) λcdv A outer s H E B hr=>(qm (qy (qaj (vb qhF rfl T.b_isinstance rfl T.b_int qku (qc 0) qx) (wy (qki (vb qdi rfl T.b_isinstance rfl T.b_bool qe3 (qc 0) qx))))))
theorem qar:qv ["one","other"] ["one","other"] (qe yd):=⟨rfl,rfl,rfl,by decide +kernel,rfl,by decide +kernel,by decide +kernel⟩
theorem q32 (F:Fun K "_law_common" "_law_common" yd f fd) (m:mg "_law_common"=some (.ref f)) (T:Txt K mg) (XTt:XT K mg RN TN) (hB:K.In base):Q32 P w K mg base:=by
 refine⟨f,fd,?_,m,F.kp,F.binds λ_ _ _ _ _ _ us hl=>match us,hl with | [_,_],_=>rfl⟩
 exact zc (N:=["one","other"]) (O:=[]) (body:=v8) F qar (by decide) λcdv A outer s H E B hr=>(qh (qfT yaS (ze (yE hr) jw (qc 1) qf (qI _)) (qm (qhO (i:=0) (j:=1) qar.nd (qb (qc 1) (qb (qo qbX qas (qc 0) (qc 1)) qd)) rfl)))
   (qm (qy (qc 0))))
theorem qcE:qv ["top","bottom","by"] ["top","bottom"] (qe uP):=⟨rfl,rfl,rfl,by decide +kernel,rfl,by decide +kernel,by decide +kernel⟩
theorem q33 (F:Fun K "_law_low" "_law_low" uP f fd) (m:mg "_law_low"=some (.ref f)) (T:Txt K mg) (XTt:XT K mg RN TN) (hB:K.In base) (C__law_common:Q32 P w K mg base):Q33 P w K mg base:=by
 refine⟨f,fd,?_,m,F.kp,F.binds λ_ _ _ _ _ _ us hl=>match us,hl with | [_,_],_=>rfl⟩
 exact zc (N:=["top","bottom","by"]) (O:=[]) (body:=qbq) F qcE (by decide) λcdv A outer s H E B hr=>(qh (qJ (i:=2) qcE.nd (dC C__law_common hr (qb (qc 0) (qb (qc 1) qd))))
   (qm (qy (qH (qb (qo vj y8 (qc 0) (qc 2)) (qb (qo vj y8 (qc 1) (qc 2)) qd))))))
theorem zL:qv ["store","room","price","top","heavy","dear","most","more"] ["store","room","price"] (qe jo):=⟨rfl,rfl,rfl,by decide +kernel,rfl,by decide +kernel,by decide +kernel⟩
theorem q34 (F:Fun K "_law_bound_by" "_law_bound_by" jo f fd) (m:mg "_law_bound_by"=some (.ref f)) (T:Txt K mg) (XTt:XT K mg RN TN) (hB:K.In base) (C__law_low:Q33 P w K mg base):Q34 P w K mg base:=by
 refine⟨f,fd,?_,m,F.kp,F.binds λ_ _ _ _ _ _ us hl=>match us,hl with | [_,_,_],_=>rfl⟩
 exact zc (N:=["store","room","price","top","heavy","dear","most","more"]) (O:=[]) (body:=yM) F zL (by decide) λcdv A outer s H E B hr=>(qh (qJ (i:=3) zL.nd (qo zv zb (qc 1) (qC qq qp (qc 2) qf)))
   (qh (vC yaS rfl (wL (qc 0)) (qaJ (n:=3) rfl (zw (qY (i:=4) zL.nd) (zw (qY (i:=5) zL.nd) (zw (qY (i:=6) zL.nd) vX)))) (qh (qJ (i:=7) zL.nd (qo qai vm (qo zv zb (qc 5) (qC qq qp (qc 2) qf)) (qo zv zb (qc 4) (qC qq qp (qc 2) qf))))
   (qm (jk (ze qeQ qb8 (qc 7) qf (qI _)) (qh (jk (ze qcP qa5 (qc 6) uz (qI _)) (qm (qy uz)) qA)
   (qm (qJ (i:=3) zL.nd (qo qT qU (qc 3) (qo zv zb (qc 7) (qc 6)))))) qA))))
   (qm (qy (dC C__law_low hr (qb (qc 3) (qb (qC qq qp (qc 2) qf) qd)))))))
theorem qbM:qv ["thing"] ["thing"] (qe jp):=⟨rfl,rfl,rfl,by decide +kernel,rfl,by decide +kernel,by decide +kernel⟩
theorem q35 (F:Fun K "_law_is_price" "_law_is_price" jp f fd) (m:mg "_law_is_price"=some (.ref f)) (T:Txt K mg) (XTt:XT K mg RN TN) (hB:K.In base) (C__law_common:Q32 P w K mg base) (C__law_whole:Q31 P w K mg base):Q35 P w K mg base:=by
 refine⟨f,fd,?_,m,F.kp,F.binds λ_ _ _ _ _ _ us hl=>match us,hl with | [_],_=>rfl⟩
 exact zc (N:=["thing"]) (O:=[]) (body:=j6) F qbM (by decide) λcdv A outer s H E B hr=>(qh (jk (DW.dt (uf (jg (jf (vb uh rfl T.b_isinstance rfl T.b_tuple y9 (qc 0) qx))) (uf (ze (yE hr) jw (qP zj zn rfl T.b_len yq (qb (qc 0) qd)) qf (qI _)) (uf (jg (jf (dC C__law_whole hr (qb (qC qq qp (qc 0) qf) qd)))) (ue (jg (jf (dC C__law_whole hr (qb (qC qq qp (qc 0) qf) qd))))))))) (qm (qy yN)) qA)
   (qm (qy (qaj (uW qld qhB (qC qq qp (qc 0) qf) qf (qI _)) (qaj (uW qld qhB (qC qq qp (qc 0) qf) qf (qI _)) (wy (uW (uk hr) jQ (dC C__law_common hr (qb (qC qq qp (qc 0) qf) (qb (qC qq qp (qc 0) qf) qd))) qf (qI _))))))))
theorem zU:qv ["thing","store","room","u","high","word","place","ones","kind","rest","k"] ["thing","store","room","u"] (qe zY):=⟨rfl,rfl,rfl,by decide +kernel,rfl,by decide +kernel,by decide +kernel⟩
theorem q36 (F:Fun K "_law_is_cut" "_law_is_cut" zY f fd) (m:mg "_law_is_cut"=some (.ref f)) (T:Txt K mg) (XTt:XT K mg RN TN) (hB:K.In base) {kR:Nat} (hL:3<=kR) {R__law_is_cut:List D->R D} (C__law_is_cut:qB P w K mg base kR "_law_is_cut" ["thing","store","room","u"] (spD K R__law_is_cut)) (C__law_without:Q29 P w K mg base) (C__law_often:Q30 P w K mg base) (C__law_whole:Q31 P w K mg base) (C__law_bound_by:Q34 P w K mg base) (C__law_is_price:Q35 P w K mg base):qB P w K mg base (kR+1) "_law_is_cut" ["thing","store","room","u"] (spD K (dfn 11 4 (qV R__law_is_cut))):=by
 refine⟨f,fd,?_,m,F.kp,F.binds λ_ _ _ _ _ _ us hl=>match us,hl with | [_,_,_,_],_=>rfl⟩
 show vV P w K mg base CX0 (kR+0+1) f fd ["thing","store","room","u"] (spD K (dfn (["thing","store","room","u","high","word","place","ones","kind","rest","k"]:List Str).length (["thing","store","room","u"]:List Str).length (qV R__law_is_cut)))
 refine zc (N:=["thing","store","room","u","high","word","place","ones","kind","rest","k"]) (ps:=["thing","store","room","u"]) (k:=kR+0) (O:=[]) (body:=(qV R__law_is_cut)) F zU ?a ?b
 case a=>decide
 intro cdv A outer s H E B hr
 exact (qh (jk (DW.dt (uf (jg (jf (vb uh rfl T.b_isinstance rfl T.b_tuple y9 (qc 0) qx))) (uf (ze (ql5 hr) qjL (qP zj zn rfl T.b_len yq (qb (qc 0) qd)) (qH (qb qf (qb qf qd))) rfl) (ue (jg (jf (vb qlw rfl T.b_isinstance rfl T.b_str qnR (qC qq qp (qc 0) qf) qx))))))) (qm (qy yN)) qA)
   (qh (jk (ze (uk hr) jQ (qP zj zn rfl T.b_len yq (qb (qc 0) qd)) qf (qI _)) (qh (jk (DW.dt (uf (ze (yE hr) jw (qC qq qp (qc 0) qf) zp (qI _)) (ue (jg (jf (dC C__law_is_price hr (qb (qC qq qp (qc 0) qf) qd) (hk:=by omega))))))) (qm (qy yN)) qA)
   (qh (qJ (i:=4) zU.nd (dC C__law_bound_by hr (qb (qc 1) (qb (qc 2) (qb (qC qq qp (qc 0) qf) qd))) (hk:=by omega)))
   (qm (qy (qaj (uW qeR qdh (qc 4) uz (qI _)) (wy (uW qhk qd9 (qC qq qp (qc 4) qf) (qo zv zb (qc 3) (qC qq qp (qc 4) qf)) (qI _)))))))) qA)
   (qh (qfK (qc 0) (qaJ (n:=3) rfl (zw (qY (i:=5) zU.nd) (zw (qY (i:=6) zU.nd) (zw (qY (i:=7) zU.nd) vX)))))
   (qh (jk (DW.dt (uf (ze (yE hr) jw (qc 5) zp (qI _)) (uf (jg (jf (dC C__law_whole hr (qb (qc 6) qd) (hk:=by omega)))) (uf (jg (qjQ qo5 qny qhk qd9 qf (qc 6) (qP zj zn rfl T.b_len yq (qb (qc 1) qd)))) (ue (ze (uk hr) jQ (qC qq qp (qC qq qp (qc 1) (qc 6)) qf) qf (qI _))))))) (qm (qy yN)) qA)
   (qh (qJ (i:=8) zU.nd (qC qq qp (qc 1) (qc 6)))
   (qh (jk (DW.dt (uf (jg (jf (vb uh rfl T.b_isinstance rfl T.b_tuple y9 (qc 7) qx))) (ue (ze (yE hr) jw (qP zj zn rfl T.b_len yq (qb (qc 7) qd)) (qo qT qU (dC C__law_often hr (qb (qc 8) (qb (qc 2) qd)) (hk:=by omega)) qf) (qI _))))) (qm (qy yN)) qA)
   (qh (qJ (i:=9) zU.nd (dC C__law_without hr (qb (qc 1) (qb (qc 6) qd)) (hk:=by omega)))
   (qh (vC yaS rfl (yC rfl T.b_range (qb (qP zj zn rfl T.b_len yq (qb (qc 7) qd)) qd)) (qY (i:=10) zU.nd) (qm (jk (jg (jf (dC C__law_is_cut hr (qb (qC qq qp (qc 7) (qc 10)) (qb (qc 9) (qb (qo qai vm (qc 2) (qo zv zb (qc 10) (qC qq qp (qc 8) qf))) (qb (qo qai vm (qc 3) (qo zv zb (qc 10) (qC qq qp (qc 8) qf))) qd)))) (hk:=by omega)))) (qm (qy yN)) qA)))
   (qm (qy yN))))))))))
theorem qri (F:Fun K "_law_is_cut" "_law_is_cut" zY f fd) (m:mg "_law_is_cut"=some (.ref f)):qB P w K mg base 3 "_law_is_cut" ["thing","store","room","u"] (spD K (zC 0)) :=
 ⟨f,fd,qkO,m,F.kp,F.binds λ_ _ _ _ _ _ us hl=>match us,hl with | [_,_,_,_],_=>rfl⟩
theorem z7:qv ["box","store","room","u","prices","good","left","place","kind","rest","ones","k"] ["box","store","room","u"] (qe zy):=⟨rfl,rfl,rfl,by decide +kernel,rfl,by decide +kernel,by decide +kernel⟩
theorem q37 (F:Fun K "_law_made" "_law_made" zy f fd) (m:mg "_law_made"=some (.ref f)) (T:Txt K mg) (XTt:XT K mg RN TN) (hB:K.In base) {kR:Nat} (hL:7<=kR) {R__law_made:List D->List D->R (D×List D)} (C__law_made:qB P w K mg base kR "_law_made" ["box","store","room","u"] (qba K R__law_made)) (C__law_often:Q30 P w K mg base) (C__law_without:Q29 P w K mg base) (C__law_take:Q26 P w K mg base) (C__law_is_cut:Q36 P w K mg base) (C__law_low:Q33 P w K mg base):qB P w K mg base (kR+1) "_law_made" ["box","store","room","u"] (qba K (u9 12 4 (j8 R__law_made))):=by
 refine⟨f,fd,?_,m,F.kp,F.binds λ_ _ _ _ _ _ us hl=>match us,hl with | [_,_,_,_],_=>rfl⟩
 show vV P w K mg base CX0 (kR+0+1) f fd ["box","store","room","u"] (qba K (u9 (["box","store","room","u","prices","good","left","place","kind","rest","ones","k"]:List Str).length (["box","store","room","u"]:List Str).length (j8 R__law_made)))
 refine qgB (N:=["box","store","room","u","prices","good","left","place","kind","rest","ones","k"]) (ps:=["box","store","room","u"]) (k:=kR+0) (O:=[0,10]) (body:=(j8 R__law_made)) F z7 ?a ?a0 ?b
 case a=>decide
 case a0=>decide
 intro cdv A outer s H E B Io S hr
 exact (qh (qJ (i:=4) z7.nd (qo qT qU (jj (qb (qH (qb qf (qb qf qd))) qd)) (qcc (fo:=none) rfl (wL (qc 1)) (cs ["box","store","room","u","prices","good","left","place","kind","rest","ones","k"] ["kind"] 1 [] (qe zy)) (f0 [] [0,10]) (λ_ _ _ _ _ _ _ _ _ _ _=>⟨(qY (i:=0) (nd ["kind"])),(qhI (ze (yE hr) jw (qC qq qp (qc 0) qf) qf (qI _))),(dC C__law_low hr (qb (qC qq qp (qc 0) qf) (qb (qC qq qp (qc 0) qf) qd)) (hk:=by omega))⟩))))
   (qh (qfa (i:=5) z7.nd (qe9 (fo:=none) rfl (wL (qc 4)) (cs ["box","store","room","u","prices","good","left","place","kind","rest","ones","k"] ["price","store","room","u"] 1 [1,2,3] (qe zy)) (f0 [1,2,3] [0,10]) (λ_ _ _ _ _ _ _ _ _ _ _=>⟨(qY (i:=0) (nd ["price","store","room","u"])),(qhI (jf (dC C__law_is_cut hr (qb (qH (qb zp (qb (qc 0) qd))) (qb (qc 1) (qb (qc 2) (qb (qc 3) qd)))) (hk:=by omega)))),(qc 0)⟩)) rfl (cs ["box","store","room","u","prices","good","left","place","kind","rest","ones","k"] ["price","store","room","u"] 1 [1,2,3] (qe zy)))
   (qh (qfa (i:=6) z7.nd (qe9 (fo:=none) rfl (yC rfl T.b_range (qb (qP zj zn rfl T.b_len yq (qb (qc 1) qd)) qd)) (cs ["box","store","room","u","prices","good","left","place","kind","rest","ones","k"] ["place","store"] 1 [1] (qe zy)) (f0 [1] [0,10]) (λ_ _ _ _ _ _ _ _ _ _ _=>⟨(qY (i:=0) (nd ["place","store"])),(qhI (ze (yE hr) jw (qC qq qp (qC qq qp (qc 1) (qc 0)) qf) qf (qI _))),(qc 0)⟩)) rfl (cs ["box","store","room","u","prices","good","left","place","kind","rest","ones","k"] ["place","store"] 1 [1] (qe zy)))
   (qh (jk (DW.dt (qhy (ze (yE hr) jw (qc 5) (jj qd) (qI _)) (qeX (DW.dt (uf (ze (uk hr) jQ (qc 6) (jj qd) (qI _)) (ue (ze (uk hr) jQ (iC (i:=0) C__law_take hr (qb qf qd) (hk:=by omega)) qf (qI _)))))))) (qm (qy (qH (qb zp (qb (qC qq qp (qc 5) (iC (i:=0) C__law_take hr (qb (qP zj zn rfl T.b_len yq (qb (qc 5) qd)) qd) (hk:=by omega))) qd))))) qA)
   (qh (jk (ze (uk hr) jQ (qc 6) (jj qd) (qI _)) (qm (qy (qH (qb zp (qb (qH (qb qf (qb qf qd))) qd))))) qA)
   (qh (qJ (i:=7) z7.nd (qC qq qp (qc 6) (iC (i:=0) C__law_take hr (qb (qP zj zn rfl T.b_len yq (qb (qc 6) qd)) qd) (hk:=by omega))))
   (qh (qJ (i:=8) z7.nd (qC qq qp (qc 1) (qc 7)))
   (qh (qJ (i:=9) z7.nd (dC C__law_without hr (qb (qc 1) (qb (qc 7) qd)) (hk:=by omega)))
   (qh (qe1 (i:=10) z7.nd (qkp qd))
   (qh (vC yaS rfl (yC rfl T.b_range (qb (qo qT qU (dC C__law_often hr (qb (qc 8) (qb (qc 2) qd)) (hk:=by omega)) qf) qd)) (qY (i:=11) z7.nd) (qm (wG (qec (i:=10) (iC (i:=0) C__law_made hr (qb (qc 9) (qb (qo qai vm (qc 2) (qo zv zb (qc 11) (qC qq qp (qc 8) qf))) (qb (qo qai vm (qc 3) (qo zv zb (qc 11) (qC qq qp (qc 8) qf))) qd))) (hk:=by omega))))))
   (qm (qy (qH (qb zp (qb (qc 7) (qb (qhL (i:=10) rfl T.b_tuple y9) qd))))))))))))))))
theorem qrj (F:Fun K "_law_made" "_law_made" zy f fd) (m:mg "_law_made"=some (.ref f)):qB P w K mg base 7 "_law_made" ["box","store","room","u"] (qba K (yA 0)) :=
 ⟨f,fd,qf9,m,F.kp,F.binds λ_ _ _ _ _ _ us hl=>match us,hl with | [_,_,_,_],_=>rfl⟩
theorem ww:qv ["store","load","place","found","at"] ["store","load","place"] (qe uQ):=⟨rfl,rfl,rfl,by decide +kernel,rfl,by decide +kernel,by decide +kernel⟩
theorem q38 (F:Fun K "_law_sum" "_law_sum" uQ f fd) (m:mg "_law_sum"=some (.ref f)) (T:Txt K mg) (XTt:XT K mg RN TN) (hB:K.In base):Q38 P w K mg base:=by
 refine⟨f,fd,?_,m,F.kp,F.binds λ_ _ _ _ _ _ us hl=>match us,hl with | [_,_,_],_=>rfl⟩
 exact zc (N:=["store","load","place","found","at"]) (O:=[]) (body:=qbr) F ww (by decide) λcdv A outer s H E B hr=>(qh (qJ (i:=3) ww.nd qf)
   (qh (vC yaS rfl (yC rfl T.b_range (qb (qP zj zn rfl T.b_len yq (qb (qc 0) qd)) qd)) (qY (i:=4) ww.nd) (qm (qJ (i:=3) ww.nd (qo qT qU (qc 3) (qo zv zb (qC qq qp (qC qq qp (qc 0) (qc 4)) (qc 2)) (qC qq qp (qc 1) (qc 4)))))))
   (qm (qy (qc 3)))))
theorem qL:qv ["store","room","found","heavy","dear","most","later","load","left","often"] ["store","room"] (qe zq):=⟨rfl,rfl,rfl,by decide +kernel,rfl,by decide +kernel,by decide +kernel⟩
theorem q39 (F:Fun K "_law_all_loads" "_law_all_loads" zq f fd) (m:mg "_law_all_loads"=some (.ref f)) (T:Txt K mg) (XTt:XT K mg RN TN) (hB:K.In base):Q39 P w K mg base:=by
 refine⟨f,fd,?_,m,F.kp,F.binds λ_ _ _ _ _ _ us hl=>match us,hl with | [_,_],_=>rfl⟩
 exact zc (N:=["store","room","found","heavy","dear","most","later","load","left","often"]) (O:=[]) (body:=ux) F qL (by decide) λcdv A outer s H E B hr=>(qh (qJ (i:=2) qL.nd (jj (qb (qH (qb (qH qd) (qb (qc 1) qd))) qd)))
   (qh (vC yaS rfl (wL (qc 0)) (qaJ (n:=3) rfl (zw (qY (i:=3) qL.nd) (zw (qY (i:=4) qL.nd) (zw (qY (i:=5) qL.nd) vX)))) (qh (qJ (i:=6) qL.nd (jj qd))
   (qh (vC yaS rfl (wL (qc 2)) (qaJ (n:=2) rfl (zw (qY (i:=7) qL.nd) (zw (qY (i:=8) qL.nd) vX))) (qh (qJ (i:=9) qL.nd (qo vj y8 (qc 8) (qc 3)))
   (qh (jk (ze qeR qdh (qc 5) uz (qI _)) (qm (qJ (i:=9) qL.nd (qP (qaG rfl) qaK rfl T.b_min qfQ (qb (qc 9) (qb (qc 5) qd))))) qA)
   (qm (qJ (i:=6) qL.nd (qo qT qU (qc 6) (qcc (fo:=none) rfl (yC rfl T.b_range (qb (qo qT qU (qc 9) qf) qd)) (cs ["store","room","found","heavy","dear","most","later","load","left","often"] ["k","load","left","heavy"] 1 [7,8,3] (qe zq)) (f0 [7,8,3] []) (λ_ _ _ _ _ _ _ _ _ _ _=>⟨(qY (i:=0) (nd ["k","load","left","heavy"])),qeb,(qH (qb (qo qT qU (qc 1) (qH (qb (qc 0) qd))) (qb (qo qai vm (qc 2) (qo zv zb (qc 0) (qc 3))) qd)))⟩))))))))
   (qm (qJ (i:=2) qL.nd (qc 6))))))
   (qm (qy (qcc (fo:=none) rfl (wL (qc 2)) (cs ["store","room","found","heavy","dear","most","later","load","left","often"] ["load","left"] 2 [] (qe zq)) (f0 [] []) (λ_ _ _ _ _ _ _ _ _ _ _=>⟨(qaJ (n:=2) rfl (zw (qY (i:=0) (nd ["load","left"])) (zw (qY (i:=1) (nd ["load","left"])) vX))),qeb,(qc 0)⟩))))))
theorem u7:qv ["store","room","some","worths"] ["store","room"] (qe zS):=⟨rfl,rfl,rfl,by decide +kernel,rfl,by decide +kernel,by decide +kernel⟩
theorem q40 (F:Fun K "_law_best_of" "_law_best_of" zS f fd) (m:mg "_law_best_of"=some (.ref f)) (T:Txt K mg) (XTt:XT K mg RN TN) (hB:K.In base) (C__law_sum:Q38 P w K mg base) (C__law_all_loads:Q39 P w K mg base):Q40 P w K mg base:=by
 refine⟨f,fd,?_,m,F.kp,F.binds λ_ _ _ _ _ _ us hl=>match us,hl with | [_,_],_=>rfl⟩
 exact zc (N:=["store","room","some","worths"]) (O:=[]) (body:=vv) F u7 (by decide) λcdv A outer s H E B hr=>(qh (qJ (i:=2) u7.nd (dC C__law_all_loads hr (qb (qc 0) (qb (qc 1) qd))))
   (qh (qfa (i:=3) u7.nd (qe9 (fo:=none) rfl (wL (qc 2)) (cs ["store","room","some","worths"] ["load","store"] 1 [0] (qe zS)) (f0 [0] []) (λ_ _ _ _ _ _ _ _ _ _ _=>⟨(qY (i:=0) (nd ["load","store"])),qeb,(dC C__law_sum hr (qb (qc 1) (qb (qc 0) (qb qf qd))))⟩)) rfl (cs ["store","room","some","worths"] ["load","store"] 1 [0] (qe zS)))
   (qm (qy (qH (qb (qP (qci rfl) qbc rfl T.b_max qfP (qb (qc 3) qd)) (qb (qC qq qp (qc 2) (qds ycI qf0 (qig hr) qes (qc 3) (qb (qP (qci rfl) qbc rfl T.b_max qfP (qb (qc 3) qd)) qd))) (qb (qds yea qfZ qh9 qeq (qc 3) (qb (qP (qci rfl) qbc rfl T.b_max qfP (qb (qc 3) qd)) qd)) qd))))))))
theorem y7:qv ["box","some"] ["box"] (qe zX):=⟨rfl,rfl,rfl,by decide +kernel,rfl,by decide +kernel,by decide +kernel⟩
theorem q41 (F:Fun K "_law_odd_thing" "_law_odd_thing" zX f fd) (m:mg "_law_odd_thing"=some (.ref f)) (T:Txt K mg) (XTt:XT K mg RN TN) (hB:K.In base) (C__law_take:Q26 P w K mg base):Q41 P w K mg base:=by
 refine⟨f,fd,?_,m,F.kp,F.binds λ_ _ _ _ _ _ us hl=>match us,hl with | [_],_=>rfl⟩
 show vV P w K mg base CX0 2 f fd ["box"] (qba K (u9 (["box","some"]:List Str).length (["box"]:List Str).length ym))
 refine qgB (N:=["box","some"]) (ps:=["box"]) (k:=1) (O:=[0]) (body:=ym) F y7 ?a ?a0 ?b
 case a=>decide
 case a0=>decide
 intro cdv A outer s H E B Io S hr
 exact (qh (qJ (i:=1) y7.nd (jj (qb uz (qb yN (qb yN (qb (qbB qf) (qb zp (qb zp (qb (qH (qb qf qd)) (qb (jj (qb qf qd)) (qb qjv (qb (qH (qb (qbB qf) qd)) (qb (qH (qb yN qd)) (qb (qH (qb (qH (qb qf (qb qf qd))) qd)) (qb (qH (qb uz qd)) (qb (qo qnd qlM qf qf) qd))))))))))))))))
   (qh (qJ (i:=1) y7.nd (qo qT qU (qc 1) (jj (qb (qH (qb qf (qb qf (qb qf qd)))) (qb (qH (qb (qH (qb qf (qb qf (qb qf qd)))) qd)) (qb (qH (qb (qH (qb qf (qb (qbB qf) (qb qf qd)))) qd)) (qb (qH (qb (qH (qb qf (qb qf (qb (qbB qf) qd)))) qd)) (qb (jj (qb (qH (qb qf (qb qf (qb qf qd)))) qd)) (qb qju (qb zp (qb (qH (qb (qH (qb qf (qb qf (qb yN qd)))) qd)) qd)))))))))))
   (qm (qy (qC qq qp (qc 1) (iC (i:=0) C__law_take hr (qb qf qd)))))))
theorem zV:qv ["box","ends","way","heavy","dear","often"] ["box","ends"] (qe jD):=⟨rfl,rfl,rfl,by decide +kernel,rfl,by decide +kernel,by decide +kernel⟩
theorem q42 (F:Fun K "_law_kind_of" "_law_kind_of" jD f fd) (m:mg "_law_kind_of"=some (.ref f)) (T:Txt K mg) (XTt:XT K mg RN TN) (hB:K.In base) (C__law_take:Q26 P w K mg base):Q42 P w K mg base:=by
 refine⟨f,fd,?_,m,F.kp,F.binds λ_ _ _ _ _ _ us hl=>match us,hl with | [_,_],_=>rfl⟩
 show vV P w K mg base CX0 2 f fd ["box","ends"] (qba K (u9 (["box","ends","way","heavy","dear","often"]:List Str).length (["box","ends"]:List Str).length uc))
 refine qgB (N:=["box","ends","way","heavy","dear","often"]) (ps:=["box","ends"]) (k:=1) (O:=[0]) (body:=uc) F zV ?a ?a0 ?b
 case a=>decide
 case a0=>decide
 intro cdv A outer s H E B Io S hr
 exact (qh (qJ (i:=2) zV.nd (iC (i:=0) C__law_take hr (qb qf qd)))
   (qh (qhO (i:=3) (j:=4) zV.nd (qb (qo qT qU qf (iC (i:=0) C__law_take hr (qb qf qd))) (qb (iC (i:=0) C__law_take hr (qb qf qd)) qd)) rfl)
   (qh (jk (ze (uk hr) jQ (qc 2) qf (qI _)) (qm (qJ (i:=4) zV.nd (qo zv zb qf (qc 3)))) qA)
   (qh (jk (ze (uk hr) jQ (qc 2) qf (qI _)) (qm (qJ (i:=4) zV.nd (qo qT qU (qc 3) (iC (i:=0) C__law_take hr (qb qf qd))))) qA)
   (qh (jk (ze (uk hr) jQ (qc 2) qf (qI _)) (qm (qhO (i:=3) (j:=4) zV.nd (qb (qo qT qU qf (iC (i:=0) C__law_take hr (qb qf qd))) (qb (iC (i:=0) C__law_take hr (qb qf qd)) qd)) rfl)) qA)
   (qh (qJ (i:=5) zV.nd (qC qq qp (jj (qb qf (qb qf (qb qf (qb qf (qb qf (qb qf (qb qf (qb (qc 1) qd))))))))) (iC (i:=0) C__law_take hr (qb qf qd))))
   (qm (qy (qH (qb (qc 3) (qb (qc 4) (qb (qc 5) qd))))))))))))
theorem ya:qv ["box","most","ends","found","k","kind"] ["box","most","ends"] (qe jE):=⟨rfl,rfl,rfl,by decide +kernel,rfl,by decide +kernel,by decide +kernel⟩
theorem q43 (F:Fun K "_law_stocked" "_law_stocked" jE f fd) (m:mg "_law_stocked"=some (.ref f)) (T:Txt K mg) (XTt:XT K mg RN TN) (hB:K.In base) (C__law_take:Q26 P w K mg base) (C__law_kind_of:Q42 P w K mg base):Q43 P w K mg base:=by
 refine⟨f,fd,?_,m,F.kp,F.binds λ_ _ _ _ _ _ us hl=>match us,hl with | [_,_,_],_=>rfl⟩
 show vV P w K mg base CX0 3 f fd ["box","most","ends"] (qba K (u9 (["box","most","ends","found","k","kind"]:List Str).length (["box","most","ends"]:List Str).length ud))
 refine qgB (N:=["box","most","ends","found","k","kind"]) (ps:=["box","most","ends"]) (k:=2) (O:=[0,3]) (body:=ud) F ya ?a ?a0 ?b
 case a=>decide
 case a0=>decide
 intro cdv A outer s H E B Io S hr
 exact (qh (qe1 (i:=3) ya.nd (qkp qd))
   (qh (vC yaS rfl (yC rfl T.b_range (qb (iC (i:=0) C__law_take hr (qb (qo qT qU (qc 1) qf) qd)) qd)) (qY (i:=4) ya.nd) (qh (qJ (i:=5) ya.nd (iC (i:=0) C__law_kind_of hr (qb (qc 2) qd)))
   (qh (jk (DW.dt (qhy (qnJ (i:=3) hr (jj qd)) (qeX (ze (uk hr) jQ (iC (i:=0) C__law_take hr (qb qf qd)) qf (qI _))))) (qm (qJ (i:=5) ya.nd (qkq (i:=3) (iC (i:=0) C__law_take hr (qb (qlC (i:=3) rfl T.b_len) qd))))) qA)
   (qm (wG (qec (i:=3) (qc 5)))))))
   (qm (qy (qhL (i:=3) rfl T.b_tuple y9)))))
theorem wx:qv ["cell","k","some","stir"] ["cell","k"] (qe uR):=⟨rfl,rfl,rfl,by decide +kernel,rfl,by decide +kernel,by decide +kernel⟩
theorem q44 (F:Fun K "_law_mix" "_law_mix" uR f fd) (m:mg "_law_mix"=some (.ref f)) (T:Txt K mg) (XTt:XT K mg RN TN) (hB:K.In base):Q44 P w K mg base:=by
 refine⟨f,fd,?_,m,F.kp,F.binds λ_ _ _ _ _ _ us hl=>match us,hl with | [_,_],_=>rfl⟩
 exact zc (N:=["cell","k","some","stir"]) (O:=[]) (body:=qbs) F wx (by decide) λcdv A outer s H E B hr=>(qh (qJ (i:=2) wx.nd (jj (qb qf (qb qf (qb qf (qb qf (qb qf (qb qf (qb qf (qb qf (qb qf (qb qf (qb qf (qb qf (qb qf qd)))))))))))))))
   (qh (qJ (i:=3) wx.nd (qo qT qU (qo qT qU (qo zv zb (qo qT qU (qo qbX qas (qc 0) qf) qf) (qC qq qp (qc 2) (qo qbX qas (qc 1) qf))) (qo zv zb qf (qc 1))) (qo zv zb qf (qo vj y8 (qc 1) qf))))
   (qh (qJ (i:=3) wx.nd (qo qbX qas (qc 3) qf))
   (qm (qy (qo vj y8 (qo qbX qas (qo qT qU (qo zv zb (qc 3) (qc 3)) (qo zv zb qf (qc 1))) qf) qf))))))
theorem qeM:qv ["script","k"] ["script","k"] (qe yY):=⟨rfl,rfl,rfl,by decide +kernel,rfl,by decide +kernel,by decide +kernel⟩
theorem q45 (F:Fun K "_law_cell" "_law_cell" yY f fd) (m:mg "_law_cell"=some (.ref f)) (T:Txt K mg) (XTt:XT K mg RN TN) (hB:K.In base):Q45 P w K mg base:=by
 refine⟨f,fd,?_,m,F.kp,F.binds λ_ _ _ _ _ _ us hl=>match us,hl with | [_,_],_=>rfl⟩
 exact zc (N:=["script","k"]) (O:=[]) (body:=v9) F qeM (by decide) λcdv A outer s H E B hr=>(qh (jk (ze qhk qd9 (qc 1) (qP zj zn rfl T.b_len yq (qb (qc 0) qd)) (qI _)) (qm (qy (qC qq qp (qc 0) (qc 1)))) qA)
   (qm (qy qf)))
theorem u8:qv ["script","k","cell","number","j"] ["script","k"] (qe uS):=⟨rfl,rfl,rfl,by decide +kernel,rfl,by decide +kernel,by decide +kernel⟩
theorem q46 (F:Fun K "_law_box" "_law_box" uS f fd) (m:mg "_law_box"=some (.ref f)) (T:Txt K mg) (XTt:XT K mg RN TN) (hB:K.In base) (C__law_mix:Q44 P w K mg base) (C__law_cell:Q45 P w K mg base):Q46 P w K mg base:=by
 refine⟨f,fd,?_,m,F.kp,F.binds λ_ _ _ _ _ _ us hl=>match us,hl with | [_,_],_=>rfl⟩
 exact zc (N:=["script","k","cell","number","j"]) (O:=[]) (body:=qad) F u8 (by decide) λcdv A outer s H E B hr=>(qh (qJ (i:=2) u8.nd (dC C__law_cell hr (qb (qc 0) (qb (qc 1) qd))))
   (qh (jk (ze (uk hr) jQ (qo qbX qas (qc 2) qf) qf (qI _)) (qm (qy (jj (qb (qo vj y8 (qP qi8 qhD rfl T.b_abs qnP (qb (qc 2) qd)) qf) qd)))) qA)
   (qh (qJ (i:=3) u8.nd qf)
   (qh (vC yaS rfl (yC rfl T.b_range (qb qf qd)) (qY (i:=4) u8.nd) (qm (qJ (i:=3) u8.nd (qo qT qU (qo zv zb (qc 3) qf) (dC C__law_mix hr (qb (qc 2) (qb (qc 4) qd)))))))
   (qm (qy (jj (qb (qc 3) qd))))))))
theorem wC:qv ["script","k","box","store","room","odd","best","u","cut","thing","held","due"] ["script"] (qe qcL):=⟨rfl,rfl,rfl,by decide +kernel,rfl,by decide +kernel,by decide +kernel⟩
theorem qoD (F:Fun K "law" "law" qcL f fd) (T:Txt K mg) (XTt:XT K mg RN TN) (hB:K.In base) (C__law_said:Q25 P w K mg base) (C__law_take:Q26 P w K mg base) (C__law_bent:Q27 P w K mg base) (C__law_truth:Q28 P w K mg base) (C_is_cut:Q24 P w K mg base) (C__law_is_cut:Q36 P w K mg base) (C__law_made:Q37 P w K mg base) (C__law_best_of:Q40 P w K mg base) (C__law_odd_thing:Q41 P w K mg base) (C__law_stocked:Q43 P w K mg base) (C__law_box:Q46 P w K mg base):vV P w K mg base CX0 15 f fd ["script"] (spD K qfr):=by
 exact zc (N:=["script","k","box","store","room","odd","best","u","cut","thing","held","due"]) (O:=[2]) (body:=qmq) F wC (by decide) λcdv A outer s H E B hr=>(qh (vC yaS rfl (yC rfl T.b_range (qb (qP (qhn rfl) qhE rfl T.b_max qfP (qb qf (qb (qP (qaG rfl) qaK rfl T.b_min qfQ (qb (qP zj zn rfl T.b_len yq (qb (qc 0) qd)) (qb qf qd))) qd))) qd)) (qY (i:=1) wC.nd) (qh (qe1 (i:=2) wC.nd (nC C__law_box hr (qb (qc 0) (qb (qc 1) qd))))
   (qh (qJ (i:=3) wC.nd (iC (i:=2) C__law_stocked hr (qb qf (qb uz qd))))
   (qh (qJ (i:=4) wC.nd (iC (i:=2) C__law_take hr (qb qf qd)))
   (qh (qJ (i:=5) wC.nd (iC (i:=2) C__law_odd_thing hr qd))
   (qh (qJ (i:=6) wC.nd (qC qq qp (dC C__law_best_of hr (qb (qc 3) (qb (qc 4) qd))) qf))
   (qh (vC yaS rfl (wL (jj (qb (qo qT qU (qc 6) qf) (qb (qo qT qU (qo qT qU (qc 6) qf) (iC (i:=2) C__law_take hr (qb qf qd))) (qb (qc 6) qd))))) (qY (i:=7) wC.nd) (qh (qJ (i:=8) wC.nd (iC (i:=2) C__law_made hr (qb (qc 3) (qb (qc 4) (qb (qc 7) qd)))))
   (qm (vC yaS rfl (wL (qo qT qU (jj (qb (qc 8) (qb (qH (qb zp (qb (qH (qb qf (qb qf qd))) qd))) (qb (qc 5) qd)))) (qcc (fo:=(some (1,2))) rfl (yC rfl T.b_range (qb qf qd)) (cs ["script","k","box","store","room","odd","best","u","cut","thing","held","due"] ["lap","box","cut","odd"] 1 [2,8,5] (qe qcL)) (f1 1 [2,8,5] [2] 1 2) (λ_ _ _ _ _ _ _ _ _ _ _=>⟨(qY (i:=0) (nd ["lap","box","cut","odd"])),qeb,(iC (i:=1) C__law_bent hr (qb (qc 2) (qb (qc 3) qd)))⟩)))) (qY (i:=9) wC.nd) (qh (qJ (i:=10) wC.nd (qP (qc4 hr) qcq rfl T.b_repr qhQ (qb (qc 9) qd)))
   (qh (qJ (i:=11) wC.nd (dC C__law_is_cut hr (qb (qc 9) (qb (qc 3) (qb (qc 4) (qb (qc 7) qd))))))
   (qm (jk (DW.dt (uf (jg (jf (dC C__law_truth hr (qb (pC C_is_cut hr (qb (qc 9) (qb (qc 3) (qb (qc 4) (qb (qc 7) qd))))) (qb (qc 11) qd))))) (ue (ze (yE hr) jw (qP (qc4 hr) qcq rfl T.b_repr qhQ (qb (qc 9) qd)) (qc 10) (qI _))))) (qm (qy yN)) qA))))))))
   (qh (jk (DW.dt (uf (ze (yE hr) jw (dC C__law_said hr (qb (qc 3) (qb qf (qb qf qd)))) zp (qI _)) (ue (ze (yE hr) jw (dC C__law_said hr (qb (qc 3) (qb (qbB qf) (qb qf qd)))) zp (qI _))))) (qm (qy yN)) qA)
   (qm (jk (ze (yE hr) jw (dC C__law_said hr (qb (qc 3) (qb qf (qb uz qd)))) zp (qI _)) (qm (qy yN)) qA))))))))))
   (qm (qy yN)))
end
theorem all_mk {l:yef} {w:World} {K:yan} {h:Heap} {mg:Str->Option Value} {fa f0 f1 f2 f3 f4 f5 f6 f7 f8 f9 f10 f11 f12 f13 f14 f15 f16 f17 f18 f19 f20 f21 f22 f23 f24 f25 f26 f27 f28 f29 f30 f31 f32 f33 f34 f35 f36 f37 f38 f39 f40 f41 f42 f43 f44 f45 f46 f47:Addr} (X:K.In h) (G:h.Ns yad mg) (hfa:mg "law"=some (.ref fa))
  {od0 an0 od1 an1 od2 an2 od3 an3 od4 an4 od5 an5 od6 an6 od7 an7 od8 an8 od9 an9 od10 an10 od11 an11 od12 an12 od13 an13 od14 an14 od15 an15 od16 an16 od17 an17 od18 an18 od19 an19 od20 an20 od21 an21 od22 an22 od23 an23 od24 an24 od25 an25 od26 an26 od27 an27 od28 an28 od29 an29 od30 an30 od31 an31 od32 an32 od33 an33 od34 an34 od35 an35 od36 an36 od37 an37 od38 an38 od39 an39 od40 an40 od41 an41 od42 an42 od43 an43 od44 an44 od45 an45 od46 an46 od47 an47:Option Addr} {sl0 sl1 sl2 sl3 sl4 sl5 sl6 sl7 sl8 sl9 sl10 sl11 sl12 sl13 sl14 sl15 sl16 sl17 sl18 sl19 sl20 sl21 sl22 sl23 sl24 sl25 sl26 sl27 sl28 sl29 sl30 sl31 sl32 sl33 sl34 sl35 sl36 sl37 sl38 sl39 sl40 sl41 sl42 sl43 sl44 sl45 sl46 sl47:Array (Option Value)} {oc0 kV0 dc0 pm0 cd0 ct0 oc1 kV1 dc1 pm1 cd1 ct1 oc2 kV2 dc2 pm2 cd2 ct2 oc3 kV3 dc3 pm3 cd3 ct3 oc4 kV4 dc4 pm4 cd4 ct4 oc5 kV5 dc5 pm5 cd5 ct5 oc6 kV6 dc6 pm6 cd6 ct6 oc7 kV7 dc7 pm7 cd7 ct7 oc8 kV8 dc8 pm8 cd8 ct8 oc9 kV9 dc9 pm9 cd9 ct9 oc10 kV10 dc10 pm10 cd10 ct10 oc11 kV11 dc11 pm11 cd11 ct11 oc12 kV12 dc12 pm12 cd12 ct12 oc13 kV13 dc13 pm13 cd13 ct13 oc14 kV14 dc14 pm14 cd14 ct14 oc15 kV15 dc15 pm15 cd15 ct15 oc16 kV16 dc16 pm16 cd16 ct16 oc17 kV17 dc17 pm17 cd17 ct17 oc18 kV18 dc18 pm18 cd18 ct18 oc19 kV19 dc19 pm19 cd19 ct19 oc20 kV20 dc20 pm20 cd20 ct20 oc21 kV21 dc21 pm21 cd21 ct21 oc22 kV22 dc22 pm22 cd22 ct22 oc23 kV23 dc23 pm23 cd23 ct23 oc24 kV24 dc24 pm24 cd24 ct24 oc25 kV25 dc25 pm25 cd25 ct25 oc26 kV26 dc26 pm26 cd26 ct26 oc27 kV27 dc27 pm27 cd27 ct27 oc28 kV28 dc28 pm28 cd28 ct28 oc29 kV29 dc29 pm29 cd29 ct29 oc30 kV30 dc30 pm30 cd30 ct30 oc31 kV31 dc31 pm31 cd31 ct31 oc32 kV32 dc32 pm32 cd32 ct32 oc33 kV33 dc33 pm33 cd33 ct33 oc34 kV34 dc34 pm34 cd34 ct34 oc35 kV35 dc35 pm35 cd35 ct35 oc36 kV36 dc36 pm36 cd36 ct36 oc37 kV37 dc37 pm37 cd37 ct37 oc38 kV38 dc38 pm38 cd38 ct38 oc39 kV39 dc39 pm39 cd39 ct39 oc40 kV40 dc40 pm40 cd40 ct40 oc41 kV41 dc41 pm41 cd41 ct41 oc42 kV42 dc42 pm42 cd42 ct42 oc43 kV43 dc43 pm43 cd43 ct43 oc44 kV44 dc44 pm44 cd44 ct44 oc45 kV45 dc45 pm45 cd45 ct45 oc46 kV46 dc46 pm46 cd46 ct46 oc47 kV47 dc47 pm47 cd47 ct47:Value} {tk_ASKED_AT_MOST:Tok} {tk_BOTTOM:Tok} {tk_KINDS_AT_MOST:Tok} {tk_MOST:Tok} {tk_TOP:Tok} {tk_WEIGHT:Tok} {tk_WORTH:Tok}
  (a0:yaf K yad "_law_marks"=some (some (.ref f0))) (l0:K.lookup f0=some ⟨oc0,od0,.func (yao "_law_marks" "_law_marks" (qz jR) (qu jR) (qe jR) .none kV0 dc0 pm0 an0 cd0 ct0),sl0⟩) (c0:yak K cd0 "_law_marks"=true) (k0:yae K (.ref f0)=true)
  (a1:yaf K yad "is_less"=some (some (.ref f1))) (l1:K.lookup f1=some ⟨oc1,od1,.func (yao "is_less" "is_less" (qz vL) (qu vL) (qe vL) .none kV1 dc1 pm1 an1 cd1 ct1),sl1⟩) (c1:yak K cd1 "is_less"=true) (k1:yae K (.ref f1)=true)
  (a2:yaf K yad "greatest_divisor"=some (some (.ref f2))) (l2:K.lookup f2=some ⟨oc2,od2,.func (yao "greatest_divisor" "greatest_divisor" (qz zF) (qu zF) (qe zF) .none kV2 dc2 pm2 an2 cd2 ct2),sl2⟩) (c2:yak K cd2 "greatest_divisor"=true) (k2:yae K (.ref f2)=true)
  (a3:yaf K yad "lowest_terms"=some (some (.ref f3))) (l3:K.lookup f3=some ⟨oc3,od3,.func (yao "lowest_terms" "lowest_terms" (qz jA) (qu jA) (qe jA) .none kV3 dc3 pm3 an3 cd3 ct3),sl3⟩) (c3:yak K cd3 "lowest_terms"=true) (k3:yae K (.ref f3)=true)
  (a4:yaf K yad "bound_of"=some (some (.ref f4))) (l4:K.lookup f4=some ⟨oc4,od4,.func (yao "bound_of" "bound_of" (qz uJ) (qu uJ) (qe uJ) .none kV4 dc4 pm4 an4 cd4 ct4),sl4⟩) (c4:yak K cd4 "bound_of"=true) (k4:yae K (.ref f4)=true)
  (a5:yaf K yad "is_whole"=some (some (.ref f5))) (l5:K.lookup f5=some ⟨oc5,od5,.func (yao "is_whole" "is_whole" (qz uK) (qu uK) (qe uK) .none kV5 dc5 pm5 an5 cd5 ct5),sl5⟩) (c5:yak K cd5 "is_whole"=true) (k5:yae K (.ref f5)=true)
  (a6:yaf K yad "is_count"=some (some (.ref f6))) (l6:K.lookup f6=some ⟨oc6,od6,.func (yao "is_count" "is_count" (qz uL) (qu uL) (qe uL) .none kV6 dc6 pm6 an6 cd6 ct6),sl6⟩) (c6:yak K cd6 "is_count"=true) (k6:yae K (.ref f6)=true)
  (a7:yaf K yad "is_price"=some (some (.ref f7))) (l7:K.lookup f7=some ⟨oc7,od7,.func (yao "is_price" "is_price" (qz uM) (qu uM) (qe uM) .none kV7 dc7 pm7 an7 cd7 ct7),sl7⟩) (c7:yak K cd7 "is_price"=true) (k7:yae K (.ref f7)=true)
  (a8:yaf K yad "is_price_cut"=some (some (.ref f8))) (l8:K.lookup f8=some ⟨oc8,od8,.func (yao "is_price_cut" "is_price_cut" (qz jB) (qu jB) (qe jB) .none kV8 dc8 pm8 an8 cd8 ct8),sl8⟩) (c8:yak K cd8 "is_price_cut"=true) (k8:yae K (.ref f8)=true)
  (a9:yaf K yad "with_kind"=some (some (.ref f9))) (l9:K.lookup f9=some ⟨oc9,od9,.func (yao "with_kind" "with_kind" (qz yS) (qu yS) (qe yS) .none kV9 dc9 pm9 an9 cd9 ct9),sl9⟩) (c9:yak K cd9 "with_kind"=true) (k9:yae K (.ref f9)=true)
  (a10:yaf K yad "with_most"=some (some (.ref f10))) (l10:K.lookup f10=some ⟨oc10,od10,.func (yao "with_most" "with_most" (qz yT) (qu yT) (qe yT) .none kV10 dc10 pm10 an10 cd10 ct10),sl10⟩) (c10:yak K cd10 "with_most"=true) (k10:yae K (.ref f10)=true)
  (a11:yaf K yad "none_of"=some (some (.ref f11))) (l11:K.lookup f11=some ⟨oc11,od11,.func (yao "none_of" "none_of" (qz vM) (qu vM) (qe vM) .none kV11 dc11 pm11 an11 cd11 ct11),sl11⟩) (c11:yak K cd11 "none_of"=true) (k11:yae K (.ref f11)=true)
  (a12:yaf K yad "is_there"=some (some (.ref f12))) (l12:K.lookup f12=some ⟨oc12,od12,.func (yao "is_there" "is_there" (qz uN) (qu uN) (qe uN) .none kV12 dc12 pm12 an12 cd12 ct12),sl12⟩) (c12:yak K cd12 "is_there"=true) (k12:yae K (.ref f12)=true)
  (a13:yaf K yad "most_within"=some (some (.ref f13))) (l13:K.lookup f13=some ⟨oc13,od13,.func (yao "most_within" "most_within" (qz yb) (qu yb) (qe yb) .none kV13 dc13 pm13 an13 cd13 ct13),sl13⟩) (c13:yak K cd13 "most_within"=true) (k13:yae K (.ref f13)=true)
  (a14:yaf K yad "is_place"=some (some (.ref f14))) (l14:K.lookup f14=some ⟨oc14,od14,.func (yao "is_place" "is_place" (qz uO) (qu uO) (qe uO) .none kV14 dc14 pm14 an14 cd14 ct14),sl14⟩) (c14:yak K cd14 "is_place"=true) (k14:yae K (.ref f14)=true)
  (a15:yaf K yad "is_kind_cut"=some (some (.ref f15))) (l15:K.lookup f15=some ⟨oc15,od15,.func (yao "is_kind_cut" "is_kind_cut" (qz yc) (qu yc) (qe yc) .none kV15 dc15 pm15 an15 cd15 ct15),sl15⟩) (c15:yak K cd15 "is_kind_cut"=true) (k15:yae K (.ref f15)=true)
  (a16:yaf K yad "cuts_off"=some (some (.ref f16))) (l16:K.lookup f16=some ⟨oc16,od16,.func (yao "cuts_off" "cuts_off" (qz yr) (qu yr) (qe yr) .none kV16 dc16 pm16 an16 cd16 ct16),sl16⟩) (c16:yak K cd16 "cuts_off"=true) (k16:yae K (.ref f16)=true)
  (a17:yaf K yad "need_few"=some (some (.ref f17))) (l17:K.lookup f17=some ⟨oc17,od17,.func (yao "need_few" "need_few" (qz yU) (qu yU) (qe yU) .none kV17 dc17 pm17 an17 cd17 ct17),sl17⟩) (c17:yak K cd17 "need_few"=true) (k17:yae K (.ref f17)=true)
  (a18:yaf K yad "need_whole"=some (some (.ref f18))) (l18:K.lookup f18=some ⟨oc18,od18,.func (yao "need_whole" "need_whole" (qz jS) (qu jS) (qe jS) .none kV18 dc18 pm18 an18 cd18 ct18),sl18⟩) (c18:yak K cd18 "need_whole"=true) (k18:yae K (.ref f18)=true)
  (a19:yaf K yad "need_count"=some (some (.ref f19))) (l19:K.lookup f19=some ⟨oc19,od19,.func (yao "need_count" "need_count" (qz jU) (qu jU) (qe jU) .none kV19 dc19 pm19 an19 cd19 ct19),sl19⟩) (c19:yak K cd19 "need_count"=true) (k19:yae K (.ref f19)=true)
  (a20:yaf K yad "is_kind"=some (some (.ref f20))) (l20:K.lookup f20=some ⟨oc20,od20,.func (yao "is_kind" "is_kind" (qz vN) (qu vN) (qe vN) .none kV20 dc20 pm20 an20 cd20 ct20),sl20⟩) (c20:yak K cd20 "is_kind"=true) (k20:yae K (.ref f20)=true)
  (a21:yaf K yad "is_store"=some (some (.ref f21))) (l21:K.lookup f21=some ⟨oc21,od21,.func (yao "is_store" "is_store" (qz yV) (qu yV) (qe yV) .none kV21 dc21 pm21 an21 cd21 ct21),sl21⟩) (c21:yak K cd21 "is_store"=true) (k21:yae K (.ref f21)=true)
  (a22:yaf K yad "need_store"=some (some (.ref f22))) (l22:K.lookup f22=some ⟨oc22,od22,.func (yao "need_store" "need_store" (qz jV) (qu jV) (qe jV) .none kV22 dc22 pm22 an22 cd22 ct22),sl22⟩) (c22:yak K cd22 "need_store"=true) (k22:yae K (.ref f22)=true)
  (a23:yaf K yad "need_cut_asked"=some (some (.ref f23))) (l23:K.lookup f23=some ⟨oc23,od23,.func (yao "need_cut_asked" "need_cut_asked" (qz zH) (qu zH) (qe zH) .none kV23 dc23 pm23 an23 cd23 ct23),sl23⟩) (c23:yak K cd23 "need_cut_asked"=true) (k23:yae K (.ref f23)=true)
  (a24:yaf K yad "is_cut"=some (some (.ref f24))) (l24:K.lookup f24=some ⟨oc24,od24,.func (yao "is_cut" "is_cut" (qz v4) (qu v4) (qe v4) .none kV24 dc24 pm24 an24 cd24 ct24),sl24⟩) (c24:yak K cd24 "is_cut"=true) (k24:yae K (.ref f24)=true)
  (a25:yaf K yad "_law_said"=some (some (.ref f25))) (l25:K.lookup f25=some ⟨oc25,od25,.func (yao "_law_said" "_law_said" (qz yW) (qu yW) (qe yW) .none kV25 dc25 pm25 an25 cd25 ct25),sl25⟩) (c25:yak K cd25 "_law_said"=true) (k25:yae K (.ref f25)=true)
  (a26:yaf K yad "_law_take"=some (some (.ref f26))) (l26:K.lookup f26=some ⟨oc26,od26,.func (yao "_law_take" "_law_take" (qz yX) (qu yX) (qe yX) .none kV26 dc26 pm26 an26 cd26 ct26),sl26⟩) (c26:yak K cd26 "_law_take"=true) (k26:yae K (.ref f26)=true)
  (a27:yaf K yad "_law_bent"=some (some (.ref f27))) (l27:K.lookup f27=some ⟨oc27,od27,.func (yao "_law_bent" "_law_bent" (qz jW) (qu jW) (qe jW) .none kV27 dc27 pm27 an27 cd27 ct27),sl27⟩) (c27:yak K cd27 "_law_bent"=true) (k27:yae K (.ref f27)=true)
  (a28:yaf K yad "_law_truth"=some (some (.ref f28))) (l28:K.lookup f28=some ⟨oc28,od28,.func (yao "_law_truth" "_law_truth" (qz yt) (qu yt) (qe yt) .none kV28 dc28 pm28 an28 cd28 ct28),sl28⟩) (c28:yak K cd28 "_law_truth"=true) (k28:yae K (.ref f28)=true)
  (a29:yaf K yad "_law_without"=some (some (.ref f29))) (l29:K.lookup f29=some ⟨oc29,od29,.func (yao "_law_without" "_law_without" (qz jC) (qu jC) (qe jC) .none kV29 dc29 pm29 an29 cd29 ct29),sl29⟩) (c29:yak K cd29 "_law_without"=true) (k29:yae K (.ref f29)=true)
  (a30:yaf K yad "_law_often"=some (some (.ref f30))) (l30:K.lookup f30=some ⟨oc30,od30,.func (yao "_law_often" "_law_often" (qz yu) (qu yu) (qe yu) .none kV30 dc30 pm30 an30 cd30 ct30),sl30⟩) (c30:yak K cd30 "_law_often"=true) (k30:yae K (.ref f30)=true)
  (a31:yaf K yad "_law_whole"=some (some (.ref f31))) (l31:K.lookup f31=some ⟨oc31,od31,.func (yao "_law_whole" "_law_whole" (qz yv) (qu yv) (qe yv) .none kV31 dc31 pm31 an31 cd31 ct31),sl31⟩) (c31:yak K cd31 "_law_whole"=true) (k31:yae K (.ref f31)=true)
  (a32:yaf K yad "_law_common"=some (some (.ref f32))) (l32:K.lookup f32=some ⟨oc32,od32,.func (yao "_law_common" "_law_common" (qz yd) (qu yd) (qe yd) .none kV32 dc32 pm32 an32 cd32 ct32),sl32⟩) (c32:yak K cd32 "_law_common"=true) (k32:yae K (.ref f32)=true)
  (a33:yaf K yad "_law_low"=some (some (.ref f33))) (l33:K.lookup f33=some ⟨oc33,od33,.func (yao "_law_low" "_law_low" (qz uP) (qu uP) (qe uP) .none kV33 dc33 pm33 an33 cd33 ct33),sl33⟩) (c33:yak K cd33 "_law_low"=true) (k33:yae K (.ref f33)=true)
  (a34:yaf K yad "_law_bound_by"=some (some (.ref f34))) (l34:K.lookup f34=some ⟨oc34,od34,.func (yao "_law_bound_by" "_law_bound_by" (qz jo) (qu jo) (qe jo) .none kV34 dc34 pm34 an34 cd34 ct34),sl34⟩) (c34:yak K cd34 "_law_bound_by"=true) (k34:yae K (.ref f34)=true)
  (a35:yaf K yad "_law_is_price"=some (some (.ref f35))) (l35:K.lookup f35=some ⟨oc35,od35,.func (yao "_law_is_price" "_law_is_price" (qz jp) (qu jp) (qe jp) .none kV35 dc35 pm35 an35 cd35 ct35),sl35⟩) (c35:yak K cd35 "_law_is_price"=true) (k35:yae K (.ref f35)=true)
  (a36:yaf K yad "_law_is_cut"=some (some (.ref f36))) (l36:K.lookup f36=some ⟨oc36,od36,.func (yao "_law_is_cut" "_law_is_cut" (qz zY) (qu zY) (qe zY) .none kV36 dc36 pm36 an36 cd36 ct36),sl36⟩) (c36:yak K cd36 "_law_is_cut"=true) (k36:yae K (.ref f36)=true)
  (a37:yaf K yad "_law_made"=some (some (.ref f37))) (l37:K.lookup f37=some ⟨oc37,od37,.func (yao "_law_made" "_law_made" (qz zy) (qu zy) (qe zy) .none kV37 dc37 pm37 an37 cd37 ct37),sl37⟩) (c37:yak K cd37 "_law_made"=true) (k37:yae K (.ref f37)=true)
  (a38:yaf K yad "_law_sum"=some (some (.ref f38))) (l38:K.lookup f38=some ⟨oc38,od38,.func (yao "_law_sum" "_law_sum" (qz uQ) (qu uQ) (qe uQ) .none kV38 dc38 pm38 an38 cd38 ct38),sl38⟩) (c38:yak K cd38 "_law_sum"=true) (k38:yae K (.ref f38)=true)
  (a39:yaf K yad "_law_all_loads"=some (some (.ref f39))) (l39:K.lookup f39=some ⟨oc39,od39,.func (yao "_law_all_loads" "_law_all_loads" (qz zq) (qu zq) (qe zq) .none kV39 dc39 pm39 an39 cd39 ct39),sl39⟩) (c39:yak K cd39 "_law_all_loads"=true) (k39:yae K (.ref f39)=true)
  (a40:yaf K yad "_law_best_of"=some (some (.ref f40))) (l40:K.lookup f40=some ⟨oc40,od40,.func (yao "_law_best_of" "_law_best_of" (qz zS) (qu zS) (qe zS) .none kV40 dc40 pm40 an40 cd40 ct40),sl40⟩) (c40:yak K cd40 "_law_best_of"=true) (k40:yae K (.ref f40)=true)
  (a41:yaf K yad "_law_odd_thing"=some (some (.ref f41))) (l41:K.lookup f41=some ⟨oc41,od41,.func (yao "_law_odd_thing" "_law_odd_thing" (qz zX) (qu zX) (qe zX) .none kV41 dc41 pm41 an41 cd41 ct41),sl41⟩) (c41:yak K cd41 "_law_odd_thing"=true) (k41:yae K (.ref f41)=true)
  (a42:yaf K yad "_law_kind_of"=some (some (.ref f42))) (l42:K.lookup f42=some ⟨oc42,od42,.func (yao "_law_kind_of" "_law_kind_of" (qz jD) (qu jD) (qe jD) .none kV42 dc42 pm42 an42 cd42 ct42),sl42⟩) (c42:yak K cd42 "_law_kind_of"=true) (k42:yae K (.ref f42)=true)
  (a43:yaf K yad "_law_stocked"=some (some (.ref f43))) (l43:K.lookup f43=some ⟨oc43,od43,.func (yao "_law_stocked" "_law_stocked" (qz jE) (qu jE) (qe jE) .none kV43 dc43 pm43 an43 cd43 ct43),sl43⟩) (c43:yak K cd43 "_law_stocked"=true) (k43:yae K (.ref f43)=true)
  (a44:yaf K yad "_law_mix"=some (some (.ref f44))) (l44:K.lookup f44=some ⟨oc44,od44,.func (yao "_law_mix" "_law_mix" (qz uR) (qu uR) (qe uR) .none kV44 dc44 pm44 an44 cd44 ct44),sl44⟩) (c44:yak K cd44 "_law_mix"=true) (k44:yae K (.ref f44)=true)
  (a45:yaf K yad "_law_cell"=some (some (.ref f45))) (l45:K.lookup f45=some ⟨oc45,od45,.func (yao "_law_cell" "_law_cell" (qz yY) (qu yY) (qe yY) .none kV45 dc45 pm45 an45 cd45 ct45),sl45⟩) (c45:yak K cd45 "_law_cell"=true) (k45:yae K (.ref f45)=true)
  (a46:yaf K yad "_law_box"=some (some (.ref f46))) (l46:K.lookup f46=some ⟨oc46,od46,.func (yao "_law_box" "_law_box" (qz uS) (qu uS) (qe uS) .none kV46 dc46 pm46 an46 cd46 ct46),sl46⟩) (c46:yak K cd46 "_law_box"=true) (k46:yae K (.ref f46)=true)
  (a47:yaf K yad "law"=some (some (.ref f47))) (l47:K.lookup f47=some ⟨oc47,od47,.func (yao "law" "law" (qz qcL) (qu qcL) (qe qcL) .none kV47 dc47 pm47 an47 cd47 ct47),sl47⟩) (c47:yak K cd47 "law"=true) (k47:yae K (.ref f47)=true)
  (zb_ValueError:yaf K yad "ValueError"=some none)
  (zb_abs:yaf K yad "abs"=some none)
  (zb_all:yaf K yad "all"=some none)
  (zb_bool:yaf K yad "bool"=some none)
  (zb_divmod:yaf K yad "divmod"=some none)
  (zb_enumerate:yaf K yad "enumerate"=some none)
  (zb_int:yaf K yad "int"=some none)
  (zb_isinstance:yaf K yad "isinstance"=some none)
  (zb_len:yaf K yad "len"=some none)
  (zb_list:yaf K yad "list"=some none)
  (zb_max:yaf K yad "max"=some none)
  (zb_min:yaf K yad "min"=some none)
  (zb_range:yaf K yad "range"=some none)
  (zb_repr:yaf K yad "repr"=some none)
  (zb_str:yaf K yad "str"=some none)
  (zb_tuple:yaf K yad "tuple"=some none)
  (xz:qpj K RN TN=true)
  (zg_ASKED_AT_MOST:yaf K yad "ASKED_AT_MOST"=some (some (.int 200 tk_ASKED_AT_MOST)))
  (zg_BOTTOM:yaf K yad "BOTTOM"=some (some (.int 1 tk_BOTTOM)))
  (zg_KINDS_AT_MOST:yaf K yad "KINDS_AT_MOST"=some (some (.int 12 tk_KINDS_AT_MOST)))
  (zg_MOST:yaf K yad "MOST"=some (some (.int 2 tk_MOST)))
  (zg_TOP:yaf K yad "TOP"=some (some (.int 0 tk_TOP)))
  (zg_WEIGHT:yaf K yad "WEIGHT"=some (some (.int 0 tk_WEIGHT)))
  (zg_WORTH:yaf K yad "WORTH"=some (some (.int 1 tk_WORTH))) :
  ∃fd:yaP,(∀(s:yab)(v:Value),ydQ s fd ⟨[v],[]⟩ [("script",v)])/\∀base:Heap,K.In base->base.Ns yad mg->vV l.prog w K mg base CX0 15 fa fd ["script"] (spD K qfr):=by
 have e:=hfa.symm.trans (yai X G a47)
 cases e
 have T:Txt K mg:=⟨yaG X G zb_ValueError,yaG X G zb_abs,yaG X G zb_all,yaG X G zb_bool,yaG X G zb_divmod,yaG X G zb_enumerate,yaG X G zb_int,yaG X G zb_isinstance,yaG X G zb_len,yaG X G zb_list,yaG X G zb_max,yaG X G zb_min,yaG X G zb_range,yaG X G zb_repr,yaG X G zb_str,yaG X G zb_tuple,⟨_,yai X G zg_ASKED_AT_MOST⟩,⟨_,yai X G zg_BOTTOM⟩,⟨_,yai X G zg_KINDS_AT_MOST⟩,⟨_,yai X G zg_MOST⟩,⟨_,yai X G zg_TOP⟩,⟨_,yai X G zg_WEIGHT⟩,⟨_,yai X G zg_WORTH⟩⟩
 refine⟨yao "law" "law" (qz qcL) (qu qcL) (qe qcL) .none kV47 dc47 pm47 an47 cd47 ct47,λs v => .of_eq rfl,λbase hB _=>?_⟩
 have XTt:XT K mg RN TN:=⟨xz,qjI X G⟩
 have C__law_marks:=q0 (P:=l.prog) (w:=w) (base:=base) (qW (st:=jR) l0 c0 k0) (yai X G a0) T XTt hB
 have C_is_less:=q1 (P:=l.prog) (w:=w) (base:=base) (qW (st:=vL) l1 c1 k1) (yai X G a1) T XTt hB
 have C_greatest_divisor:=q2 (P:=l.prog) (w:=w) (base:=base) (qW (st:=zF) l2 c2 k2) (yai X G a2) T XTt hB
 have C_lowest_terms:=q3 (P:=l.prog) (w:=w) (base:=base) (qW (st:=jA) l3 c3 k3) (yai X G a3) T XTt hB C_greatest_divisor
 have C_bound_of:=q4 (P:=l.prog) (w:=w) (base:=base) (qW (st:=uJ) l4 c4 k4) (yai X G a4) T XTt hB C_lowest_terms
 have C_is_whole:=q5 (P:=l.prog) (w:=w) (base:=base) (qW (st:=uK) l5 c5 k5) (yai X G a5) T XTt hB
 have C_is_count:=q6 (P:=l.prog) (w:=w) (base:=base) (qW (st:=uL) l6 c6 k6) (yai X G a6) T XTt hB C_is_whole
 have C_is_price:=q7 (P:=l.prog) (w:=w) (base:=base) (qW (st:=uM) l7 c7 k7) (yai X G a7) T XTt hB C_greatest_divisor C_is_count
 have C_is_price_cut:=q8 (P:=l.prog) (w:=w) (base:=base) (qW (st:=jB) l8 c8 k8) (yai X G a8) T XTt hB C_is_less C_bound_of C_is_price
 have C_with_kind:=q9 (P:=l.prog) (w:=w) (base:=base) (qW (st:=yS) l9 c9 k9) (yai X G a9) T XTt hB
 have C_with_most:=q10 (P:=l.prog) (w:=w) (base:=base) (qW (st:=yT) l10 c10 k10) (yai X G a10) T XTt hB
 have C_none_of:=q11 (P:=l.prog) (w:=w) (base:=base) (qW (st:=vM) l11 c11 k11) (yai X G a11) T XTt hB C_with_kind C_with_most
 have C_is_there:=q12 (P:=l.prog) (w:=w) (base:=base) (qW (st:=uN) l12 c12 k12) (yai X G a12) T XTt hB
 have C_most_within:=q13 (P:=l.prog) (w:=w) (base:=base) (qW (st:=yb) l13 c13 k13) (yai X G a13) T XTt hB
 have C_is_place:=q14 (P:=l.prog) (w:=w) (base:=base) (qW (st:=uO) l14 c14 k14) (yai X G a14) T XTt hB C_is_count
 have C_cuts_off:Q16 l.prog w K mg base:=qfi (qrg (qW (st:=yr) l16 c16 k16) (yai X G a16)) (λkR n hL C_cuts_off=>by
  have C_is_kind_cut:=q15 (P:=l.prog) (w:=w) (base:=base) (qW (st:=yc) l15 c15 k15) (yai X G a15) T XTt hB hL C_cuts_off C_none_of C_is_there C_most_within C_is_place
  exact q16 (P:=l.prog) (w:=w) (base:=base) (qW (st:=yr) l16 c16 k16) (yai X G a16) T XTt hB hL C_cuts_off C_is_price_cut C_is_kind_cut) 4
 have C_need_few:=q17 (P:=l.prog) (w:=w) (base:=base) (qW (st:=yU) l17 c17 k17) (yai X G a17) T XTt hB
 have C_need_whole:=q18 (P:=l.prog) (w:=w) (base:=base) (qW (st:=jS) l18 c18 k18) (yai X G a18) T XTt hB C_is_whole
 have C_need_count:=q19 (P:=l.prog) (w:=w) (base:=base) (qW (st:=jU) l19 c19 k19) (yai X G a19) T XTt hB C_is_count
 have C_is_kind:=q20 (P:=l.prog) (w:=w) (base:=base) (qW (st:=vN) l20 c20 k20) (yai X G a20) T XTt hB C_is_count
 have C_is_store:=q21 (P:=l.prog) (w:=w) (base:=base) (qW (st:=yV) l21 c21 k21) (yai X G a21) T XTt hB C_is_kind
 have C_need_store:=q22 (P:=l.prog) (w:=w) (base:=base) (qW (st:=jV) l22 c22 k22) (yai X G a22) T XTt hB C_is_store
 have C_need_cut_asked:=q23 (P:=l.prog) (w:=w) (base:=base) (qW (st:=zH) l23 c23 k23) (yai X G a23) T XTt hB C_need_few C_need_whole C_need_count C_need_store
 have C_is_cut:=q24 (P:=l.prog) (w:=w) (base:=base) (qW (st:=v4) l24 c24 k24) (yai X G a24) T XTt hB C_cuts_off C_need_cut_asked
 have C__law_said:=q25 (P:=l.prog) (w:=w) (base:=base) (qW (st:=yW) l25 c25 k25) (yai X G a25) T XTt hB C__law_marks C_is_cut
 have C__law_take:=q26 (P:=l.prog) (w:=w) (base:=base) (qW (st:=yX) l26 c26 k26) (yai X G a26) T XTt hB
 have C__law_bent:Q27 l.prog w K mg base:=qcr (qrh (qW (st:=jW) l27 c27 k27) (yai X G a27)) (λkR n hL C__law_bent=>by
  exact q27 (P:=l.prog) (w:=w) (base:=base) (qW (st:=jW) l27 c27 k27) (yai X G a27) T XTt hB hL C__law_bent C__law_take) 4
 have C__law_truth:=q28 (P:=l.prog) (w:=w) (base:=base) (qW (st:=yt) l28 c28 k28) (yai X G a28) T XTt hB
 have C__law_without:=q29 (P:=l.prog) (w:=w) (base:=base) (qW (st:=jC) l29 c29 k29) (yai X G a29) T XTt hB
 have C__law_often:=q30 (P:=l.prog) (w:=w) (base:=base) (qW (st:=yu) l30 c30 k30) (yai X G a30) T XTt hB
 have C__law_whole:=q31 (P:=l.prog) (w:=w) (base:=base) (qW (st:=yv) l31 c31 k31) (yai X G a31) T XTt hB
 have C__law_common:=q32 (P:=l.prog) (w:=w) (base:=base) (qW (st:=yd) l32 c32 k32) (yai X G a32) T XTt hB
 have C__law_low:=q33 (P:=l.prog) (w:=w) (base:=base) (qW (st:=uP) l33 c33 k33) (yai X G a33) T XTt hB C__law_common
 have C__law_bound_by:=q34 (P:=l.prog) (w:=w) (base:=base) (qW (st:=jo) l34 c34 k34) (yai X G a34) T XTt hB C__law_low
 have C__law_is_price:=q35 (P:=l.prog) (w:=w) (base:=base) (qW (st:=jp) l35 c35 k35) (yai X G a35) T XTt hB C__law_common C__law_whole
 have C__law_is_cut:Q36 l.prog w K mg base:=qfi (qri (qW (st:=zY) l36 c36 k36) (yai X G a36)) (λkR n hL C__law_is_cut=>by
  exact q36 (P:=l.prog) (w:=w) (base:=base) (qW (st:=zY) l36 c36 k36) (yai X G a36) T XTt hB hL C__law_is_cut C__law_without C__law_often C__law_whole C__law_bound_by C__law_is_price) 4
 have C__law_made:Q37 l.prog w K mg base:=qcr (qrj (qW (st:=zy) l37 c37 k37) (yai X G a37)) (λkR n hL C__law_made=>by
  exact q37 (P:=l.prog) (w:=w) (base:=base) (qW (st:=zy) l37 c37 k37) (yai X G a37) T XTt hB hL C__law_made C__law_often C__law_without C__law_take C__law_is_cut C__law_low) 4
 have C__law_sum:=q38 (P:=l.prog) (w:=w) (base:=base) (qW (st:=uQ) l38 c38 k38) (yai X G a38) T XTt hB
 have C__law_all_loads:=q39 (P:=l.prog) (w:=w) (base:=base) (qW (st:=zq) l39 c39 k39) (yai X G a39) T XTt hB
 have C__law_best_of:=q40 (P:=l.prog) (w:=w) (base:=base) (qW (st:=zS) l40 c40 k40) (yai X G a40) T XTt hB C__law_sum C__law_all_loads
 have C__law_odd_thing:=q41 (P:=l.prog) (w:=w) (base:=base) (qW (st:=zX) l41 c41 k41) (yai X G a41) T XTt hB C__law_take
 have C__law_kind_of:=q42 (P:=l.prog) (w:=w) (base:=base) (qW (st:=jD) l42 c42 k42) (yai X G a42) T XTt hB C__law_take
 have C__law_stocked:=q43 (P:=l.prog) (w:=w) (base:=base) (qW (st:=jE) l43 c43 k43) (yai X G a43) T XTt hB C__law_take C__law_kind_of
 have C__law_mix:=q44 (P:=l.prog) (w:=w) (base:=base) (qW (st:=uR) l44 c44 k44) (yai X G a44) T XTt hB
 have C__law_cell:=q45 (P:=l.prog) (w:=w) (base:=base) (qW (st:=yY) l45 c45 k45) (yai X G a45) T XTt hB
 have C__law_box:=q46 (P:=l.prog) (w:=w) (base:=base) (qW (st:=uS) l46 c46 k46) (yai X G a46) T XTt hB C__law_mix C__law_cell
 exact qoD (P:=l.prog) (w:=w) (base:=base) (qW (st:=qcL) l47 c47 k47) T XTt hB C__law_said C__law_take C__law_bent C__law_truth C_is_cut C__law_is_cut C__law_made C__law_best_of C__law_odd_thing C__law_stocked C__law_box
theorem qpR {K:Fr0} {H:Hp} {a:Addr} {ns:List Int} (hO:qoF H) (hS:SqL K H a (ns.map V.int)):qnv K H a (ns.map V.int):=by
 rcases hS with(h|h)|h
 ·rcases hO a with z|z
  ·rw[h]at z;cases z
  ·rcases z with⟨_,_,z⟩|⟨_,_,z⟩<;>(rw[h]at z;cases z)
 ·exact .inl h
 ·exact .inr h
theorem walk {l:yef} {q:yar} {loose:List Str} {XP:(Str->Option Value)->Heap->Prop} {YP:World->Heap->Prop} {d:DefRec} {K:Params->yan} (hn:l.most=some 63) (hdf:d.params.defaults=[])
  (hY:∀(w:World)(h:Heap),YP w h->(K w.params).In h) (hlm:∀(w:World)(mean:ExcName->Option Value)(mg mb:Str->Option Value)(h:Heap)(c Pt:Addr)(pos:Pos),Top q (PySem.W.looseW q loose) mean mg mb h->(K w.params).In h->lamOf (K w.params)=some (c,Pt,pos)->yeu h c Pt/\h.get? Pt=some (yev #[])/\(K w.params).lookup Pt=none) (hlaw:∀ns:List Int,ns.length<=63->qfr [.fz ns]=.ok (.bl true))
  (F:∀(w:World)(mg:Str->Option Value)(fa:Addr)(h:Heap),(K w.params).In h->h.Ns yad mg->mg d.name=some (.ref fa) ->
   ∃fd:yaP,(∀(s:yab)(u:Value),ydQ s fd ⟨[u],[]⟩ [("script",u)])/\∀base:Heap,(K w.params).In base->base.Ns yad mg->vV l.prog w (K w.params) mg base CX0 15 fa fd ["script"] (spD (K w.params) qfr)) :
  PySem.W.WalkO q loose XP YP l.row.toRowW d [] (λf vs=>yfW f vs) :=
 L2.walk_lam (n:=63) (k:=15) (x:="script") (CX:=λ_=>CX0) (sp:=λw=>spD (K w.params) qfr) (lm:=λw=>(lamOf (K w.params)).map λz=>(z.1,z.2.1,z.2.2,qpc)) hn (by decide) hdf ⟨rfl,by decide,by decide,rfl⟩ hY (λw mean mg mb h c Pt pos z T X e=>by
  cases el:lamOf (K w.params) with
  |none=>rw[el]at e;cases e
  |some p=>obtain⟨c',P',pos'⟩:=p;rw[el]at e;cases e;exact hlm w mean mg mb h _ _ _ T X el) F (λw H a ns hl hO hT hS=>by
  refine⟨[.fz ns],λ_=>False,⟨.ref a,[],rfl,⟨a,rfl,qpR hO hS⟩,rfl⟩,λc P pos e=>⟨hT c P pos qpc (by rw[e];rfl),λz=>z⟩,?_⟩
  rw[hlaw ns hl]
  exact λv H' _ h=>h) λ_ _ _ _ _ z=>z
end Law
end L2.Sk
open PySem PySem.W PyProof.Rows
set_option maxRecDepth 100000 in
set_option maxHeartbeats 0 in
theorem PySem.Challenge.cw_sackloads_k32_cuts_looked_at_holds : PySem.Challenge.rw_sackloads_k32_cuts_looked_at.Holds := by
 w_on;o_law;k_head;(case hw=>w_witness2)
 k_fill
 refine L2.Sk.Law.walk (l:=PySem.Challenge.rw_sackloads_k32_cuts_looked_at) rfl rfl (λw h Y=>by first|exact PySem.W.kIn_of Y|exact PySem.W.km_in_of Y) ?hlm0 L2.Sk.Law.law_true ?F
 case hlm0=>
  intro w mean mg mb h c Pt pos T X e
  exact absurd ((show L2.Sk.lamOf _=none by kernel_rfl).symm.trans e) (by simp)
 case F=>
  intro w mg fa h KX G hmg
  refine' L2.Sk.Law.all_mk KX G hmg ?a0 ?l0 ?c0 ?k0 ?a1 ?l1 ?c1 ?k1 ?a2 ?l2 ?c2 ?k2 ?a3 ?l3 ?c3 ?k3 ?a4 ?l4 ?c4 ?k4 ?a5 ?l5 ?c5 ?k5 ?a6 ?l6 ?c6 ?k6 ?a7 ?l7 ?c7 ?k7 ?a8 ?l8 ?c8 ?k8 ?a9 ?l9 ?c9 ?k9 ?a10 ?l10 ?c10 ?k10 ?a11 ?l11 ?c11 ?k11 ?a12 ?l12 ?c12 ?k12 ?a13 ?l13 ?c13 ?k13 ?a14 ?l14 ?c14 ?k14 ?a15 ?l15 ?c15 ?k15 ?a16 ?l16 ?c16 ?k16 ?a17 ?l17 ?c17 ?k17 ?a18 ?l18 ?c18 ?k18 ?a19 ?l19 ?c19 ?k19 ?a20 ?l20 ?c20 ?k20 ?a21 ?l21 ?c21 ?k21 ?a22 ?l22 ?c22 ?k22 ?a23 ?l23 ?c23 ?k23 ?a24 ?l24 ?c24 ?k24 ?a25 ?l25 ?c25 ?k25 ?a26 ?l26 ?c26 ?k26 ?a27 ?l27 ?c27 ?k27 ?a28 ?l28 ?c28 ?k28 ?a29 ?l29 ?c29 ?k29 ?a30 ?l30 ?c30 ?k30 ?a31 ?l31 ?c31 ?k31 ?a32 ?l32 ?c32 ?k32 ?a33 ?l33 ?c33 ?k33 ?a34 ?l34 ?c34 ?k34 ?a35 ?l35 ?c35 ?k35 ?a36 ?l36 ?c36 ?k36 ?a37 ?l37 ?c37 ?k37 ?a38 ?l38 ?c38 ?k38 ?a39 ?l39 ?c39 ?k39 ?a40 ?l40 ?c40 ?k40 ?a41 ?l41 ?c41 ?k41 ?a42 ?l42 ?c42 ?k42 ?a43 ?l43 ?c43 ?k43 ?a44 ?l44 ?c44 ?k44 ?a45 ?l45 ?c45 ?k45 ?a46 ?l46 ?c46 ?k46 ?a47 ?l47 ?c47 ?k47 ?zb_ValueError ?zb_abs ?zb_all ?zb_bool ?zb_divmod ?zb_enumerate ?zb_int ?zb_isinstance ?zb_len ?zb_list ?zb_max ?zb_min ?zb_range ?zb_repr ?zb_str ?zb_tuple ?xz ?zg_ASKED_AT_MOST ?zg_BOTTOM ?zg_KINDS_AT_MOST ?zg_MOST ?zg_TOP ?zg_WEIGHT ?zg_WORTH
  (case a0|l0|c0|k0|a1|l1|c1|k1|a2|l2|c2|k2|a3|l3|c3|k3|a4|l4|c4|k4|a5|l5|c5|k5|a6|l6|c6|k6|a7|l7|c7|k7|a8|l8|c8|k8|a9|l9|c9|k9|a10|l10|c10|k10|a11|l11|c11|k11|a12|l12|c12|k12|a13|l13|c13|k13|a14|l14|c14|k14|a15|l15|c15|k15|a16|l16|c16|k16|a17|l17|c17|k17|a18|l18|c18|k18|a19|l19|c19|k19|a20|l20|c20|k20|a21|l21|c21|k21|a22|l22|c22|k22|a23|l23|c23|k23|a24|l24|c24|k24|a25|l25|c25|k25|a26|l26|c26|k26|a27|l27|c27|k27|a28|l28|c28|k28|a29|l29|c29|k29|a30|l30|c30|k30|a31|l31|c31|k31|a32|l32|c32|k32|a33|l33|c33|k33|a34|l34|c34|k34|a35|l35|c35|k35|a36|l36|c36|k36|a37|l37|c37|k37|a38|l38|c38|k38|a39|l39|c39|k39|a40|l40|c40|k40|a41|l41|c41|k41|a42|l42|c42|k42|a43|l43|c43|k43|a44|l44|c44|k44|a45|l45|c45|k45|a46|l46|c46|k46|a47|l47|c47|k47|zb_ValueError|zb_abs|zb_all|zb_bool|zb_divmod|zb_enumerate|zb_int|zb_isinstance|zb_len|zb_list|zb_max|zb_min|zb_range|zb_repr|zb_str|zb_tuple=>k_is)
  (case xz=>kernel_rfl)
  (case zg_ASKED_AT_MOST|zg_BOTTOM|zg_KINDS_AT_MOST|zg_MOST|zg_TOP|zg_WEIGHT|zg_WORTH=>k_is)
