import PyProof.Rows.All
import Wide.All
import OpenK.AllK
import Wide.FinOn
import Lean
import PyProof.EqAt
import PyProof.EqKinds
import PyProof.TupleCall
import KE.KUnpack
import PySem.Challenge.RW_sackloads_k18_stairs_of_loads
namespace PySem.W.Fast
def tw12782718236713856470:Nat:=0
def tw14970604509929669890:Nat:=0
def tw8236648653096921086:Nat:=0
def tw16557833508162463336:Nat:=0
def tw12017405292112779497:Nat:=0
def tw10829053733695860376:Nat:=0
def tw4597769722458631591:Nat:=0
def tw1564374039440388721:Nat:=0
def tw15278460159893193855:Nat:=0
def tw4616723639630945201:Nat:=0
def tw13029437953926739329:Nat:=0
def tw7110348420757948117:Nat:=0
def tw13515582639062110022:Nat:=0
end PySem.W.Fast
open PySem renaming wpAny_bind→yaa,Shared→yab,starEach→yac,mainGlobals→yae,wpAny_pure→yah,Program→yas,sizeLine→yat,Around→yav,bootBuiltins→yaB,wpAny_field→yaJ,wpAny_newObj_type→yaL,backTo→yaN,compareOp→yaP,FuncData→yaS,Env→yaU,sizeLine_eq→yaV,mem_of_lookup→yaW,wpAny_mono→ya1,assignEach→yba,wpAny_holding→ybn,binaryOp→ybq,wpAny_call_entry→ybv,wpAny_truthy_bool→ybB,behindInMarks→ybE,wpAny_seqItems→ybG,keywordEach→ybH,wpAny_setField_rec→ybL,wpAny_passesOwn→ybO,foldedSetIterable→ybS,IsPair→ybY,wpAny_standAt→yb1,builtinsNs→yb3,wpAny_Call_Name_kw→yb5,wpAny_loadPart'→yb6,sliceBounds→ycc,assign→yce,codeAny→ycf,Builtin→ych,sysModules→ycj,backToKw→yck,call_meets→ycm,rawInt→ycp,Keyword→yct,getItem→ycu,wpAny_execs_nil→ycw,letOwnedTupleGo→ycx,swapsWith→ycA,IsPart→ycD,wpAny_setField→ycG,swapsWithSole→ycS,swappedStores→ycT,NameKind→ycX,wpAny_rule→yc5,codeAny_mono→yc6,wpAny_updateSeq_pair→yda,holding→ydi,recursionLimit→ydk,leaving→ydl,wpAny_Constant_int→ydq,wpAny_pyIter_tuple→ydu,setFlight→ydw,wpAny_newFunctionEnv_cells→ydD,attributeBase→ydE,wpAny_onRaise→ydG,wpAny_newList→ydH,wpAny_sequenceKey→ydO,typeIs_int→ydR,wpAny_binaryOp_repeat_ref→ydS,BindsTo→ydW,callerA→ydX,wpAny_eqBool_int→ydY,noFill_tuple_add→yd0,wpAny_typeOf→yd1,wpAny_getItem_list_slice→yd2,wpAny_comprehension_free→yd5,cellsFrom→yed,Arguments→yee,noteFrame→yeg,codeAny_compStart_list→yel,wpAny_letGo→yem,wpAny_isTrue_Compare1→yep,pyNext→yeq,codeAny_call_function→yet,wpAny_newTuple→yew,codeAny_call_builtin→yeH,compEnvC→yeI,wpAny_newFunctionEnv→yeJ,assignInOrder→yeM,seq_tuple_add→yeN,evalPart_none→yeP,wpAny_attempt→yeR,wpAny_isSubtype_exc→yeV,PassesOwn→ye3,Result→ye6,concat_meets→yfa,seqIndex_neg→yfd,slicePick→yfe,Fin→yfh,intKind→yfo,standAt→yfp,wpAny_assign_Name→yfq,wpAny_pyIter_list→yfx,sizeLine_eq→yfA,wpAny_loadPart_at→yfB,seqIndex_of→yfG,excClassObj→yfH,GenState→yfI,bindName→yfJ,compPost→yfK,ReadsAll→yfL,wpAny_Name→yfM,wpAny_call→yfN,call→yfQ,sliceRange→yfR
open Nat renaming le_refl→yad,ne_of_lt→yar,lt_of_lt_of_le→yay,le_trans→yaA,zero_le→yaE,toDigits→ybb,zero_add→ybr,lt_irrefl→ybt,pow_le_pow_right→ybA,toDigits_of_lt_base→yb0,ne_of_gt→ycB,lt_succ_of_lt→ycM,le_succ→ycR,le_of_not_lt→ycY,le_add_right→ycZ,le_of_lt→yc4,min_eq_left→ydb,mul_le_mul_right→yde,toDigits_append_toDigits→ydp,reduceAdd→ydK,succ_mul→yd3,exists_eq_add_of_le→yeb,digitChar→yeT,mul_comm→yff,pow_succ→yfn
open PySem.W renaming Frag→yaf,keepIn→yaj,nsIn→yak,codeIn→yan,mg_of→yao,fnOf→yap,mg_none_of→yaD,kia_one→yaY,findIn→ybF,cellsFrom_some→ycO,methodObj→ydL,kitx_list→ydN,kat_cons→yd8,instObj→yec,OpenLaw→yeh,kat_yes→yei,lookIn→yer,kitOne→yes,CodeHd→yeu,tabObj→yev,kat_no→yez,kitx_tuple→ye5,callWith_K→ye7,codeRec_of→ye8,specialIn→yft,kitx_dict→yfu
open Bool renaming and_eq_true→yag,false_ne_true→yam,and_self→yaF,true_and→ybu,eq_iff_iff→yby,false_eq_true→ybM,or_eq_true→ybP,false_and→ydj,not_eq_true'→ydP,or_true→yfg,true_or→yfk
open PySem.Heap renaming lt_size→yai,SameBut→ycd,size_push→ycH,size_update→yd9,MadeExcOf→yey
open List renaming range→yal,length_singleton→yau,replicate→yaw,mem_cons→yax,toArray→yaz,map_append→yaR,append_nil→yaZ,lookup_cons→ya8,nil_append→ybc,length_take→ybe,filterMap_cons→ybh,length_replicate→ybk,set_cons_zero→ybm,mem_append_left→ybx,take_of_length_le→ybI,map_nil→ybJ,flatten_cons→ybT,length_drop→ybW,zip_cons_cons→yb7,mem_of_getElem?→ycl,mem_of_mem_drop→yco,length_reverse→ycv,of_mem_zip→ycy,filterMap_map→ycE,reverse_cons→ycK,pairwise_map→ycN,drop_of_length_le→ycQ,all_cons→ycU,take_succ_eq_append_getElem→yc0,mem_of_mem_take→ydf,set_cons_succ→ydz,map_drop→ydJ,any_eq_false→ydM,countP_cons→yd6,cons_append→yea,forIn_cons→yef,range_succ→yej,drop_eq_nil_of_le→yeo,mem_iff_getElem?→yex,singleton_append→yeB,foldl_nil→yeC,foldl→yeG,any_cons→yeQ,map_take→yeU,flatMap_append→yeX,getElem_of_mem→yeY,all_map→yfj,flatMap_assoc→yfm,take_sublist→yfv,foldl_append→yfC,length→yfF
open PySem.Value renaming ref→yaq,none→yaG,bool→ybd,int→yb2,builtin→ycV,type→yeD,isInt→yfD
open PySem.Obj renaming mapSeq→yaC,data_mapFields→ybK,isFreed_of_fields→yc3,mapFields→yeS,cls_mapFields→yfy
open PyProof.Rows renaming seqObj→yaH,slot_tuple_getitem→ya3,envOfC→ybj,IntsAre→ybC,cps_toList_append→ybU,tuples'→ybV,kindOf→ycg,callWith_type1→yci,listUpdate_at→ycr,AllBare→ycs,entry_tuple_getitem→ydg,slicePart_none→ydm,assignInOrder_cons→ydr,args_tuple_getitem→ydt,subscriptTail_builtinR→yek,seqEpoch_at→yen,failedOf→yeK,size_push'→yeL,tupleItemsOf_→yeO,keyLt'→yeW,listItems_at→yfi,assignInOrder_nil→yfr,Subscript_→yfP
open Or renaming inr→yaI,inl→ya4
open PySem.PassesOwn renaming never→yaK
open PySem.PyData renaming canLayAll0→yaM,depthAll→yaQ,canLay0→ya6,eqv→ybf,hasDictAll→ybg,depth→ybs,showableAll→yb8,shownAll_cons→ycn,showable→yc9,eqvAll→ydI,leavesShortAll→yeA,shownAll_nil→yeZ,leavesShort→yfl
open Option.some renaming inj→yaO
open False renaming elim→yaT
open PySem.Builtin.SmallTypes renaming nextOf→yaX,ownedTupleIsFree→ybp,ownedTupleHandOut→ycF
open PySem.Builtin.Tuple renaming tupleExact→ya0,tupleItemsOf→ycq,tupleIsExact→ydF
open Array renaming length_toList→ya2,getD_eq_getD_getElem?→ydx,getD→ydT
open PySem.NameKind renaming free→ya5,cell→ycW
open List.cons renaming inj→ya7,injEq→yb9
open PySem.Builtin.Slice renaming slicePlaces→ya9,sliceApplied→ybQ,sliceAdjust→ycz,sliceFields→ydQ
open PySem.Heap.SameBut renaming update→ybi
open PySem.Str renaming ofString→ybl
open Ne renaming symm→ybo
open Int renaming le_refl→ybw,toNat_natCast→ybD,emod_lt_of_pos→ybN,eq_ofNat_of_zero_le→ybZ,emod_nonneg→yca,mul_le_mul_of_nonneg_right→ycb,mul_nonneg→ydo,lt_of_lt_of_le→ydy,fdiv_eq_ediv_of_nonneg→ydB,fmod_eq_emod_of_nonneg→ydC,ediv_one→yfb
open ForInStep renaming yield→ybz
open PySem.F renaming slot_tuple_iterator_next→ybR,args_tuple_add_2→ycC,entry_tuple_add→ycI,plainAttrs_list→ycJ,slot_tuple_add→ycP,typeOf_object_class→yc2,slot_int_rmul→yc8,slot_zip_next→ydc,args_tuple_iterator_next_1→ydn,entry_tuple_iterator_next→ydv,args_int_rmul_2→yfw,args_zip_next_1→yfz
open PySem.Builtin.List renaming listTooLong→ybX
open True renaming intro→yb4
open List.Pairwise renaming nil→ycL
open LawfulBEq renaming eq_of_beq→yc1
open PySem.SeqAt.EqAt renaming bool_bool→yc7,int_str→ye0,str_int→ye1,int_int→ye9
open Option renaming map_some→ydd,getD_some→yd4,bind_some→yd7
open PySem.EntryCells renaming newEntry→ydh
open PyProof.Rows.IsTup renaming new→yds
open PySem.Calls renaming Name_function_global→ydA,evalArgs_plain→yeF,Constant_str→ye2
open Sum renaming inl→ydU,inr→ydV
open PySem.AutoSeq1 renaming sub_tuple_tuple→ydZ
open PySem.Around renaming frames_deeper→yeE
open PySem.Data renaming cell→ye4,fields→yfE
open PySem.Heap.IsSliceOf renaming new→yfc
open PySem.SeqAt renaming EqAt→yfO
open Char renaming toNat→yfS
set_option linter.all false
set_option Elab.async false
set_option maxRecDepth 100000
open List renaming mem_cons_of_mem → mM, mem_cons_self → mS_, getElem?_eq_getElem → gG, length_cons → lC_, length_map → lM_, length_append → lA_, getElem?_map → gM_, map_cons → mC_, mem_append → mA_, length_range → lR_, length_nil → lN_, size_toArray → sT_, mem_range → mR_, mem_map → mP_, map_map → mm_, replicate_succ → rS_, length_set → lS_, not_mem_nil → nN_, map_congr_left → mL_, append_assoc → aA_, getElem?_eq_some_iff → gI_, flatMap_cons → fC_, foldl_cons → fo_, mem_singleton → ms_, mem_append_right → mr_, filter_cons → ft_
namespace L2
open PySem PySem.Spec PyProof.Rows
abbrev Key:=Sum Int Str
def qdr:Key->Value->Bool
 |.inl k,v=>yfD k v
 |.inr x,v=>Value.isStrOf x v
def qqE (w:World):Key->Int
 |.inl k=>hashInt k
 |.inr x=>hashStr w x
theorem zR:∀{k:Key}{v:Value},qdr k v=true->(∃i t,k=ydU i/\v=yb2 i t)\/(∃x t,k=ydV x/\v=Value.str x t)
 |.inl i,v,h=>by
  obtain⟨t,e⟩:=Value.isInt_shape (k:=i) (v:=v) h
  exact .inl ⟨i,t,rfl,e⟩
 |.inr x,v,h=>by
  obtain⟨t,e⟩:=Value.isStrOf_shape (x:=x) (v:=v) h
  exact .inr ⟨x,t,rfl,e⟩
theorem qg2(i:Int)(t:Tok):qdr (.inl i) (.int i t)=true:=by simp[qdr,yfD]
theorem qg3(x:Str)(t:Tok):qdr (.inr x) (.str x t)=true:=by simp[qdr,Value.isStrOf]
theorem qmV (a b:Int):decide ((ydU a:Key)=ydU b)=(a==b):=by
 by_cases e:a=b
 ·subst e;simp
 ·have h:¬(ydU a:Key)=ydU b:=λq=>e (Sum.inl.inj q)
  rw[decide_eq_false h]
  exact(beq_eq_false_iff_ne.mpr e).symm
theorem qmW (a b:Str):decide ((ydV a:Key)=ydV b)=decide (a=b):=by
 by_cases e:a=b
 ·subst e;simp
 ·have h:¬(ydV a:Key)=ydV b:=λq=>e (Sum.inr.inj q)
  rw[decide_eq_false h,decide_eq_false e]
theorem qmX(a:Int)(b:Str):decide ((ydU a:Key)=ydV b)=false:=decide_eq_false (λq=>nomatch q)
theorem qmY(a:Str)(b:Int):decide ((ydV a:Key)=ydU b)=false:=decide_eq_false (λq=>nomatch q)
def qaX (prog:yas) (w:World):PySem.KeyKind prog w Key where
 is:=qdr
 hash:=qqE w
 inj:=λv a b ha hb=>by
  rcases zR ha with⟨i,t,rfl,rfl⟩|⟨x,t,rfl,rfl⟩
  ·rcases zR hb with⟨j,u,rfl,e⟩|⟨y,u,rfl,e⟩
   ·injection e with e1 _;rw[e1]
   ·exact nomatch e
  ·rcases zR hb with⟨j,u,rfl,e⟩|⟨y,u,rfl,e⟩
   ·exact nomatch e
   ·injection e with e1 _;rw[e1]
 byValue:=λk v h=>by
  rcases zR h with⟨i,t,rfl,rfl⟩|⟨x,t,rfl,rfl⟩<;>rfl
 pyHash:=λhv h=>by
  rcases zR hv with⟨i,t,rfl,rfl⟩|⟨x,t,rfl,rfl⟩
  ·exact wpAny_pyHash_int h
  ·exact wpAny_pyHash_str h
 eqBool:=λhu hv h=>by
  rcases zR hu with⟨i,t,rfl,rfl⟩|⟨x,t,rfl,rfl⟩
  ·rcases zR hv with⟨j,u,rfl,rfl⟩|⟨y,u,rfl,rfl⟩
   ·rw[qmV]at h;exact ydY h
   ·rw[qmX]at h;exact ye0 i t y u _ _ _ _ h
  ·rcases zR hv with⟨j,u,rfl,rfl⟩|⟨y,u,rfl,rfl⟩
   ·rw[qmY]at h;exact ye1 x t j u _ _ _ _ h
   ·rw[qmW]at h;exact wpAny_eqBool_str h
 «strs»:=λk x t v h=>by
  rcases zR h with⟨i,u,rfl,e⟩|⟨y,u,rfl,e⟩
  ·exact nomatch e
  ·injection e with e1 _
   subst e1
   cases v<;>rfl
end L2
namespace L2
open PySem PySem.Spec PyProof.Rows
inductive V where
 |non|bl (b:Bool)|int (i:Int)|str (x:Str)|byt (b:Array UInt8)|flt (b:UInt64)|ref (a:Addr)|ty (n:String)
 deriving DecidableEq
def jG:V->Value->Prop
 |.non,u=>u=yaG
 |.bl b,u=>u=ybd b
 |.int i,u=>∃t,u=yb2 i t
 |.str x,u=>∃t,u=Value.str x t
 |.byt b,u=>∃t,u=Value.bytes b t
 |.flt b,u=>∃t,u=Value.float b t
 |.ref a,u=>u=yaq a
 |.ty n,u=>u=yeD n
abbrev zt:List V->List Value->Prop:=Paired jG
theorem zt.length{xs:List V}{us:List Value}(r:zt xs us):xs.length=us.length:=Paired.length r
theorem zt.get:∀{xs:List V}{us:List Value}{i:Nat}{x:V},zt xs us->xs[i]? = some x->∃u,us[i]? = some u/\jG x u
 |_,_,_,_,.nil,e=>by simp at e
 |_,_,0,_,.cons r _,e=>by simp at e;subst e;exact⟨_,rfl,r⟩
 |_,_,i+1,x,.cons _ t,e=>by
  obtain⟨u,h1,h2⟩:=zt.get (i:=i) (x:=x) t (by simpa using e)
  exact⟨u,by simpa using h1,h2⟩
theorem zt.set {x:V} {u:Value} (r:jG x u):∀{xs:List V}{us:List Value}(i:Nat),zt xs us->zt (xs.set i x) (us.set i u)
 |_,_,_,.nil => .nil
 |_,_,0,.cons _ t => .cons r t
 |_,_,i+1,.cons q t => .cons q (zt.set r i t)
theorem zt.append:∀{xs ys:List V}{us ws:List Value},zt xs us->zt ys ws->zt (xs++ys) (us++ws)
 |_,_,_,_,.nil,s=>s
 |_,_,_,_,.cons r t,s => .cons r (zt.append t s)
theorem zt.take:∀{xs:List V}{us:List Value}(n:Nat),zt xs us->zt (xs.take n) (us.take n)
 |_,_,0,_ => .nil
 |_,_,_+1,.nil => .nil
 |_,_,n+1,.cons r t => .cons r (zt.take n t)
theorem zt.drop:∀{xs:List V}{us:List Value}(n:Nat),zt xs us->zt (xs.drop n) (us.drop n)
 |_,_,0,r=>r
 |_,_,_+1,.nil => .nil
 |_,_,n+1,.cons _ t=>zt.drop n t
def qpb:Option V->Option Value->Prop
 |some v,some u=>jG v u
 |none,none=>True
 |_,_=>False
def KV{κ:Type}:List (κ×V)->List (κ×Value)->Prop:=Paired λ(p:κ×V) (q:κ×Value)=>p.1=q.1/\jG p.2 q.2
def kV:Key->V
 |.inl i => .int i
 |.inr x => .str x
inductive HO where
 /-- a list -/
 |lst (xs:List V)
 /-- a tuple (never changes) -/
 |tup (xs:List V)
 /-- a dict whose keys are ints and texts;one whose keys are tuples of ints and texts (the empty one is both) -/
 |dK (kvs:List (Key×V))|dT (kvs:List (List Key×V))
 /-- a set of ints: its members,its size -/
 |set (S:Int->Bool) (n:Nat)
 /-- an instance of the class at C,its dict at dx,its attributes -/
 |ins (C dx:Addr) (fs:List (Str×V))
 /-- the dict of the instance at x -/
 |own (x:Addr)
 /-- the dict of an exception -/
 |xd (fs:List (Str×V))
 /-- a bound method,f of x -/
 |met (f x:Addr)
 /-- a range object lo,lo+1,.. below hi -/
 |rng (lo hi:Int)
 /-- a thing that is known to the object (the script;a dict while a loop walks it): read,never written while it is so -/
 |frz (o:Obj) (u:HO)
 /-- a code object's table -/
 |tbl (ps:Array Value)
 /-- any other thing,by what is true of its one object (a def of one's own: SetO a S n:=HO.ext λh => ..) -/
 |ext (φ:Heap->Prop)
 /-- the table of a code object in which at most one lambda's code stands -/
 |lam (pos:Pos) (q:Str)
abbrev Hp:=Addr->Option HO
def upd(H:Hp)(a:Addr)(o:HO):Hp:=λb=>if b=a then some o else H b
theorem qv{H:Hp}{a:Addr}{o:HO}:upd H a o a=some o:=by unfold upd;rw[if_pos rfl]
theorem qw{H:Hp}{a b:Addr}{o:HO}(h:b≠a):upd H a o b=H b:=by unfold upd;rw[if_neg h]
theorem wA {H:Hp} {a b:Addr} {o u:HO} (h:H a=some o) (h':H b=some u) (d:o≠u):a≠b:=by
 intro e;subst e;rw[h]at h';exact d (yaO h')
theorem za {H:Hp} {a b:Addr} {o:HO} (h:H a=some o) (h':H b=none):a≠b:=by
 intro e;subst e;rw[h]at h';cases h'
section
variable(P:yas)(w:World)
def yU (H:Hp) (h:Heap) (a:Addr):HO->Prop
 |.lst xs=>xs.length<=yat/\∃(its:List Value)(n:Nat),zt xs its/\h.get? a=some {cls:=.type "list",data:=.seq its.toArray n}
 |.tup xs=>xs.length<=yat/\∃its:List Value,zt xs its/\IsTup h a its.toArray
 |.dK kvs=>kvs.length<=yat/\(a==ycj)=false/\∃vs,KV kvs vs/\h.DictOf (qaX P w) a vs
 | .dT kvs=>kvs.length<=yat/\(a==ycj)=false/\∃xs:List (List Key×Addr×Value),
   Paired (λ(p:List Key×V) (q:List Key×Addr×Value)=>p.1=q.1/\H q.2.1=some (.tup (p.1.map kV))/\jG p.2 q.2.2) kvs xs /\
   ∃o es ep,h.get? a=some o/\o.ExactDict/\o.data=.dict es ep/\es.toList=xs.map (entryOfKey (tupleKind (qaX P w)))/\(xs.map (·.1)).Nodup
 |.set S n=>h.SetOf (yfo P w) a S n
 | .ins C dx fs=>H dx=some (.own a)/\fs.length<=1000/\dx≠a/\h.get? a=some (yec C dx) /\
   ∃mA,h.Ns1 dx mA/\(∀f,qpb (fs.lookup f) (mA f))/\PySem.Within mA (fs.map (·.1))
 |.own _=>∃o,h.get? a=some o
 |.xd fs=>∃mA,h.Ns1 a mA/\∀f,qpb (fs.lookup f) (mA f)
 |.rng lo hi=>∃t u v,h.get? a=some {cls:=.type "range",data:=.fields #[.int lo t,.int hi u,.int 1 v]}
 |.frz o u=>h.get? a=some o/\yU H h a u
 |.tbl ps=>h.get? a=some {cls:=.none,data:=.fields ps}
 |.met f x=>h.get? a=some (ydL (.ref f) (.ref x))
 | .lam pos q=>h.get? a=some {cls:=.none,data:=.fields #[]}\/∃(c:Addr)(oc:Obj)(vs:Array Value)(t:Tok),H c=some (.frz oc (.own c))/\oc.data=.fields vs/\vs[1]? = some (.str q t) /\
   h.get? a=some {cls:=.none,data:=.fields #[ycp pos.line,ycp pos.col,.ref c]}
 |.ext φ=>φ h/\(∃o,h.get? a=some o)/\∀h1 h2:Heap,φ h1->(∀o,h1.get? a=some o->h2.get? a=some o)->φ h2
def HOk(H:Hp)(h:Heap):Prop:=∀a o,H a=some o->yU P w H h a o
end
section
variable{P:yas}{w:World}{H H':Hp}{h h':Heap}{a:Addr}{o:HO}
theorem yU.lt (x:yU P w H h a o):a<h.objs.size:=by
 cases o with
 |lst xs=>obtain⟨_,_,_,_,e⟩:=x;exact yai e
 |tup xs=>obtain⟨_,_,_,p⟩:=x;exact p.lt
 |dK kvs=>obtain⟨_,_,_,_,o,_,_,e,_⟩:=x;exact yai e
 |dT kvs=>obtain⟨_,_,_,_,o,_,_,e,_⟩:=x;exact yai e
 |set S n=>obtain⟨o,_,_,_,e,_⟩:=x;exact yai e
 |ins C dx fs=>obtain⟨_,_,_,e,_⟩:=x;exact yai e
 |own y=>obtain⟨_,e⟩:=x;exact yai e
 |xd fs=>obtain⟨_,⟨_,_,_,e,_⟩,_⟩:=x;exact yai e
 |rng lo hi=>obtain⟨_,_,_,e⟩:=x;exact yai e
 |frz ob u=>obtain⟨e,_⟩:=x;exact yai e
 |tbl ps=>exact yai (show h.get? a=some _ from x)
 |met f y=>exact yai (show h.get? a=some _ from x)
 |ext φ=>obtain⟨_,⟨_,e⟩,_⟩:=x;exact yai e
 |lam pos q=>
  rcases x with e|⟨_,_,_,_,_,_,_,e⟩
  ·exact yai e
  ·exact yai e
theorem Paired.mapP {α β:Type} {F G:α->β->Prop}:∀{lQ:List α}{lK:List β},Paired F lQ lK->(∀a b,F a b->G a b)->Paired G lQ lK
 |_,_,.nil,_ => .nil
 |_,_,.cons r t,f => .cons (f _ _ r) (Paired.mapP t f)
theorem yU.stay (x:yU P w H h a o) (k:∀b u,(b=a\/H b=some (.own a))->h.get? b=some u->h'.get? b=some u)
  (ho:∀b,H b=some (.own a)->H' b=some (.own a)) (ht:∀b xs,H b=some (.tup xs)->H' b=some (.tup xs)) (hz:∀b ob u,H b=some (.frz ob u)->H' b=some (.frz ob u):=by exact λ_ _ _ q=>q):yU P w H' h' a o:=by
 induction o with
 |lst xs=>obtain⟨z,its,n,r,e⟩:=x;exact⟨z,its,n,r,k _ _ (.inl rfl) e⟩
 |tup xs=>obtain⟨z,its,r,ob,e,c⟩:=x;exact⟨z,its,r,ob,k _ _ (.inl rfl) e,c⟩
 |dK kvs=>obtain⟨z,y,vs,r,ob,es,ep,e,c⟩:=x;exact⟨z,y,vs,r,ob,es,ep,k _ _ (.inl rfl) e,c⟩
 |dT kvs=>
  obtain⟨z,y,xs,r,ob,es,ep,e,c⟩:=x
  exact⟨z,y,xs,Paired.mapP r λp q z=>⟨z.1,ht _ _ z.2.1,z.2.2⟩,ob,es,ep,k _ _ (.inl rfl) e,c⟩
 |set S n=>obtain⟨ob,es,ep,t,e,c⟩:=x;exact⟨ob,es,ep,t,k _ _ (.inl rfl) e,c⟩
 |ins C dx fs=>
  obtain⟨d,z,ne,e,mA,⟨od,es,ep,e2,c⟩,r⟩:=x
  exact⟨ho _ d,z,ne,k _ _ (.inl rfl) e,mA,⟨od,es,ep,k _ _ (.inr d) e2,c⟩,r⟩
 |own y=>obtain⟨ob,e⟩:=x;exact⟨ob,k _ _ (.inl rfl) e⟩
 |xd fs=>obtain⟨mA,⟨od,es,ep,e,c⟩,r⟩:=x;exact⟨mA,⟨od,es,ep,k _ _ (.inl rfl) e,c⟩,r⟩
 |rng lo hi=>obtain⟨t,u,v,e⟩:=x;exact⟨t,u,v,k _ _ (.inl rfl) e⟩
 |frz ob u ih=>obtain⟨e,q⟩:=x;exact⟨k _ _ (.inl rfl) e,ih q⟩
 |tbl ps=>
  have e:h.get? a=some {cls:=.none,data:=.fields ps}:=x
  show h'.get? a=some {cls:=.none,data:=.fields ps}
  exact k a _ (.inl rfl) e
 |met f y=>
  have e:h.get? a=some (ydL (.ref f) (.ref y)):=x
  show h'.get? a=some (ydL (.ref f) (.ref y))
  exact k a _ (.inl rfl) e
 |ext φ=>obtain⟨p,⟨o,e⟩,st⟩:=x;exact⟨st _ _ p λo q=>k _ _ (.inl rfl) q,⟨o,k _ _ (.inl rfl) e⟩,st⟩
 |lam pos q=>
  rcases x with e|⟨c,oc,vs,t,h1,h2,h3,e⟩
  ·exact .inl (k _ _ (.inl rfl) e)
  ·exact .inr ⟨c,oc,vs,t,hz _ _ _ h1,h2,h3,k _ _ (.inl rfl) e⟩
theorem HOk.lt(x:HOk P w H h)(e:H a=some o):a<h.objs.size:=(x a o e).lt
theorem HOk.fresh (x:HOk P w H h) (e:h.objs.size<=a):H a=none:=by
 cases q:H a with
 |none=>rfl
 |some u=>exact absurd (yay (x.lt q) e) (ybt _)
theorem HOk.kept (x:HOk P w H h) (k:∀b u,h.get? b=some u->h'.get? b=some u):HOk P w H h':=λa o e=>
 (x a o e).stay (λb u _ q=>k b u q) (λ_ q=>q) λ_ _ q=>q
theorem HOk.laid (x:HOk P w H h) (k:∀b u,h.get? b=some u->h'.get? b=some u) (hp:h.objs.size<=a) (new:yU P w (upd H a o) h' a o):HOk P w (upd H a o) h':=λb u e=>by
 have hn:=x.fresh hp
 by_cases hb:b=a
 ·subst hb;rw[qv]at e;cases e;exact new
 ·rw[qw hb]at e
  exact(x b u e).stay (λc v _ q=>k c v q) (λc q=>by rw[qw (za q hn)];exact q) (λc xs q=>by rw[qw (za q hn)];exact q) λc ob z q=>by rw[qw (za q hn)];exact q
end
def Rd(H:Hp)(a:Addr)(u:HO):Prop:=H a=some u\/∃o,H a=some (.frz o u)
theorem Rd.ok {P:yas} {w:World} {H:Hp} {h:Heap} {a:Addr} {u:HO} (r:Rd H a u) (x:HOk P w H h):yU P w H h a u:=by
 rcases r with r|⟨o,r⟩
 ·exact x a u r
 ·obtain⟨_,q⟩:=x a _ r
  exact q
def Mut:Option HO->Prop
 |some (.lst _)=>True
 |some (.dK _)=>True
 |some (.dT _)=>True
 |some (.set _ _)=>True
 |some (.ins _ _ _)=>True
 |some (.ext _)=>True
 |_=>False
section
variable{P:yas}{w:World}{H:Hp}{h h':Heap}{x e:Addr}{o':HO}
theorem HOk.write (ok:HOk P w H h) (mu:Mut (H x)) (he:e=x\/H e=some (.own x)) (k:∀b u,b≠e->h.get? b=some u->h'.get? b=some u) (heo:∃u,h'.get? e=some u)
  (new:yU P w (upd H x o') h' x o'):HOk P w (upd H x o') h':=λb u q=>by
 have nown:∀c y,H c=some (.own y)->c≠x:=λc y r z=>by subst z;rw[r]at mu;exact mu
 have ntup:∀c xs,H c=some (.tup xs)->c≠x:=λc xs r z=>by subst z;rw[r]at mu;exact mu
 have nfrz:∀c ob y,H c=some (.frz ob y)->c≠x:=λc ob y r z=>by subst z;rw[r]at mu;exact mu
 by_cases hb:b=x
 ·subst hb;rw[qv]at q;cases q;exact new
 ·rw [qw hb]at q
  by_cases hbe:b=e
  ·have q':H b=some (.own x):=by
    rcases he with z|z
    ·exact absurd (hbe.trans z) hb
    ·rw[hbe];exact z
   rw[q]at q';cases q'
   obtain⟨v,hv⟩:=heo
   exact⟨v,by rw[hbe];exact hv⟩
  ·refine (ok b u q).stay (λc v hc r=>k c v ?_ r) (λc r=>by rw[qw (nown c b r)];exact r) (λc xs r=>by rw[qw (ntup c xs r)];exact r) λc ob z r=>by rw[qw (nfrz c ob z r)];exact r
   rcases hc with rfl|hc
   ·exact hbe
   ·rintro rfl
    rcases he with z|z
    ·exact nown c b hc z
    ·rw[hc]at z;cases z;exact hb rfl
end
structure Un (fs ex:List Addr) (H H':Hp) (h h':Heap):Prop where
 keep:∀b o,h.get? b=some o->H b=none->b ∉ fs->b ∉ ex->h'.get? b=some o
 slot:∀b o,h.get? b=some o->H b=none->b∈fs->b ∉ ex->∃sl,h'.get? b=some {o with slots:=sl}
 free:∀b o,h.get? b=some o->H b=none->b ∉ ex->H' b=none
 there:∀b o,h.get? b=some o->b ∉ ex->∃o',h'.get? b=some o'
 tups:∀b xs,H b=some (.tup xs)->H' b=some (.tup xs)
 frzs:∀b o u,H b=some (.frz o u)->H' b=some (.frz o u)
 tbls:∀b pos q,H b=some (.lam pos q)->H' b=some (.lam pos q)
section
variable{fs fs' ex ex':List Addr}{H H1 H2:Hp}{h h1 h2 h':Heap}{a x e:Addr}{o:HO}
theorem Un.any (u:Un fs ex H H1 h h1) {b:Addr} {ob:Obj} (q:h.get? b=some ob) (n:H b=none) (hx:b ∉ ex):∃sl,h1.get? b=some {ob with slots:=sl}:=by
 by_cases hb:b∈fs
 ·exact u.slot b ob q n hb hx
 ·exact⟨ob.slots,u.keep b ob q n hb hx⟩
theorem Un.trans (a:Un fs ex H H1 h h1) (b:Un fs ex H1 H2 h1 h2):Un fs ex H H2 h h2 where
 keep:=λc ob q n hc hx=>b.keep c ob (a.keep c ob q n hc hx) (a.free c ob q n hx) hc hx
 slot:=λc ob q n hc hx=>by
  obtain⟨sl,e1⟩:=a.slot c ob q n hc hx
  obtain⟨sl',e2⟩:=b.slot c _ e1 (a.free c ob q n hx) hc hx
  exact⟨sl',e2⟩
 free:=λc ob q n hx=>by
  obtain⟨o',e1⟩:=a.there c ob q hx
  exact b.free c o' e1 (a.free c ob q n hx) hx
 there:=λc ob q hx=>by
  obtain⟨o',e1⟩:=a.there c ob q hx
  exact b.there c o' e1 hx
 tups:=λc xs q=>b.tups c xs (a.tups c xs q)
 frzs:=λc ob xs q=>b.frzs c ob xs (a.frzs c ob xs q)
 tbls:=λc ps x q=>b.tbls c ps x (a.tbls c ps x q)
theorem Un.kept (k:∀b u,h.get? b=some u->h'.get? b=some u):Un fs ex H H h h' :=
 ⟨λb ob q _ _ _=>k b ob q,λb ob q _ _ _=>⟨ob.slots,k b ob q⟩,λ_ _ _ n _=>n,λb ob q _=>⟨ob,k b ob q⟩,λ_ _ q=>q,λ_ _ _ q=>q,λ_ _ _ q=>q⟩
theorem Un.refl:Un fs ex H H h h:=Un.kept λ_ _ q=>q
theorem Un.laid (k:∀b u,h.get? b=some u->h'.get? b=some u) (hp:h.objs.size<=a) (hn:H a=none):Un fs ex H (upd H a o) h h' where
 keep:=λb u q _ _ _=>k b u q
 slot:=λb u q _ _ _=>⟨u.slots,k b u q⟩
 free:=λb u q n _=>by rw[qw (yar (yay (yai q) hp))];exact n
 there:=λb u q _=>⟨u,k b u q⟩
 tups:=λb xs q=>by rw[qw (za q hn)];exact q
 frzs:=λb u xs q=>by rw[qw (za q hn)];exact q
 tbls:=λb ps x q=>by rw[qw (za q hn)];exact q
theorem Un.write (mu:Mut (H x)) (he:e=x\/H e=some (.own x)) (k:∀b u,b≠e->h.get? b=some u->h'.get? b=some u) (heo:∃u,h'.get? e=some u):Un fs ex H (upd H x o) h h':=by
 have hx:∀b,H b=none->b≠x:=λb n z=>by subst z;rw[n]at mu;exact mu
 have hb:∀b,H b=none->b≠e:=λb n z=>by
  subst z
  rcases he with r|r
  ·exact hx b n r
  ·rw[n]at r;cases r
 have hm:∀b u,H b=some u->¬Mut (some u)->b≠x:=λb u q nm z=>by subst z;rw[q]at mu;exact nm mu
 refine ⟨λb u q n _ _=>k b u (hb b n) q,λb u q n _ _=>⟨u.slots,k b u (hb b n) q⟩,λb u q n _=>by rw[qw (hx b n)];exact n,λb u q _=>?_,
  λb xs q=>by rw[qw (hm b _ q λz=>z)];exact q,λb u xs q=>by rw[qw (hm b _ q λz=>z)];exact q,λb ps x q=>by rw[qw (hm b _ q λz=>z)];exact q⟩
 by_cases hbe:b=e
 ·subst hbe;exact heo
 ·exact⟨u,k b u hbe q⟩
end
def trk(h:Heap)(H:Hp):List Addr:=(yal h.objs.size).filter λa=>(H a).isSome
def qi2(h:Heap)(H:Hp):Heap:=PySem.W.hideAll h (trk h H)
theorem qg4(h:Heap)(H:Hp):(qi2 h H).objs.size=h.objs.size:=PySem.W.hideAll_size _ _
theorem qi3 {h:Heap} {H:Hp} {b:Addr} {o:Obj} (e:h.get? b=some o) (n:H b=none):(qi2 h H).get? b=some o :=
 PySem.W.hideAll_get _ e λhm=>by
  have q:(H b).isSome=true:=(List.mem_filter.mp hm).2
  rw[n]at q;simp at q
theorem qlg {h:Heap} {H:Hp} {b:Addr} {o:Obj} (e:(qi2 h H).get? b=some o):h.get? b=some o/\H b=none:=by
 have e':h.get? b=some o:=PySem.W.of_hideAll (trk h H) e
 refine⟨e',?_⟩
 cases q:H b with
 |none=>rfl
 |some x=>
  have hm:b∈trk h H:=List.mem_filter.mpr ⟨mR_.mpr (yai e'),by simp[q]⟩
  have z:(qi2 h H).get? b=none:=PySem.W.hideAll_none (trk h H) hm
  rw[z]at e;cases e
def qlh(g h:Heap)(L:Addr):List (Addr×Obj):=(yal h.objs.size).filterMap λa=>if a=L\/(g.get? a).isSome=true then none else(h.get? a).map λo=>(a,o)
def qag(g h:Heap)(L d:Addr):List (Addr×Obj):=(qlh g h L).filter λp=>decide (p.1≠d)
end L2
namespace L2
open PySem PySem.Spec PyProof.Rows
structure Mod (K:yaf) (mg:Str->Option Value) (base:Heap):Prop where
 kin:K.In base
 glob:base.Ns yae mg
 blt:∃mb,base.Ns yb3 mb/\∀x:Str,x≠"__name__"->mb x=yaB x
 nolimit:base.NoLimit
 bm:∃bm ob,mg "__builtins__"=some (.ref bm)/\bm≠yb3/\base.get? bm=some ob/\ob.cls=.type "module"/\ob.dict=some yb3/\ob.data=.plain
structure Cx where
 prog:yas
 w:World
 K:yaf
 mg:Str->Option Value
 base:Heap
 A:yav
 N:List Str
 s₀:yab
 H₀:Hp
 env:Env
 outer:List Env
 stack:List Env
 ex:List Addr
 fn:Str->Bool
 calm:Bool
 pn:List (Addr×Obj)
 xe:Value->yab->Prop
def frs(l:List Env):List Addr:=l.filterMap (·.frame)
abbrev Cx.fs(X:Cx):List Addr:=frs X.outer
def Vis(sc:Scope)(x:Str):Prop:=sc.names.lookup x=some .local\/sc.names.lookup x=some .cell\/sc.names.lookup x=some .free
def Loc(sc:Scope)(x:Str):Prop:=sc.names.lookup x=some .local\/sc.names.lookup x=some .cell
def qqF (env:Env) (h:Heap) (m:Str->Option Value) (x:Str) (u:Value):Prop :=
 (env.kindOf x=some .local/\m x=some u)\/((env.kindOf x=some .cell\/env.kindOf x=some .free)/\∃c,env.cells.lookup x=some c/\h.IsCell c (some u))
structure Cx.Ok (X:Cx):Prop where
 mod:Mod X.K X.mg X.base
 kind:X.env.scope.kind=.function
 glob:X.env.globals=yae
 blt:X.env.builtins=yb3
 above:X.s₀.heap.objs.size<=X.env.locals
 inj:∀x y c,X.env.cells.lookup x=some c->X.env.cells.lookup y=some c->x=y
 has:∀x,(X.env.kindOf x=some .cell\/X.env.kindOf x=some .free)->∃c,X.env.cells.lookup x=some c
 cab:∀x c,X.fn x=true->X.env.cells.lookup x=some c->X.s₀.heap.objs.size<=c
 hd:X.calm=true->X.A.handled=none
 frames:X.A.frames=some X.stack
 stk:X.stack=X.outer\/(X.stack=X.env::X.outer/\X.env.frame=some X.env.locals)
 exf:∀b∈X.ex,b≠X.env.locals/\∀x c,X.env.cells.lookup x=some c->c≠b
 bs:∀b o,X.base.get? b=some o->X.s₀.heap.get? b=some o/\X.H₀ b=none
 bsz:X.base.objs.size<=X.s₀.heap.objs.size
 noex:∀b o,X.base.get? b=some o->b ∉ X.ex
 exfs:∀b∈X.ex,b ∉ X.fs
 funs:X.s₀.heap.FunFrames X.base X.outer
 frf:∀b∈X.fs,X.H₀ b=none
structure Inv (X:Cx) (pins:List (Addr×Obj)) (σ:List (Option V)) (H:Hp) (s:yab):Prop where
 ok:X.Ok
 os:s.os=X.s₀.os
 bare:ycs s.gens
 base:Un X.fs X.ex X.H₀ H X.s₀.heap s.heap
 loc:∃m,s.heap.Ns X.env.locals m/\∀(i:Nat)(x:Str)(v:V),X.N[i]? = some x->σ[i]? = some (some v)->Vis X.env.scope x->∃u,jG v u/\qqF X.env s.heap m x u
 cell:∀x c,X.env.cells.lookup x=some c->∃v,s.heap.IsCell c v
 free:H X.env.locals=none
 freeC:∀x c,X.env.cells.lookup x=some c->H c=none
 pin:∀p∈X.pn++pins,s.heap.get? p.1=some p.2/\H p.1=none/\p.1≠X.env.locals/\p.1 ∉ X.fs/\∀v,p.2.data ≠ .cell v
 hok:HOk X.prog X.w H s.heap
 len:σ.length=X.N.length
section
variable{X:Cx}{pins:List (Addr×Obj)}{σ:List (Option V)}{H H':Hp}{s:yab}{h':Heap}
theorem Cx.Ok.nofr (ok:X.Ok) {b:Addr} {o:Obj} (e:X.base.get? b=some o):b ∉ X.fs:=λhb=>by
 have:=(ok.funs.mem hb).1
 rw[e]at this;cases this
theorem Inv.bs (I:Inv X pins σ H s):∀b o,X.base.get? b=some o->s.heap.get? b=some o/\H b=none:=λb o e=>
 ⟨I.base.keep b o (I.ok.bs b o e).1 (I.ok.bs b o e).2 (I.ok.nofr e) (I.ok.noex b o e),I.base.free b o (I.ok.bs b o e).1 (I.ok.bs b o e).2 (I.ok.noex b o e)⟩
theorem Inv.bk(I:Inv X pins σ H s):∀b o,X.base.get? b=some o->s.heap.get? b=some o:=λb o e=>(I.bs b o e).1
theorem Inv.mod(I:Inv X pins σ H s):Mod X.K X.mg X.base:=I.ok.mod
theorem Inv.kIn(I:Inv X pins σ H s):X.K.In s.heap:=I.ok.mod.kin.keeps I.bk
theorem Inv.lt(I:Inv X pins σ H s):X.env.locals<s.heap.objs.size:=let ⟨_,hn,_⟩:=I.loc;hn.lt
theorem Inv.sz(I:Inv X pins σ H s):X.s₀.heap.objs.size<=s.heap.objs.size:=yaA I.ok.above (yc4 I.lt)
theorem Inv.nofs (I:Inv X pins σ H s) {a:Addr} (h:s.heap.objs.size<=a):a ∉ X.fs:=λhb=>by
 obtain⟨_,o,ho,_⟩:=I.ok.funs.mem hb
 exact absurd (yay (yai ho) (yaA I.sz h)) (ybt _)
theorem Inv.cne (I:Inv X pins σ H s):∀x c,X.env.cells.lookup x=some c->c≠X.env.locals:=λx c e z=>by
 obtain⟨v,o,ho,hd⟩:=I.cell x c e
 obtain⟨m,⟨o',es,ep,ho',hd',_⟩,_⟩:=I.loc
 rw[z,ho']at ho;cases ho;rw[hd']at hd;cases hd
theorem Inv.funs (I:Inv X pins σ H s):s.heap.FunFrames X.base X.outer:=by
 have all:∀(l:List Env),(∀b∈frs l,b∈X.fs)->X.s₀.heap.FunFrames X.base l->s.heap.FunFrames X.base l:=by
  intro l
  induction l with
  |nil=>intro _ _;trivial
  |cons env r ih=>
   intro hs hl
   obtain⟨hk,⟨L,o,hf,hn,ho,hd⟩,hr⟩:=hl
   have hL:L∈X.fs:=hs L (by unfold frs;rw[ybh,hf];exact mS_)
   obtain⟨sl,e⟩:=I.base.slot L o ho (I.ok.frf L hL) hL λz=>I.ok.exfs L z hL
   exact⟨hk,⟨L,_,hf,hn,e,hd⟩,ih (λb hb=>hs b (by unfold frs;rw[ybh,hf];exact mM _ hb)) hr⟩
 exact all X.outer (λ_ hb=>hb) I.ok.funs
theorem Inv.stack (I:Inv X pins σ H s):s.heap.FunFrames X.base X.stack:=by
 rcases I.ok.stk with e|⟨e,hf⟩
 ·rw[e];exact I.funs
 ·rw[e]
  obtain⟨m,hn,_⟩:=I.loc
  refine .cons (by rw[I.ok.kind];decide) hf hn ?_ I.funs
  exact Heap.get?_none_of_le (yaA I.ok.bsz I.ok.above)
theorem Inv.stkSub (I:Inv X pins σ H s):∀b∈frs X.stack,b∈X.env.locals::X.fs:=λb hb=>by
 rcases I.ok.stk with e|⟨e,hf⟩
 ·rw[e]at hb;exact mM _ hb
 ·rw[e]at hb
  unfold frs at hb
  rw[ybh,hf]at hb
  exact hb
theorem Inv.stkFree (I:Inv X pins σ H s):∀b∈frs X.stack,H b=none:=λb hb=>by
 rcases List.mem_cons.mp (I.stkSub b hb)with e|hb
 ·rw[e];exact I.free
 ·obtain⟨_,o,ho,_⟩:=I.ok.funs.mem hb
  exact I.base.free b o ho (I.ok.frf b hb) λz=>I.ok.exfs b z hb
theorem Inv.step {g':Array yfI} {t':Nat} {d':Drawn} {ch:List Addr} (I:Inv X pins σ H s)
  (hch:∀b∈ch,(b∈X.ex\/X.s₀.heap.objs.size<=b)/\b≠X.env.locals/\(∀x c,X.env.cells.lookup x=some c->c≠b)/\∀p∈X.pn++pins,p.1≠b)
  (keep:∀b o,b≠X.env.locals->b ∉ X.fs->b ∉ ch->s.heap.get? b=some o->H b=none->h'.get? b=some o)
  (slot:∀b o,b≠X.env.locals->b∈X.fs->b ∉ ch->s.heap.get? b=some o->H b=none->∃sl,h'.get? b=some {o with slots:=sl}) (free:∀b o,b ∉ ch->s.heap.get? b=some o->H b=none->H' b=none)
  (there:∀b o,b ∉ ch->s.heap.get? b=some o->∃o',h'.get? b=some o')
  (tups:∀b xs,H b=some (.tup xs)->H' b=some (.tup xs)) (frzs:∀b o u,H b=some (.frz o u)->H' b=some (.frz o u)) (tbls:∀b pos q,H b=some (.lam pos q)->H' b=some (.lam pos q))
  (ns:∀m,s.heap.Ns X.env.locals m->h'.Ns X.env.locals m) (hok:HOk X.prog X.w H' h') (hg:ycs g') :
  Inv X pins σ H' {s with heap:=h',gens:=g',drawn:=d',toks:=t' }:=by
 have neL:∀b o,X.s₀.heap.get? b=some o->b≠X.env.locals:=λb o e=>yar (yay (yai e) I.ok.above)
 have neC:∀b o,X.s₀.heap.get? b=some o->b ∉ X.ex->b ∉ ch:=λb o e hx hb=>by
  rcases(hch b hb).1 with z|z
  ·exact hx z
  ·exact absurd (yay (yai e) z) (ybt _)
 have cellK:∀x c,X.env.cells.lookup x=some c->∀v,s.heap.IsCell c v->h'.IsCell c v:=λx c e v ⟨o,ho,hd⟩=>by
  have nch:c ∉ ch:=λz=>(hch c z).2.2.1 x c e rfl
  by_cases hc:c∈X.fs
  ·obtain⟨sl,q⟩:=slot c o (I.cne x c e) hc nch ho (I.freeC x c e)
   exact⟨_,q,hd⟩
  ·exact⟨o,keep c o (I.cne x c e) hc nch ho (I.freeC x c e),hd⟩
 refine⟨I.ok,I.os,hg,⟨λb o e n hb hx=>?_,λb o e n hb hx=>?_,λb o e n hx=>?_,λb o e hx=>?_,λb xs e=>tups b xs (I.base.tups b xs e),λb o xs e=>frzs b o xs (I.base.frzs b o xs e),λb ps x e=>tbls b ps x (I.base.tbls b ps x e)⟩,?_,λx c e=>?_,?_,λx c e=>?_,λp hp=>?_,hok,I.len⟩
 ·exact keep b o (neL b o e) hb (neC b o e hx) (I.base.keep b o e n hb hx) (I.base.free b o e n hx)
 ·obtain⟨sl,e1⟩:=I.base.slot b o e n hb hx
  obtain⟨sl',e2⟩:=slot b _ (neL b o e) hb (neC b o e hx) e1 (I.base.free b o e n hx)
  exact⟨sl',e2⟩
 ·obtain⟨o',e1⟩:=I.base.there b o e hx
  exact free b o' (neC b o e hx) e1 (I.base.free b o e n hx)
 ·obtain⟨o',e1⟩:=I.base.there b o e hx
  exact there b o' (neC b o e hx) e1
 ·obtain⟨m,hn,hl⟩:=I.loc
  refine⟨m,ns m hn,λi x v e1 e2 e3=>?_⟩
  obtain⟨u,r,l⟩:=hl i x v e1 e2 e3
  refine⟨u,r,?_⟩
  rcases l with l|⟨k,c,e,z⟩
  ·exact .inl l
  ·exact .inr ⟨k,c,e,cellK x c e _ z⟩
 ·obtain⟨v,z⟩:=I.cell x c e
  exact⟨v,cellK x c e v z⟩
 ·obtain⟨m,⟨o,_,_,ho,_⟩,_⟩:=I.loc
  exact free _ o (λz=>(hch _ z).2.1 rfl) ho I.free
 ·obtain⟨v,o,ho,hd⟩:=I.cell x c e
  exact free c o (λz=>(hch c z).2.2.1 x c e rfl) ho (I.freeC x c e)
 ·obtain⟨e,n,ne,nf,d⟩:=I.pin p hp
  have nch:p.1 ∉ ch:=λz=>(hch p.1 z).2.2.2 p hp rfl
  exact⟨keep p.1 p.2 ne nf nch e n,free p.1 p.2 nch e n,ne,nf,d⟩
theorem Inv.un {t':Nat} (I:Inv X pins σ H s) (u:Un X.fs [] H H' s.heap h') (hok:HOk X.prog X.w H' h'):Inv X pins σ H' {s with heap:=h',toks:=t' }:=by
 obtain⟨m,⟨o,es,ep,ho,r⟩,_⟩:=id I.loc
 obtain⟨sl,hL⟩:=u.any ho I.free (by simp)
 exact I.step (g':=s.gens) (d':=s.drawn) (ch:=[]) (λ_ z=>nomatch z) (λb o _ hb _ e n=>u.keep b o e n hb (by simp)) (λb o _ hb _ e n=>u.slot b o e n hb (by simp)) (λb o _ e n=>u.free b o e n (by simp)) (λb o _ e=>u.there b o e (by simp)) u.tups u.frzs u.tbls (λm' hm=>by
  obtain⟨o',es',ep',ho',r'⟩:=hm
  rw[ho]at ho';cases ho'
  exact⟨_,es',ep',hL,r'⟩) hok I.bare
theorem Inv.call {g':Array yfI} {t':Nat} {d':Drawn} {ch:List Addr} (I:Inv X pins σ H s) (u:Un (frs X.stack) ch H H' s.heap h') (hok:HOk X.prog X.w H' h') (hg:ycs g')
  (hch:∀b∈ch,(b∈X.ex\/X.s₀.heap.objs.size<=b)/\b≠X.env.locals/\(∀x c,X.env.cells.lookup x=some c->c≠b)/\∀p∈X.pn++pins,p.1≠b) :
  Inv X pins σ H' {s with heap:=h',gens:=g',drawn:=d',toks:=t' }:=by
 obtain⟨m,⟨o,es,ep,ho,r⟩,_⟩:=id I.loc
 obtain⟨sl,hL⟩:=u.any ho I.free λz=>(hch _ z).2.1 rfl
 exact I.step (ch:=ch) hch (λb o hL hb hc e n=>u.keep b o e n (λz=>(List.mem_cons.mp (I.stkSub b z)).elim hL hb) hc) (λb o _ _ hc e n=>u.any e n hc) (λb o hc e n=>u.free b o e n hc) (λb o hc e=>u.there b o e hc) u.tups u.frzs u.tbls (λm' hm=>by
  obtain⟨o',es',ep',ho',r'⟩:=hm
  rw[ho]at ho';cases ho'
  exact⟨_,es',ep',hL,r'⟩) hok hg
theorem Inv.turned {t':Nat} {it:Addr} (I:Inv X pins σ H s) (k:∀b o,b≠it->s.heap.get? b=some o->h'.get? b=some o) (hn:H it=none) (hL:it≠X.env.locals)
  (h1:it∈X.ex\/X.s₀.heap.objs.size<=it) (h2:∀x c,X.env.cells.lookup x=some c->c≠it) (h3:∀p∈X.pn++pins,p.1≠it):Inv X pins σ H {s with heap:=h',toks:=t' }:=by
 have nit:∀b u,H b=some u->b≠it:=λb u e z=>by rw[z,hn]at e;cases e
 refine I.step (g':=s.gens) (d':=s.drawn) (ch:=[it]) (λb hb=>?_) (λb o _ _ hc e _=>k b o (λz=>hc (by simp[z])) e) (λb o _ _ hc e _=>⟨o.slots,k b o (λz=>hc (by simp[z])) e⟩) (λ_ _ _ _ n=>n)
  (λb o hc e=>⟨o,k b o (λz=>hc (by simp[z])) e⟩) (λ_ _ e=>e) (λ_ _ _ e=>e) (λ_ _ _ e=>e) (λm hm=>?_) (λb u e=>?_) I.bare
 ·have e:b=it:=by simpa using hb
  subst e
  exact⟨h1,hL,h2,h3⟩
 ·obtain⟨o,es,ep,ho,r⟩:=hm
  exact⟨o,es,ep,k _ o (ybo hL) ho,r⟩
 ·refine(I.hok b u e).stay (λc v hc q=>k c v ?_ q) (λ_ q=>q) λ_ _ q=>q
  rcases hc with z|z
  ·rw[z];exact nit b u e
  ·exact nit c _ z
theorem Inv.tok(I:Inv X pins σ H s)(t:Nat):Inv X pins σ H {s with toks:=t}:=I.un (h':=s.heap) (t':=t) Un.refl I.hok
theorem Inv.kept{t':Nat}(I:Inv X pins σ H s)(k:∀b u,s.heap.get? b=some u->h'.get? b=some u):Inv X pins σ H {s with heap:=h',toks:=t' }:=I.un (Un.kept k) (I.hok.kept k)
theorem Inv.laid {a:Addr} {o:HO} {t':Nat} (I:Inv X pins σ H s) (k:∀b u,s.heap.get? b=some u->h'.get? b=some u) (hp:s.heap.objs.size<=a) (new:yU X.prog X.w (upd H a o) h' a o) :
  Inv X pins σ (upd H a o) {s with heap:=h',toks:=t' }:=I.un (Un.laid k hp (I.hok.fresh hp)) (I.hok.laid k hp new)
theorem Inv.write {x e:Addr} {o:HO} {t':Nat} (I:Inv X pins σ H s) (mu:Mut (H x)) (he:e=x\/H e=some (.own x)) (k:∀b u,b≠e->s.heap.get? b=some u->h'.get? b=some u) (heo:∃u,h'.get? e=some u)
  (new:yU X.prog X.w (upd H x o) h' x o):Inv X pins σ (upd H x o) {s with heap:=h',toks:=t' }:=I.un (Un.write mu he k heo) (I.hok.write mu he k heo new)
theorem Inv.pins_of {pins':List (Addr×Obj)} (I:Inv X pins σ H s) (h:∀p∈pins',s.heap.get? p.1=some p.2/\H p.1=none/\p.1≠X.env.locals/\p.1 ∉ X.fs/\∀v,p.2.data ≠ .cell v):Inv X pins' σ H s :=
 ⟨I.ok,I.os,I.bare,I.base,I.loc,I.cell,I.free,I.freeC,λp hp=>(mA_.mp hp).elim (λz=>I.pin p (ybx _ z)) (h p),I.hok,I.len⟩
theorem qfd {N:List Str} (hN:N.Nodup) {i j:Nat} {x:Str} (a:N[i]? = some x) (b:N[j]? = some x):i=j:=by
 obtain⟨h1,e1⟩:=gI_.mp a
 obtain⟨h2,e2⟩:=gI_.mp b
 exact(List.getElem_inj hN).mp (e1.trans e2.symm)
theorem qds {M:Model} {A:yav} {E:Value->yab->Prop} {i:Nat} {x:Str} {v:V} {u:Value} {Q:Unit->yab->Prop} (I:Inv X pins σ H s) (hN:X.N.Nodup) (hi:X.N[i]? = some x) (hx:Loc X.env.scope x) (r:jG v u)
  (h:∀s',Inv X pins (σ.set i (some v)) H s'->(∃a,ycd a s.heap s'.heap/\(a=X.env.locals\/X.env.cells.lookup x=some a))->Q () s') (hf:X.fn x=true\/X.env.scope.names.lookup x=some .local:=by first|exact .inl rfl|exact .inr rfl|assumption):wpAny M A (storeName X.env x u) Q E s:=by
 obtain⟨m,hn,hl⟩:=id I.loc
 have hcls:(X.env.scope.kind == .class||(X.env.scope.kind == .module&&X.env.locals != X.env.globals))=false:=by rw[I.ok.kind];rfl
 have hiσ:i<σ.length:=by rw[I.len];exact(gI_.mp hi).1
 have cne:=I.cne
 have tracked:∀{a:Addr}{h':Heap},(∃o,s.heap.get? a=some o/\H a=none)->ycd a s.heap h'->HOk X.prog X.w H h':=λ{a h'} ha hs b ob e=>by
  obtain⟨_,_,hfree⟩:=ha
  refine(I.hok b ob e).stay (λc w' hc q=>(hs.2 c ?_).trans q) (λ_ q=>q) λ_ _ q=>q
  rintro rfl
  rcases hc with rfl|hc
  ·rw[hfree]at e;cases e
  ·rw[hfree]at hc;cases hc
 rcases hx with hk|hk
 ·refine wpAny_storeName_local hk hn (λh' hn' hs=>?_) hcls
  obtain⟨oL,_,_,hoL,_⟩:=id hn
  refine h _ ⟨I.ok,I.os,I.bare,⟨λb o e n hb hx=>?_,λb o e n hb hx=>?_,I.base.free,λb o e hx=>?_,I.base.tups,I.base.frzs,I.base.tbls⟩,⟨_,hn',λj y v' e1 e2 e3=>?_⟩,λy c e=>?_,I.free,I.freeC,λp hp=>?_,tracked ⟨oL,hoL,I.free⟩ hs,by simpa using I.len⟩ ⟨_,hs,.inl rfl⟩
  ·exact(hs.2 b (yar (yay (yai e) I.ok.above))).trans (I.base.keep b o e n hb hx)
  ·obtain⟨sl,e1⟩:=I.base.slot b o e n hb hx
   exact⟨sl,(hs.2 b (yar (yay (yai e) I.ok.above))).trans e1⟩
  ·obtain⟨o',e1⟩:=I.base.there b o e hx
   exact⟨o',(hs.2 b (yar (yay (yai e) I.ok.above))).trans e1⟩
  ·by_cases hj:j=i
   ·subst hj
    rw[hi]at e1;cases e1
    rw[List.getElem?_set_self hiσ]at e2
    cases e2
    exact⟨u,r,.inl ⟨hk,by simp⟩⟩
   ·rw [List.getElem?_set_ne (ybo hj)]at e2
    obtain⟨u',r',q⟩:=hl j y v' e1 e2 e3
    refine⟨u',r',?_⟩
    rcases q with⟨k,e⟩|⟨k,c,e,z⟩
    ·refine .inl ⟨k,?_⟩
     have:y≠x:=λe=>hj (qfd hN e1 (e▸hi))
     simp[this,e]
    ·exact .inr ⟨k,c,e,z.sameBut hs (cne y c e)⟩
  ·obtain⟨w',z⟩:=I.cell y c e
   exact⟨w',z.sameBut hs (cne y c e)⟩
  ·obtain⟨e,n,ne,nf,d⟩:=I.pin p hp
   exact⟨(hs.2 p.1 ne).trans e,n,ne,nf,d⟩
 ·have hfn:X.fn x=true:=by
   rcases hf with z|z
   ·exact z
   ·rw[z]at hk;cases hk
  obtain⟨c,hc⟩:=I.ok.has x (.inl hk)
  obtain⟨w',z⟩:=I.cell x c hc
  refine wpAny_storeName_cell I.ok.kind hk hc z (λh' hc' hs=>?_)
  obtain⟨oc,hoc,hocd⟩:=id z
  refine h {s with heap:=h' } ⟨I.ok,I.os,I.bare,⟨λb o e n hb hx=>?_,λb o e n hb hx=>?_,I.base.free,λb o e hx=>?_,I.base.tups,I.base.frzs,I.base.tbls⟩,⟨m,hn.sameBut hs (ybo (cne x c hc)),λj y v' e1 e2 e3=>?_⟩,λy c' e=>?_,I.free,I.freeC,λp hp=>?_,tracked ⟨oc,hoc,I.freeC x c hc⟩ hs,by simpa using I.len⟩ ⟨c,hs,.inr hc⟩
  ·exact(hs.2 b (yar (yay (yai e) (I.ok.cab x c hfn hc)))).trans (I.base.keep b o e n hb hx)
  ·obtain⟨sl,e1⟩:=I.base.slot b o e n hb hx
   exact⟨sl,(hs.2 b (yar (yay (yai e) (I.ok.cab x c hfn hc)))).trans e1⟩
  ·obtain⟨o',e1⟩:=I.base.there b o e hx
   exact⟨o',(hs.2 b (yar (yay (yai e) (I.ok.cab x c hfn hc)))).trans e1⟩
  ·by_cases hj:j=i
   ·subst hj
    rw[hi]at e1;cases e1
    rw[List.getElem?_set_self hiσ]at e2
    cases e2
    exact⟨u,r,.inr ⟨.inl hk,c,hc,hc'⟩⟩
   ·rw [List.getElem?_set_ne (ybo hj)]at e2
    obtain⟨u',r',q⟩:=hl j y v' e1 e2 e3
    refine⟨u',r',?_⟩
    rcases q with q|⟨k,c',e,z'⟩
    ·exact .inl q
    ·refine .inr ⟨k,c',e,z'.sameBut hs ?_⟩
     rintro rfl
     exact hj (qfd hN e1 (I.ok.inj _ _ _ e hc▸hi))
  ·by_cases hcc:c'=c
   ·subst hcc;exact⟨_,hc'⟩
   ·obtain⟨w2,z2⟩:=I.cell y c' e
    exact⟨w2,z2.sameBut hs hcc⟩
  ·obtain⟨e,n,ne,nf,d⟩:=I.pin p hp
   refine⟨(hs.2 p.1 ?_).trans e,n,ne,nf,d⟩
   intro q
   rw[q,hoc]at e
   have q':oc=p.2:=yaO e
   exact d w' (by rw[<-q'];exact hocd)
theorem wB {M:Model} {A:yav} {E:Value->yab->Prop} {i:Nat} {x:Str} {v:V} {u:Value} {Q:Unit->yab->Prop} (I:Inv X pins σ H s) (hN:X.N.Nodup) (hi:X.N[i]? = some x) (hx:Loc X.env.scope x) (r:jG v u)
  (h:∀s',Inv X pins (σ.set i (some v)) H s'->Q () s') (hf:X.fn x=true\/X.env.scope.names.lookup x=some .local:=by first|exact .inl rfl|exact .inr rfl|assumption):wpAny M A (storeName X.env x u) Q E s :=
 qds I hN hi hx r (λs' I' _=>h s' I') hf
theorem Inv.call' {s':yab} {ch:List Addr} (I:Inv X pins σ H s) (ho:s'.os=s.os) (u:Un (frs X.stack) ch H H' s.heap s'.heap) (hok:HOk X.prog X.w H' s'.heap) (hg:ycs s'.gens)
  (hch:∀b∈ch,(b∈X.ex\/X.s₀.heap.objs.size<=b)/\b≠X.env.locals/\(∀x c,X.env.cells.lookup x=some c->c≠b)/\∀p∈X.pn++pins,p.1≠b):Inv X pins σ H' s':=by
 obtain⟨h',g',d',t',o'⟩:=s'
 have e:o'=s.os:=ho
 subst e
 exact I.call (g':=g') (t':=t') (d':=d') u hok hg hch
end
abbrev XK:=Value->Option Addr->Hp->Prop
abbrev St:=List (Option V)
abbrev VK:=V->Hp->Prop
abbrev TE:=St->Hp->VK->Prop
abbrev TT:=St->Hp->(Bool->Hp->Prop)->Prop
abbrev TA:=St->Hp->(List V->Hp->Prop)->Prop
structure qg0 where
 nx:St->Hp->Prop
 rt:VK
 bk:St->Hp->Prop:=λ_ _=>False
 ct:St->Hp->Prop:=λ_ _=>False
abbrev TS:=qg0->St->Hp->Prop
def EP(X:Cx)(pins:List (Addr×Obj))(σ:St)(Q:VK)(u:Value)(s':yab):Prop:=∃v H',Inv X pins σ H' s'/\jG v u/\Q v H'
def TP(X:Cx)(pins:List (Addr×Obj))(σ:St)(Q:Bool->Hp->Prop)(b:Bool)(s':yab):Prop:=∃H',Inv X pins σ H' s'/\Q b H'
def AP(X:Cx)(pins:List (Addr×Obj))(σ:St)(Q:List V->Hp->Prop)(us:List Value)(s':yab):Prop:=∃vs H',Inv X pins σ H' s'/\zt vs us/\Q vs H'
def SP (X:Cx) (pins:List (Addr×Obj)) (D:qg0) (f:Flow) (s':yab):Prop :=
 match f with
 |.next=>∃σ' H',Inv X pins σ' H' s'/\D.nx σ' H'
 |.brk=>∃σ' H',Inv X pins σ' H' s'/\D.bk σ' H'
 |.cont=>∃σ' H',Inv X pins σ' H' s'/\D.ct σ' H'
 |.ret u=>∃v σ' H',Inv X pins σ' H' s'/\jG v u/\D.rt v H'
def PE (X:Cx) (e:Expr) (t:TE):Prop :=
 ∀(pins:List (Addr×Obj))(s:yab)(σ:St)(H:Hp)(Q:VK),Inv X pins σ H s->t σ H Q->wpAny (model X.prog X.w) X.A (eval e X.env) (EP X pins σ Q) X.xe s
def PT (X:Cx) (e:Expr) (t:TT):Prop :=
 ∀(pins:List (Addr×Obj))(s:yab)(σ:St)(H:Hp)(Q:Bool->Hp->Prop),Inv X pins σ H s->t σ H Q->wpAny (model X.prog X.w) X.A (isTrue e X.env (eval e X.env)) (TP X pins σ Q) X.xe s
def PW (X:Cx) (e:Expr) (t:TT):Prop :=
 ∀(whole:Sem Value)(pins:List (Addr×Obj))(s:yab)(σ:St)(H:Hp)(Q:Bool->Hp->Prop),Inv X pins σ H s->t σ H Q->wpAny (model X.prog X.w) X.A (isTrue e X.env whole) (TP X pins σ Q) X.xe s
theorem PW.pt{X:Cx}{e:Expr}{t:TT}(h:PW X e t):PT X e t:=h _
def PA (X:Cx) (es:List Expr) (t:TA):Prop :=
 ∀(pos:Pos)(pins:List (Addr×Obj))(s:yab)(σ:St)(H:Hp)(Q:List V->Hp->Prop),Inv X pins σ H s->t σ H Q->wpAny (model X.prog X.w) X.A (spliced (yaN pos (yac es X.env))) (AP X pins σ Q) X.xe s
def PS (X:Cx) (st:Stmt) (t:TS):Prop :=
 ∀(pins:List (Addr×Obj))(s:yab)(σ:St)(H:Hp)(D:qg0),Inv X pins σ H s->t D σ H->wpAny (model X.prog X.w) X.A (exec st X.env) (SP X pins D) X.xe s
def PSs (X:Cx) (st:List Stmt) (t:TS):Prop :=
 ∀(pins:List (Addr×Obj))(s:yab)(σ:St)(H:Hp)(D:qg0),Inv X pins σ H s->t D σ H->wpAny (model X.prog X.w) X.A (execs st X.env) (SP X pins D) X.xe s
theorem thn{α:Type}{t:Sem α}{Q Q':α->yab->Prop}{M:Model}{A:yav}{E:Value->yab->Prop}{s:yab}(h:wpAny M A t Q E s)(hQ:∀a s,Q a s->Q' a s):wpAny M A t Q' E s:=ya1 h hQ λ_ _ x=>x
end L2
namespace L2
open PySem PySem.Spec PyProof.Rows
section
variable{X:Cx}
theorem bin {a b:Expr} {ta tb:TE} (ha:PE X a ta) (hb:PE X b tb) {pins:List (Addr×Obj)} {s:yab} {σ:St} {H:Hp} {R:V->V->Hp->Prop} (I:Inv X pins σ H s) (h:ta σ H λx H1=>tb σ H1 λy H2=>R x y H2)
  {α:Type} {Q:α->yab->Prop} {f:Value->Value->Sem α}
  (hf:∀v u s2 x y H2,Inv X pins σ H2 s2->jG x v->jG y u->R x y H2->wpAny (model X.prog X.w) X.A (f v u) Q X.xe s2) :
  wpAny (model X.prog X.w) X.A (eval a X.env) (λv sK=>wpAny (model X.prog X.w) X.A (eval b X.env) (λu sQ=>wpAny (model X.prog X.w) X.A (f v u) Q X.xe sQ) X.xe sK) X.xe s:=by
 refine thn (ha pins s σ H _ I h) λv s1 ⟨x,H1,I1,r1,q1⟩=>?_
 refine thn (hb pins s1 σ H1 _ I1 q1) λu s2 ⟨y,H2,I2,r2,q2⟩=>?_
 exact hf v u s2 x y H2 I2 r1 r2 q2
def qqG(i:Nat):TE:=λσ H Q=>∃v,σ[i]? = some (some v)/\Q v H
def tC(v:V):TE:=λ_ H Q=>Q v H
theorem uH {i:Nat} {x:Str} {pos:Pos} (hN:X.N[i]? = some x) (hv:Vis X.env.scope x) (hd:(x==("__debug__":Str))=false:=by decide) (hcd:(x==("__classdict__":Str))=false:=by decide):PE X (.Name x pos) (qqG i):=by
 intro pins s σ H Q I h
 obtain⟨v,e,h⟩:=h
 obtain⟨m,hn,hl⟩:=I.loc
 obtain⟨u,r,l⟩:=hl i x v hN e hv
 have fin:EP X pins σ Q u s:=⟨v,H,I,r,h⟩
 rcases l with⟨hk,hm⟩|⟨hk,c,hc,hcell⟩
 ·exact yfM (wpAny_loadName_local I.ok.kind hk hn hm fin) hd
 ·rcases hk with hk|hk
  ·exact yfM (wpAny_loadName_cell I.ok.kind hk hc hcell fin) hd
  ·exact yfM (wpAny_loadName_free I.ok.kind hk hc hcell fin hcd) hd
theorem qmZ{i j pos}:PE X (.Constant (.int i) j pos) (tC (.int i)):=λ_ _ _ H _ I h=>ydq ⟨.int i,H,I.tok _,⟨_,rfl⟩,h⟩
theorem qpc{b j pos}:PE X (.Constant (.bool b) j pos) (tC (.bl b)):=λ_ _ _ H _ I h=>Constant_bool ⟨.bl b,H,I,rfl,h⟩
theorem qm0{j pos}:PE X (.Constant .none j pos) (tC .non):=λ_ _ _ H _ I h=>Constant_none ⟨.non,H,I,rfl,h⟩
theorem qm1{x j pos}:PE X (.Constant (.str x) j pos) (tC (.str x)):=λ_ _ _ H _ I h=>ye2 ⟨.str x,H,I.tok _,⟨_,rfl⟩,h⟩
def Gl(X:Cx)(x:Str):Prop:=X.env.kindOf x=some .globalImplicit
theorem qcz {E:Value->yab->Prop} {pins:List (Addr×Obj)} {s:yab} {σ:St} {H:Hp} {x:Str} {u:Value} {pos:Pos} {Q:Value->yab->Prop} (I:Inv X pins σ H s) (hg:Gl X x) (hm:X.mg x=some u) (h:Q u s)
  (hd:(x==("__debug__":Str))=false:=by decide):wpAny (model X.prog X.w) X.A (eval (.Name x pos) X.env) Q E s :=
 ydA I.ok.kind hg (Calls.loadGlobal_global (by rw[I.ok.glob];exact I.mod.glob.keeps I.bk) hm h) hd
theorem qb8 {E:Value->yab->Prop} {pins:List (Addr×Obj)} {s:yab} {σ:St} {H:Hp} {x:Str} {u:Value} {pos:Pos} {Q:Value->yab->Prop} (I:Inv X pins σ H s) (hg:Gl X x) (hm:X.mg x=none) (hv:yaB x=some u) (h:Q u s)
  (hn:x≠"__name__":=by decide) (hd:(x==("__debug__":Str))=false:=by decide):wpAny (model X.prog X.w) X.A (eval (.Name x pos) X.env) Q E s:=by
 obtain⟨mb,h1,h2⟩:=I.mod.blt
 exact ydA I.ok.kind hg (Calls.loadGlobal_builtin (by rw[I.ok.glob];exact I.mod.glob.keeps I.bk) hm (by rw[I.ok.blt];exact h1.keeps I.bk) ((h2 x hn).trans hv) h) hd
theorem qcA {x:Str} {v:V} {u:Value} {pos:Pos} (hg:Gl X x) (hm:X.mg x=some u) (r:jG v u) (hd:(x==("__debug__":Str))=false:=by decide):PE X (.Name x pos) (tC v) :=
 λ_ _ _ H _ I h=>qcz I hg hm ⟨v,H,I,r,h⟩ hd
theorem qg5 {x:Str} {v:V} {u:Value} {pos:Pos} (hg:Gl X x) (hm:X.mg x=none) (hv:yaB x=some u) (r:jG v u) (hn:x≠"__name__":=by decide) (hd:(x==("__debug__":Str))=false:=by decide):PE X (.Name x pos) (tC v) :=
 λ_ _ _ H _ I h=>qb8 I hg hm hv ⟨v,H,I,r,h⟩ hn hd
variable{a b:Expr}{ta tb:TE}{pos:Pos}
def PC (X:Cx) (op:CmpOp) (a b:Expr) (t:TE):Prop :=
 ∀ (pins:List (Addr×Obj)) (s:yab) (σ:St) (H:Hp) (Q:VK),Inv X pins σ H s->t σ H Q ->
  wpAny (model X.prog X.w) X.A (eval a X.env) (λv sK=>wpAny (model X.prog X.w) X.A (eval b X.env) (λu sQ=>wpAny (model X.prog X.w) X.A (yaP op v u) (EP X pins σ Q) X.xe sQ) X.xe sK) X.xe s
theorem qi4 (b:Expr) {op:CmpOp} (h:op ≠ .In) (h2:op ≠ .NotIn):ybE op b=false:=by
 have e1:(op==CmpOp.In)=false:=by cases op<;>first|rfl|exact absurd rfl h
 have e2:(op==CmpOp.NotIn)=false:=by cases op<;>first|rfl|exact absurd rfl h2
 cases b<;>simp[ybE,e1,e2]
def tB(t:TE):TT:=λσ H Q=>t σ H λx H1=>∃c,x=.bl c/\Q c H1
theorem qp7 {op:CmpOp} {t:TE} (h:PC X op a b t) (h1:ybE op b=false:=by first|exact qi4 _ (by decide) (by decide)|rfl):PT X (.Compare a [op] [b] pos) (tB t):=by
 intro pins s σ H Q I hw
 refine yep (thn (h pins s σ H _ I hw) λv s1 h1=>thn h1 λu s2 h2=>thn h2 λc s3 ⟨x,H1,I1,r1,q1⟩=>?_) h1
 obtain⟨d,rfl,q⟩:=q1
 cases r1
 exact ybB ⟨H1,I1,q⟩
theorem qm2 {e:Expr} {t:TE} (h:PE X e t) (he:∀whole,isTrue e X.env whole=(do let v <-whole;yfp e.pos;ydi [v] (truthy v)):=by intro _;rfl):PT X e (tB t):=by
 intro pins s σ H Q I hw
 refine isTrue_plain (thn (h pins s σ H _ I hw) λv s1 ⟨x,H1,I1,r1,q1⟩=>?_) (he _)
 obtain⟨d,rfl,q⟩:=q1
 cases r1
 exact ybB ⟨H1,I1,q⟩
variable{tA tB':TT}{qag:List Expr}
def qqH(t u:TT):TT:=λσ H Q=>t σ H λc H1=>if c=true then u σ H1 Q else Q false H1
def tOr(t u:TT):TT:=λσ H Q=>t σ H λc H1=>if c=true then Q true H1 else u σ H1 Q
def qqI(t:TT):TT:=λσ H Q=>t σ H λc H1=>Q (!c) H1
theorem qli (ha:PT X a tA):PW X (.BoolOp .And [a] pos) tA:=by
 intro wh pins s σ H Q I h
 refine isTrue_and (thn (ha pins s σ H Q I h) λc s1 e=>?_)
 cases c with
 |true=>exact isTrue_and_nil e
 |false=>exact e
theorem qm3 (ha:PT X a tA):PW X (.BoolOp .Or [a] pos) tA:=by
 intro wh pins s σ H Q I h
 refine isTrue_or (thn (ha pins s σ H Q I h) λc s1 e=>?_)
 cases c with
 |false=>exact isTrue_or_nil e
 |true=>exact e
theorem qm4 (ha:PT X a tA) (hb:PW X (.BoolOp .And (b::qag) pos) tB'):PW X (.BoolOp .And (a::b::qag) pos) (qqH tA tB'):=by
 intro wh pins s σ H Q I h
 refine isTrue_and (thn (ha pins s σ H _ I h) λc s1 ⟨H1,I1,q1⟩=>?_)
 cases c with
 |true=>exact hb wh pins s1 σ H1 Q I1 q1
 |false=>exact⟨H1,I1,q1⟩
theorem qpd (ha:PT X a tA) (hb:PW X (.BoolOp .Or (b::qag) pos) tB'):PW X (.BoolOp .Or (a::b::qag) pos) (tOr tA tB'):=by
 intro wh pins s σ H Q I h
 refine isTrue_or (thn (ha pins s σ H _ I h) λc s1 ⟨H1,I1,q1⟩=>?_)
 cases c with
 |true=>exact⟨H1,I1,q1⟩
 |false=>exact hb wh pins s1 σ H1 Q I1 q1
theorem qm5 (ha:PT X a tA):PT X (.UnaryOp .Not a pos) (qqI tA):=by
 intro pins s σ H Q I h
 exact isTrue_not (ha pins s σ H (λc H1=>Q (!c) H1) I h)
def qpe(ta tb:TE):TE:=λσ H Q=>ta σ H λx H1=>∃c,x=.bl c/\if c=true then tb σ H1 Q else Q (.bl false) H1
def qqJ(ta tb:TE):TE:=λσ H Q=>ta σ H λx H1=>∃c,x=.bl c/\if c=true then Q (.bl true) H1 else tb σ H1 Q
def qpf(ta:TE):TE:=λσ H Q=>ta σ H λx H1=>∃c,x=.bl c/\Q (.bl (!c)) H1
theorem qm6{op}{t:TE}(h:PE X a t):PE X (.BoolOp op [a] pos) t:=λpins s σ H Q I hw=>BoolOp_one (h pins s σ H Q I hw)
theorem qm7 (ha:PE X a ta) (hb:PE X (.BoolOp .And (b::qag) pos) tb):PE X (.BoolOp .And (a::b::qag) pos) (qpe ta tb):=by
 intro pins s σ H Q I h
 refine BoolOp_and (thn (ha pins s σ H _ I h) λv s1 ⟨x,H1,I1,r1,q1⟩=>?_)
 obtain⟨c,rfl,q1⟩:=q1
 cases r1
 refine ybB ?_
 cases c with
 |true=>exact hb pins s1 σ H1 Q I1 q1
 |false=>exact⟨.bl false,H1,I1,rfl,q1⟩
theorem qpg (ha:PE X a ta) (hb:PE X (.BoolOp .Or (b::qag) pos) tb):PE X (.BoolOp .Or (a::b::qag) pos) (qqJ ta tb):=by
 intro pins s σ H Q I h
 refine BoolOp_or (thn (ha pins s σ H _ I h) λv s1 ⟨x,H1,I1,r1,q1⟩=>?_)
 obtain⟨c,rfl,q1⟩:=q1
 cases r1
 refine ybB ?_
 cases c with
 |false=>exact hb pins s1 σ H1 Q I1 q1
 |true=>exact⟨.bl true,H1,I1,rfl,q1⟩
theorem qm8 (ha:PE X a ta):PE X (.UnaryOp .Not a pos) (qpf ta):=by
 intro pins s σ H Q I h
 refine UnaryOp_ (thn (ha pins s σ H _ I h) λv s1 ⟨x,H1,I1,r1,q1⟩=>?_)
 obtain⟨c,rfl,q1⟩:=q1
 cases r1
 exact not_of (ybB ⟨.bl (!c),H1,I1,rfl,q1⟩)
end
end L2
namespace L2
open PySem PySem.Spec PyProof.Rows
def SqL (K:yaf) (H:Hp) (a:Addr) (xs:List V):Prop :=
 Rd H a (.lst xs) \/
  ∃(o:Obj)(its:Array Value)(n:Nat),K.lookup a=some o/\o.cls=.type "list"/\o.dict=none/\o.data=.seq its n/\its.size<=yat/\zt xs its.toList
def SqT (K:yaf) (H:Hp) (a:Addr) (xs:List V):Prop :=
 Rd H a (.tup xs) \/
  ∃(o:Obj)(its:Array Value)(n:Nat),K.lookup a=some o/\o.cls=.type "tuple"/\o.data=.seq its n/\its.size<=yat/\zt xs its.toList
def qqK:Value->Option V
 |.none=>some .non
 |.bool b=>some (.bl b)
 |.int i _=>some (.int i)
 |.str x _=>some (.str x)
 |.bytes b _=>some (.byt b)
 |.float b _=>some (.flt b)
 |.ref a=>some (.ref a)
 |.type n=>some (.ty n)
 |_=>none
theorem jG.abs {x:V} {u:Value} (r:jG x u):qqK u=some x:=by
 cases x with
 |non=>cases r;rfl
 |bl _=>cases r;rfl
 |int _=>obtain⟨t,rfl⟩:=r;rfl
 |str _=>obtain⟨t,rfl⟩:=r;rfl
 |byt _=>obtain⟨t,rfl⟩:=r;rfl
 |flt _=>obtain⟨t,rfl⟩:=r;rfl
 |ref _=>cases r;rfl
 |ty _=>cases r;rfl
theorem jG.inj{x y:V}{u:Value}(r:jG x u)(q:jG y u):x=y:=yaO (r.abs.symm.trans q.abs)
theorem zt.inj:∀{xs ys:List V}{us:List Value},zt xs us->zt ys us->xs=ys
 |_,_,_,.nil,.nil=>rfl
 |_,_,_,.cons r t,.cons r' t'=>by rw[r.inj r',zt.inj t t']
section
variable{X:Cx}{pins:List (Addr×Obj)}{σ:St}{H:Hp}{s:yab}{a:Addr}{xs ys:List V}
theorem SqL.of{K:yaf}(h:H a=some (.lst xs)):SqL K H a xs:=.inl (.inl h)
theorem Inv.list (I:Inv X pins σ H s) (h:SqL X.K H a xs):∃its:List Value,zt xs its/\PlainL s.heap a its.toArray/\xs.length<=yat:=by
 rcases h with h|⟨o,its,n,hk,hc,hd,hs,hz,r⟩
 ·obtain⟨z,its,n,r,e⟩:=h.ok I.hok
  exact⟨its,r,⟨_,n,e,rfl,rfl,rfl⟩,z⟩
 ·refine⟨its.toList,r,⟨o,n,I.kIn a o hk,hc,hd,by simpa using hs⟩,?_⟩
  have e:=r.length
  simp only[ya2]at e
  omega
theorem Inv.tuple (I:Inv X pins σ H s) (h:SqT X.K H a xs):∃its:List Value,zt xs its/\IsTup s.heap a its.toArray/\xs.length<=yat:=by
 rcases h with h|⟨o,its,n,hk,hc,hs,hz,r⟩
 ·obtain⟨z,its,r,p⟩:=h.ok I.hok
  exact⟨its,r,p,z⟩
 ·refine⟨its.toList,r,⟨o,I.kIn a o hk,hc,n,by simpa using hs⟩,?_⟩
  have e:=r.length
  simp only[ya2]at e
  omega
theorem Inv.list_inj (I:Inv X pins σ H s) (h:SqL X.K H a xs) (h':SqL X.K H a ys):xs=ys:=by
 obtain⟨its,r,⟨o,n,e,_,_,d⟩,_⟩:=I.list h
 obtain⟨its',r',⟨o',n',e',_,_,d'⟩,_⟩:=I.list h'
 rw[e]at e';cases e'
 rw[d]at d'
 injection d' with d1 _
 have:its=its':=by simpa using congrArg Array.toList d1
 subst this
 exact r.inj r'
theorem Inv.tuple_inj (I:Inv X pins σ H s) (h:SqT X.K H a xs) (h':SqT X.K H a ys):xs=ys:=by
 obtain⟨its,r,⟨o,e,_,n,d⟩,_⟩:=I.tuple h
 obtain⟨its',r',⟨o',e',_,n',d'⟩,_⟩:=I.tuple h'
 rw[e]at e';cases e'
 rw[d]at d'
 injection d' with d1 _
 have:its=its':=by simpa using congrArg Array.toList d1
 subst this
 exact r.inj r'
end
abbrev Cx.wish(X:Cx)(E:Value->yab->Prop):Cx:={X with xe:=E}
abbrev Cx.nox(X:Cx):Cx:=X.wish λ_ _=>False
theorem Cx.Ok.wish {X:Cx} (ok:X.Ok) (E:Value->yab->Prop):(X.wish E).Ok :=
 ⟨ok.mod,ok.kind,ok.glob,ok.blt,ok.above,ok.inj,ok.has,ok.cab,ok.hd,ok.frames,ok.stk,ok.exf,ok.bs,ok.bsz,ok.noex,ok.exfs,ok.funs,ok.frf⟩
theorem Cx.Ok.unwish {X:Cx} {E:Value->yab->Prop} (ok:(X.wish E).Ok):X.Ok :=
 ⟨ok.mod,ok.kind,ok.glob,ok.blt,ok.above,ok.inj,ok.has,ok.cab,ok.hd,ok.frames,ok.stk,ok.exf,ok.bs,ok.bsz,ok.noex,ok.exfs,ok.funs,ok.frf⟩
section
variable{X:Cx}{pins:List (Addr×Obj)}{σ:St}{H:Hp}{s:yab}{E:Value->yab->Prop}
theorem Inv.wish(I:Inv X pins σ H s)(E:Value->yab->Prop):Inv (X.wish E) pins σ H s:=⟨I.ok.wish E,I.os,I.bare,I.base,I.loc,I.cell,I.free,I.freeC,I.pin,I.hok,I.len⟩
theorem Inv.unwish(I:Inv (X.wish E) pins σ H s):Inv X pins σ H s:=⟨I.ok.unwish,I.os,I.bare,I.base,I.loc,I.cell,I.free,I.freeC,I.pin,I.hok,I.len⟩
theorem SP.unwish {D:qg0} {f:Flow} {s':yab} (h:SP (X.wish E) pins D f s'):SP X pins D f s':=by
 cases f with
 |next=>obtain⟨σ',H',I,q⟩:=h;exact⟨σ',H',I.unwish,q⟩
 |brk=>obtain⟨σ',H',I,q⟩:=h;exact⟨σ',H',I.unwish,q⟩
 |cont=>obtain⟨σ',H',I,q⟩:=h;exact⟨σ',H',I.unwish,q⟩
 |ret u=>obtain⟨v,σ',H',I,r,q⟩:=h;exact⟨v,σ',H',I.unwish,r,q⟩
theorem PE.nox {e:Expr} {t:TE} (h:PE X.nox e t):PE X e t:=λpins s σ H Q I hw=>
 ya1 (h pins s σ H Q (I.wish _) hw) (λ_ _ ⟨v,H',I',r,q⟩=>⟨v,H',I'.unwish,r,q⟩) λ_ _ z=>yaT z
theorem PT.nox {e:Expr} {t:TT} (h:PT X.nox e t):PT X e t:=λpins s σ H Q I hw=>
 ya1 (h pins s σ H Q (I.wish _) hw) (λ_ _ ⟨H',I',q⟩=>⟨H',I'.unwish,q⟩) λ_ _ z=>yaT z
theorem PSs.nox {st:List Stmt} {t:TS} (h:PSs X.nox st t):PSs X st t:=λpins s σ H D I hw=>
 ya1 (h pins s σ H D (I.wish _) hw) (λ_ _ q=>q.unwish) λ_ _ z=>yaT z
end
section
variable{X:Cx}{st:Stmt}{qag:List Stmt}{t u:TS}{e:Expr}{te:TE}{pos:Pos}
def qph:TS:=λD σ H=>D.nx σ H
def qqL(t u:TS):TS:=λD σ H=>t {D with nx:=u D} σ H
theorem qlj:PSs X [] qph:=λ_ _ σ H _ I h=>ycw ⟨σ,H,I,h⟩
theorem qi5 (h1:PS X st t) (h2:PSs X qag u):PSs X (st::qag) (qqL t u):=by
 intro pins s σ H D I h
 refine wpAny_execs_cons (thn (h1 pins s σ H {D with nx:=u D} I h) λf s1 q=>?_)
 cases f with
 |next=>
  obtain⟨σ',H',I',q⟩:=q
  exact h2 pins s1 σ' H' D I' q
 |ret v=>exact q
 |brk=>exact q
 |cont=>exact q
theorem qg6 (h1:PS X st t):PSs X [st] t:=by
 intro pins s σ H D I h
 refine wpAny_execs_cons (thn (h1 pins s σ H D I h) λf s1 q=>?_)
 cases f with
 |next=>exact ycw q
 |ret v=>exact q
 |brk=>exact q
 |cont=>exact q
theorem Inv.quiet{pins:List (Addr×Obj)}{σ:St}{H:Hp}{s:yab}(I:Inv X pins σ H s):interactive X.env=false:=by simp[interactive,I.ok.kind]
def qpi(te:TE):TS:=λD σ H=>te σ H λ_ H1=>D.nx σ H1
theorem qlk (he:PE X e te) (hs:ycA e none pos.line X.env=pure false:=by rfl):PS X (.Expr e pos) (qpi te):=by
 intro pins s σ H D I h
 exact wpAny_Expr_any (thn (he pins s σ H _ I h) λv s1 ⟨x,H1,I1,r1,q1⟩=>⟨σ,H1,I1,q1⟩) I.quiet hs
def qqM(te:TE):TS:=λD σ H=>te σ H D.rt
theorem qg7 (he:PE X e te):PS X (.Return (some e) pos) (qqM te):=by
 intro pins s σ H D I h
 exact wpAny_Return_some (thn (he pins s σ H _ I h) λv s1 ⟨x,H1,I1,r1,q1⟩=>⟨x,σ,H1,I1,r1,q1⟩)
def qqN(c:TT)(t u:TS):TS:=λD σ H=>c σ H λb H1=>if b=true then t D σ H1 else u D σ H1
theorem qpj {c:Expr} {a b:List Stmt} {tc:TT} (hc:PT X c tc) (ha:PSs X a t) (hb:PSs X b u):PS X (.If c a b pos) (qqN tc t u):=by
 intro pins s σ H D I h
 refine wpAny_If (thn (hc pins s σ H _ I h) λd s1 ⟨H1,I1,q1⟩=>?_)
 cases d with
 |true=>exact ha pins s1 σ H1 D I1 q1
 |false=>exact hb pins s1 σ H1 D I1 q1
end
abbrev TG:=V->St->Hp->(St->Hp->Prop)->Prop
abbrev TGs:=List V->St->Hp->(St->Hp->Prop)->Prop
def PG (X:Cx) (target:Expr) (t:TG):Prop :=
 ∀ (pins:List (Addr×Obj)) (s:yab) (σ:St) (H:Hp) (v:V) (u:Value) (Q:St->Hp->Prop),Inv X pins σ H s->jG v u->t v σ H Q ->
  wpAny (model X.prog X.w) X.A (yce target X.env u) (λ_ s'=>∃σ' H',Inv X pins σ' H' s'/\Q σ' H') X.xe s
def PGs (X:Cx) (ts:List Expr) (t:TGs):Prop :=
 ∀ (pins:List (Addr×Obj)) (s:yab) (σ:St) (H:Hp) (vs:List V) (us:List Value) (Q:St->Hp->Prop),Inv X pins σ H s->zt vs us->t vs σ H Q ->
  wpAny (model X.prog X.w) X.A (yeM ((yba ts X.env).map (·.2)) us) (λ_ s'=>∃σ' H',Inv X pins σ' H' s'/\Q σ' H') X.xe s
abbrev qpk:=V->V->V->Hp->(Hp->Prop)->Prop
def qp8 (X:Cx) (t:qpk):Prop :=
 ∀ (pins:List (Addr×Obj)) (s:yab) (σ:St) (H:Hp) (o i v:V) (ov iv u:Value) (Q:Hp->Prop),Inv X pins σ H s->jG o ov->jG i iv->jG v u->t o i v H Q ->
  wpAny (model X.prog X.w) X.A (setItem ov iv u) (λ_ s'=>∃H',Inv X pins σ H' s'/\Q H') X.xe s
section
variable{X:Cx}{pos:Pos}
def qm9(i:Nat):TG:=λv σ H Q=>Q (σ.set i (some v)) H
theorem qll {i:Nat} {x:Str} (hN:X.N.Nodup) (hi:X.N[i]? = some x) (hx:Loc X.env.scope x) (hf:X.fn x=true\/X.env.scope.names.lookup x=some .local:=by first|exact .inl rfl|exact .inr rfl|assumption):PG X (.Name x pos) (qm9 i):=by
 intro pins s σ H v u Q I r h
 exact yfq (wB I hN hi hx r (λs' I'=>⟨_,H,I',h⟩) hf)
def qqO:TGs:=λvs σ H Q=>vs=[]/\Q σ H
def qpl(t:TG)(u:TGs):TGs:=λvs σ H Q=>∃v r,vs=v::r/\t v σ H λσ' H'=>u r σ' H' Q
theorem qlm:PGs X [] qqO:=by
 intro pins s σ H vs us Q I r h
 obtain⟨e,h⟩:=h
 subst e
 cases r
 exact yfr ⟨σ,H,I,h⟩
theorem qi6 {e:Expr} {es:List Expr} {t:TG} {u:TGs} (h1:PG X e t) (h2:PGs X es u)
  (hs:(yba (e::es) X.env).map (·.2)=yce e X.env::(yba es X.env).map (·.2):=by rfl):PGs X (e::es) (qpl t u):=by
 intro pins s σ H vs us Q I r h
 obtain⟨v,vr,e1,h⟩:=h
 subst e1
 cases r with
 |cons r rr=>
  rw[hs]
  refine ydr (thn (h1 pins s σ H _ _ _ I r h) λ_ s1 ⟨σ1,H1,I1,q1⟩=>?_)
  exact h2 pins s1 σ1 H1 _ _ Q I1 rr q1
def qqP(K:yaf)(n:Nat)(t:TGs):TG:=λv σ H Q=>∃a xs,v=.ref a/\SqT K H a xs/\xs.length=n/\t xs σ H Q
theorem qna {es:List Expr} {k:Nat} {t:TGs} {n:Nat} (hc:X.calm=true) (h:PGs X es t)
  (hn:(yba es X.env).length=n:=by rfl) (hst:(yba es X.env).findIdx? (·.1)=none:=by rfl):PG X (.Tuple es k pos) (qqP X.K n t):=by
 intro pins s σ H v u Q I r hw
 obtain⟨a,xs,e1,hq,hl,hw⟩:=hw
 subst e1
 cases r
 obtain⟨its,rv,ht,hz⟩:=I.tuple hq
 refine assign_Tuple_tuple (I.ok.hd hc) ht (by simp[hn,<-hl,rv.length]) hst λh' hx=>?_
 have I1:Inv X pins σ H {s with heap:=h' }:=I.kept (t':=s.toks) λb o e=>hx b o (yar (yai e)) e
 exact h pins _ σ H xs _ Q I1 (by simpa using rv) hw
def qqQ(to ti:TE)(t:qpk):TG:=λv σ H Q=>to σ H λo H1=>ti σ H1 λi H2=>t o i v H2 λH3=>Q σ H3
theorem qnb {o i:Expr} {to ti:TE} {t:qpk} (ho:PE X o to) (hi:PE X i ti) (hs:qp8 X t)
  (ha:∀v,yce (.Subscript o i pos) X.env v=(do
   let ov <-ydi [v] (eval o X.env)
   let iv <-ydi [v,ov] (eval i X.env)
   yfp pos
   ydi [v,ov,iv] (setItem ov iv v)
   release [v,ov,iv] []):=by intro _;rfl):PG X (.Subscript o i pos) (qqQ to ti t):=by
 intro pins s σ H v u Q I r h
 rw[ha]
 refine yaa (ybn (thn (ho pins s σ H _ I h) λov s1 ⟨x,H1,I1,r1,q1⟩=>?_))
 refine yaa (ybn (thn (hi pins s1 σ H1 _ I1 q1) λiv s2 ⟨y,H2,I2,r2,q2⟩=>?_))
 refine yaa (yb1 (yaa (ybn (thn (hs pins s2 σ H2 x y v ov iv u _ I2 r1 r2 r q2) λ_ s3 ⟨H3,I3,q3⟩=>?_))))
 exact wpAny_release ⟨σ,H3,I3,q3⟩
def qp9(te:TE)(g:TG):TS:=λD σ H=>te σ H λx H1=>g x σ H1 D.nx
theorem qko {tg e:Expr} {te:TE} {g:TG} (he:PE X e te) (hg:PG X tg g) (hs:ycS [tg] e pos.line X.env=pure false:=by rfl) (hw:ycT [tg] e X.env=pure none:=by rfl)
  (h1:(yba [tg] X.env).map (·.2)=[yce tg X.env]:=by rfl):PS X (.Assign [tg] e pos) (qp9 te g):=by
 intro pins s σ H D I h
 refine wpAny_Assign_stores (thn (he pins s σ H _ I h) λv s1 ⟨x,H1,I1,r1,q1⟩=>?_) hs hw
 rw[h1]
 exact thn (hg pins s1 σ H1 x v _ I1 r1 q1) λ_ s2 q=>q
theorem qg8 {i:Nat} {x:Str} {e:Expr} {te:TE} {pos':Pos} (hN:X.N.Nodup) (hi:X.N[i]? = some x) (hx:Loc X.env.scope x) (he:PE X e te) (hs:ycA e (some (.Name x pos')) pos.line X.env=pure false:=by rfl) (hf:X.fn x=true\/X.env.scope.names.lookup x=some .local:=by first|exact .inl rfl|exact .inr rfl|assumption) :
  PS X (.Assign [.Name x pos'] e pos) (qp9 te (qm9 i)):=by
 intro pins s σ H D I h
 refine wpAny_Assign_Name (thn (he pins s σ H _ I h) λv s1 ⟨y,H1,I1,r1,q1⟩=>?_) hs
 exact wB I1 hN hi hx r1 (λs2 I2=>⟨_,H1,I2,q1⟩) hf
def qqR(i j:Nat)(ta:TA):TS:=λD σ H=>ta σ H λvs H1=>∃v w,vs=[v,w]/\D.nx ((σ.set i (some v)).set j (some w)) H1
theorem qnc {i j:Nat} {x y:Str} {a b:Expr} {ta:TA} {px py pt:Pos} {kt k2 pt2} (hc:X.calm=true) (hN:X.N.Nodup) (hi:X.N[i]? = some x) (hj:X.N[j]? = some y) (hij:i≠j)
  (hx:X.env.scope.names.lookup x=some .local) (hy:X.env.scope.names.lookup y=some .local) (ha:PA X [a,b] ta)
  (hw:ycT [.Tuple [.Name x px,.Name y py] kt pt] (.Tuple [a,b] k2 pt2) X.env=pure (some [x,y]))
  (hs:ycS [.Tuple [.Name x px,.Name y py] kt pt] (.Tuple [a,b] k2 pt2) pos.line X.env=pure false:=by rfl) :
  PS X (.Assign [.Tuple [.Name x px,.Name y py] kt pt] (.Tuple [a,b] k2 pt2) pos) (qqR i j ta):=by
 intro pins s σ H D I h
 rw[exec_Assign_arm]
 refine yaa (yb1 ?_)
 rw[hs]
 refine yaa (yah ?_)
 rw[if_neg (by decide)]
 refine yaa (Tuple_ (thn (ha _ pins s σ H _ I h) λus s1 ⟨vs,H1,I1,r1,q1⟩=>?_))
 obtain⟨v,w,e1,q1⟩:=q1
 subst e1
 obtain ⟨u1,u2,rfl,rv,rw'⟩:∃u1 u2,us=[u1,u2]/\jG v u1/\jG w u2:=by
  cases r1 with
  | cons p q=>
   cases q with
   |cons p' q'=>
    cases q'
    exact⟨_,_,rfl,p,p'⟩
 refine yaL ?_ (by show 2<=yat;decide)
 have I2:Inv X pins σ H1 {s1 with heap:=s1.heap.push {cls:=.type "tuple",data:=.seq [u1,u2].toArray} }:=I1.kept (t':=s1.toks) λb o e=>Heap.get?_push_of_some _ e
 rw[hw]
 refine yaa (yah ?_)
 show wpAny (model X.prog X.w) X.A (do rule "assign.swapped-stores";let items <-unpackItems (.ref s1.heap.objs.size) 2 none;yeM [λv=>yfJ X.env y v,λv=>yfJ X.env x v] items.reverse;pure Flow.next) _ _ _
 refine yaa (yc5 (yaa (unpackItems_tuple (items := #[u1,u2]) (I.ok.hd hc) (yds s1.heap _) λh' hx'=>?_)))
 have I3:=I2.kept (h':=h') (t':=s1.toks) λb o e=>hx' b o (yar (yai e)) e
 show wpAny _ _ (yeM [λv=>yfJ X.env y v,λv=>yfJ X.env x v] [u2,u1] >>= λ_=>pure Flow.next) _ _ _
 refine yaa (ydr (wpAny_bindName (wB I3 hN hj (.inl hy) rw' (λs2 I4=>?_) (.inr hy))))
 refine ydr (wpAny_bindName (wB I4 hN hi (.inl hx) rv (λs3 I5=>yfr (yah ?_)) (.inr hx)))
 rw[List.set_comm _ _ (ybo hij)]at I5
 exact⟨_,H1,I5,q1⟩
end
section
variable{X:Cx}{pos:Pos}
def qnd (c:TT) (tb:TS):TS:=λD σ H=>∃W:Nat->St->Hp->Prop,(∃m,W m σ H)/\∀m σ H,W m σ H ->
 c σ H λb H1=>if b=true then ∃N:St->Hp->Prop,(∀σ' H',N σ' H'->∃m',m'<m/\W m' σ' H')/\tb {D with nx:=N,ct:=N,bk:=D.nx} σ H1 else D.nx σ H1
theorem qi7 {c:Expr} {body:List Stmt} {tc:TT} {tb:TS} (hp:ye3 (model X.prog X.w) X.A X.env X.xe) (hc:PT X c tc) (hb:PSs X body tb):PS X (.While c body [] pos) (qnd tc tb):=by
 intro pins s σ H D I h
 obtain⟨W,⟨m0,w0⟩,turn⟩:=h
 refine wpAny_While (codeAny_whileLoop (λn s'=>∃σ' H',Inv X pins σ' H' s'/\W n σ' H') ?_ m0 ⟨σ,H,I,w0⟩)
 rintro n s1 ⟨σ1,H1,I1,w1⟩
 refine ybO hp (thn (hc pins s1 σ1 H1 _ I1 (turn n σ1 H1 w1)) λb s2 ⟨H2,I2,q2⟩=>?_)
 cases b with
 | true=>
  obtain⟨N,hN,q2⟩:=q2
  rw[if_pos rfl]
  refine ybO hp (thn (hb pins s2 σ1 H2 _ I2 q2) λf s3 q3=>?_)
  cases f with
  |next=>
   obtain⟨σ3,H3,I3,n3⟩:=q3
   obtain⟨m',hm,w3⟩:=hN σ3 H3 n3
   exact⟨m',hm,σ3,H3,I3,w3⟩
  |cont=>
   obtain⟨σ3,H3,I3,n3⟩:=q3
   obtain⟨m',hm,w3⟩:=hN σ3 H3 n3
   exact⟨m',hm,σ3,H3,I3,w3⟩
  |brk=>exact q3
  |ret v=>exact q3
 |false=>
  rw[if_neg yam]
  exact ycw ⟨σ1,H2,I2,q2⟩
end
structure It where
 go:Nat->Hp->Prop
 yld:Nat->Hp->V->Hp->Prop
 stop:Nat->Hp->Prop
def qeq (X:Cx) (pins:List (Addr×Obj)) (H:Hp) (b:Addr):Prop :=
 H b=none/\b≠X.env.locals/\b ∉ X.fs/\(b∈X.ex\/X.s₀.heap.objs.size<=b)/\(∀x c,X.env.cells.lookup x=some c->c≠b)/\∀p∈X.pn++pins,p.1≠b
theorem Inv.fpOk {X:Cx} {pins:List (Addr×Obj)} {σ:St} {H H':Hp} {s:yab} {b:Addr} (I:Inv X pins σ H s) (hb:s.heap.objs.size<=b) (hn:H' b=none):qeq X pins H' b:=by
 refine⟨hn,ycB (yay I.lt hb),I.nofs hb,.inr (yaA I.sz hb),λx c e z=>?_,λp hp z=>?_⟩
 ·obtain⟨v,q⟩:=I.cell x c e
  exact absurd (yay q.lt (by rw[z];exact hb)) (ybt _)
 ·exact absurd (yay (yai (I.pin p hp).1) (by rw[z];exact hb)) (ybt _)
structure qne (P:yas) (w:World) (K:yaf) (tg:Expr) (J:It) (fp:List Addr) (it:Addr) (tn:Nat->Heap->Prop):Prop where
 mem:it∈fp
 obj:∀i h,tn i h->∀b∈fp,∃o,h.get? b=some o/\∀v,o.data ≠ .cell v
 keep:∀i h h',tn i h->(∀b∈fp,∀o,h.get? b=some o->h'.get? b=some o)->tn i h'
 item:∀(X:Cx),X.prog=P->X.w=w->X.K=K->X.calm=true->∀(i:Nat)(pins:List (Addr×Obj))(s:yab)(σ:St)(H:Hp)(E:Value->yab->Prop),Inv X pins σ H s->(∀b∈fp,qeq X pins H b)->tn i s.heap->J.go i H ->
  wpAny (model P w) X.A (yeq (.ref it)) (λr s1=>∃u,r=some u /\
   wpAny (model P w) X.A (ycx tg (.ref it) u) (λ_ s2=>∃x H',Inv X pins σ H' s2/\jG x u/\J.yld i H x H'/\tn (i+1) s2.heap/\∀b∈fp,H' b=none) E s1) E s
 done:∀(X:Cx),X.prog=P->X.w=w->X.K=K->X.calm=true->∀(i:Nat)(pins:List (Addr×Obj))(s:yab)(σ:St)(H:Hp)(E:Value->yab->Prop),Inv X pins σ H s->(∀b∈fp,qeq X pins H b)->tn i s.heap->J.stop i H ->
  wpAny (model P w) X.A (yeq (.ref it)) (λr s1=>r=none/\Inv X pins σ H s1) E s
 self:∀(A:yav)(i:Nat)(s:yab)(Q:Value->yab->Prop)(E:Value->yab->Prop),tn i s.heap->Q (.ref it) s->wpAny (model P w) A (pyIter (.ref it)) Q E s
abbrev TI:=St->Hp->(It->Hp->Prop)->Prop
def PIE (X:Cx) (pins:List (Addr×Obj)) (σ:St) (tg:Expr) (R:It->Hp->Prop) (itv:Value) (s2:yab):Prop :=
 ∃(it:Addr)(fp:List Addr)(tn:Nat->Heap->Prop)(J:It)(H':Hp),itv=.ref it/\Inv X pins σ H' s2/\qne X.prog X.w X.K tg J fp it tn/\tn 0 s2.heap/\(∀b∈fp,qeq X pins H' b)/\R J H'
def PI (X:Cx) (tg iter:Expr) (wi:TI):Prop :=
 ∀ (pins:List (Addr×Obj)) (s:yab) (σ:St) (H:Hp) (R:It->Hp->Prop),Inv X pins σ H s->wi σ H R ->
  wpAny (model X.prog X.w) X.A (eval iter X.env) (λv s1=>wpAny (model X.prog X.w) X.A (pyIter v) (PIE X pins σ tg R) X.xe s1) X.xe s
theorem qln {M:Model} {A:yav} {E:Value->yab->Prop} {s:yab} {tg:Expr} {it:Addr} {u:Value} {o:Obj} {n:String} {vs:Array Value} {Q:Unit->yab->Prop} (ho:s.heap.get? it=some o) (hc:o.cls=.type n) (hd:o.data=.fields vs)
  (hn:["enumerate","zip","dict_itemiterator","dict_reverseitemiterator","odict_iterator","itertools.zip_longest","itertools.pairwise"].contains n=false) (hQ:Q () s):wpAny M A (ycx tg (.ref it) u) Q E s:=by
 unfold ycx
 cases tg<;>first
  |exact yah hQ
  | (cases u<;>first
    |exact yah hQ
    | (refine yaa (wpAny_load ho ?_)
       rw[hc,hd]
       show wpAny M A (if(["enumerate","zip","dict_itemiterator","dict_reverseitemiterator","odict_iterator","itertools.zip_longest","itertools.pairwise"].contains n&&vs[0]? == some (ycp _))=true then _ else _) Q E s
       rw[if_neg (by intro h;rw[hn,ydj]at h;cases h)]
       exact yah hQ))
def Itl (K:yaf) (a:Addr):It :=
 ⟨λi H=>∃xs x,SqL K H a xs/\xs[i]? = some x,λi H x H'=>H'=H/\∀xs,SqL K H a xs->xs[i]? = some x,λi H=>∃xs,SqL K H a xs/\xs.length<=i⟩
def Itt (K:yaf) (a:Addr):It :=
 ⟨λi H=>∃xs x,SqT K H a xs/\xs[i]? = some x,λi H x H'=>H'=H/\∀xs,SqT K H a xs->xs[i]? = some x,λi H=>∃xs,SqT K H a xs/\xs.length<=i⟩
def Itr(lo:Int)(n:Nat):It:=⟨λi _=>i<n,λi H x H'=>H'=H/\x=.int (lo+i),λi _=>n<=i⟩
theorem qg9 {P:yas} {w:World} {K:yaf} {tg:Expr} (a it:Addr):qne P w K tg (Itl K a) [it] it (λi h=>h.IsListIter it a i) where
 mem:=by simp
 obj:=λi h st b hb=>by
  have e:b=it:=by simpa using hb
  subst e
  obtain⟨o,e,c,d⟩:=st
  exact⟨o,e,λv z=>by rw[d]at z;cases z⟩
 keep:=λi h h' st k=>st.at λo e=>k it (by simp) o e
 item:=by
  intro X hP hw hK hc i pins s σ H E I hf st hg
  subst hP hw hK
  obtain⟨xs,x,hq,hx⟩:=hg
  obtain⟨its,rv,p,hz⟩:=I.list hq
  obtain⟨u,hu,ru⟩:=rv.get hx
  obtain⟨f0,f1,f2,f3,f4,f5⟩:=hf it (by simp)
  refine wpAny_pyNext_list_item st p.isList (x:=u) (by simpa using hu) λh' st' sb=>?_
  have I1:Inv X pins σ H {s with heap:=h' }:=I.turned (t':=s.toks) (λb o hb e=>(sb.2 b hb).trans e) f0 f1 f3 f4 f5
  obtain⟨o,e,c,d⟩:=id st'
  exact⟨u,rfl,qln (s:={s with heap:=h' }) e c d (by decide) ⟨x,H,I1,ru,⟨rfl,λys hy=>by rw[I.list_inj hy hq];exact hx⟩,st',λb hb=>(hf b hb).1⟩⟩
 done:=by
  intro X hP hw hK hc i pins s σ H E I hf st hg
  subst hP hw hK
  obtain⟨xs,hq,hx⟩:=hg
  obtain⟨its,rv,p,hz⟩:=I.list hq
  obtain⟨f0,f1,f2,f3,f4,f5⟩:=hf it (by simp)
  have hl:=rv.length
  exact wpAny_pyNext_list_end (I.ok.hd hc) st p.isList (by simp;omega) λh' eb=>⟨rfl,I.turned (t':=s.toks) (λb o hb e=>eb b o hb e) f0 f1 f3 f4 f5⟩
 self:=λ_ _ _ _ _ st h=>wpAny_pyIter_listiter st h
theorem qgi {P:yas} {w:World} {K:yaf} {tg:Expr} (a it:Addr):qne P w K tg (Itt K a) [it] it (λi h=>h.IsTupleIter it a i) where
 mem:=by simp
 obj:=λi h st b hb=>by
  have e:b=it:=by simpa using hb
  subst e
  obtain⟨o,e,c,d⟩:=st
  exact⟨o,e,λv z=>by rw[d]at z;cases z⟩
 keep:=λi h h' st k=>st.at λo e=>k it (by simp) o e
 item:=by
  intro X hP hw hK hc i pins s σ H E I hf st hg
  subst hP hw hK
  obtain⟨xs,x,hq,hx⟩:=hg
  obtain⟨its,rv,p,hz⟩:=I.tuple hq
  obtain⟨u,hu,ru⟩:=rv.get hx
  obtain⟨f0,f1,f2,f3,f4,f5⟩:=hf it (by simp)
  refine wpAny_pyNext_tuple_item st (show s.heap.IsTuple a its.toArray from p) (x:=u) (by simpa using hu) λh' st' sb=>?_
  have I1:Inv X pins σ H {s with heap:=h' }:=I.turned (t':=s.toks) (λb o hb e=>(sb.2 b hb).trans e) f0 f1 f3 f4 f5
  obtain⟨o,e,c,d⟩:=id st'
  exact⟨u,rfl,qln (s:={s with heap:=h' }) e c d (by decide) ⟨x,H,I1,ru,⟨rfl,λys hy=>by rw[I.tuple_inj hy hq];exact hx⟩,st',λb hb=>(hf b hb).1⟩⟩
 done:=by
  intro X hP hw hK hc i pins s σ H E I hf st hg
  subst hP hw hK
  obtain⟨xs,hq,hx⟩:=hg
  obtain⟨its,rv,p,hz⟩:=I.tuple hq
  obtain⟨f0,f1,f2,f3,f4,f5⟩:=hf it (by simp)
  have hl:=rv.length
  exact wpAny_pyNext_tuple_end (I.ok.hd hc) st (show s.heap.IsTuple a its.toArray from p) (by simp;omega) λh' eb=>⟨rfl,I.turned (t':=s.toks) (λb o hb e=>eb b o hb e) f0 f1 f3 f4 f5⟩
 self:=λ_ _ _ _ _ st h=>wpAny_pyIter_tupleiter st h
theorem qgj {P:yas} {w:World} {K:yaf} {tg:Expr} (it:Addr) (lo:Int) (n:Nat):qne P w K tg (Itr lo n) [it] it (λi h=>IsRangeIter h it (lo+(i:Nat)*1) ((n:Int)-(i:Nat)) 1) where
 mem:=by simp
 obj:=λi h st b hb=>by
  have e:b=it:=by simpa using hb
  subst e
  exact ⟨_,st,λv z=>by
   have z':yfE _=ye4 v:=z
   cases z'⟩
 keep:=λi h h' st k=>k it (by simp) _ st
 item:=by
  intro X hP hw hK hc i pins s σ H E I hf st hg
  subst hP hw hK
  obtain⟨f0,f1,f2,f3,f4,f5⟩:=hf it (by simp)
  have W:=Walks.range (prog:=X.prog) (w:=X.w) (I.ok.hd hc) it lo 1 n
  refine W.item i s _ _ hg st λv h' tk hv st' kk=>?_
  obtain⟨t,rfl⟩:=hv
  have I1:Inv X pins σ H {s with heap:=h',toks:=tk}:=I.turned (λb o hb e=>kk b o (by simpa using hb) e) f0 f1 f3 f4 f5
  refine⟨_,rfl,qln (s:={s with heap:=h',toks:=tk}) (n:="range_iterator") st' rfl rfl (by decide) ⟨.int (lo+i),H,I1,⟨t,?_⟩,⟨rfl,rfl⟩,st',λb hb=>(hf b hb).1⟩⟩
  rw[Int.mul_one]
 done:=by
  intro X hP hw hK hc i pins s σ H E I hf st hg
  subst hP hw hK
  obtain⟨f0,f1,f2,f3,f4,f5⟩:=hf it (by simp)
  exact wpAny_pyNext_range_end (I.ok.hd hc) st (by have:n<=i:=hg;omega) λh' eb=>⟨rfl,I.turned (t':=s.toks) (λb o hb e=>eb b o hb e) f0 f1 f3 f4 f5⟩
 self:=λ_ _ _ _ _ st h=>wpAny_pyIter_rangeiter st h
end L2
namespace L2
open PySem PySem.Spec PyProof.Rows
section
variable{X:Cx}{tg:Expr}
theorem qi8 {pins:List (Addr×Obj)} {σ:St} {H:Hp} {s:yab} {R:It->Hp->Prop} {E:Value->yab->Prop} {lo hi:Int} {t u v:Tok} {tk:Nat} (I:Inv X pins σ H s) (h1 : -(2 ^ 62)<=lo) (h2:lo<2 ^ 62) (h3 : -(2 ^ 62)<=hi) (h4:hi<2 ^ 62)
  (q:R (Itr lo (hi-lo).toNat) H):wpAny (model X.prog X.w) X.A (pyIter (.ref s.heap.objs.size)) (PIE X pins σ tg R) E {s with heap:=s.heap.push {cls:=.type "range",data:=.fields #[.int lo t,.int hi u,.int 1 v]},toks:=tk}:=by
 refine wpAny_pyIter_range (IsRange.new ..) (small_one h1 h2 h3 h4) ?_
 have I1:Inv X pins σ H {s with heap:=s.heap.push {cls:=.type "range",data:=.fields #[.int lo t,.int hi u,.int 1 v]},toks:=tk}:=I.kept λb o e=>Heap.get?_push_of_some _ e
 refine ⟨(s.heap.push {cls:=.type "range",data:=.fields #[.int lo t,.int hi u,.int 1 v]}).objs.size,[(s.heap.push {cls:=.type "range",data:=.fields #[.int lo t,.int hi u,.int 1 v]}).objs.size],_,_,H,rfl,
  I1.kept (t':=tk) λb o e=>Heap.get?_push_of_some _ e,qgj _ lo (hi-lo).toNat,?_,λb hb=>?_,q⟩
 ·have e1:lo+((0:Nat):Int)*1=lo:=by simp
  have e2:(((hi-lo).toNat:Nat):Int)-((0:Nat):Int)=Builtin.Range.rangeSize lo hi 1:=by rw[rangeSize_one];split<;>omega
  show IsRangeIter _ _ (lo+((0:Nat):Int)*1) ((((hi-lo).toNat:Nat):Int)-((0:Nat):Int)) 1
  rw[e1,e2]
  exact Heap.get?_push_size _ rfl
 ·have e:b=(s.heap.push {cls:=.type "range",data:=.fields #[.int lo t,.int hi u,.int 1 v]}).objs.size:=by simpa using hb
  subst e
  exact I1.fpOk (yad _) (I1.hok.fresh (yad _))
def qpm(ta:TA):TI:=λσ H R=>ta σ H λvs H1=>∃j:Int,vs=[.int j] /\ -(2 ^ 62)<=j/\j<2 ^ 62/\R (Itr 0 j.toNat) H1
theorem qha {a:Expr} {ta:TA} {p pos:Pos} (hg:Gl X "range") (hm:X.mg "range"=none) (ha:PA X [a] ta) (hs:yac [a] X.env=[(false,eval a X.env)]:=by rfl):PI X tg (.Call (.Name "range" p) [a] [] pos) (qpm ta):=by
 intro pins s σ H R I h
 refine Call_ (qb8 I hg hm boot_range (yci (thn (ha pos pins s σ H _ I h) λus s1 ⟨vs,H1,I1,r1,q1⟩=>?_) hs rfl))
 obtain⟨j,e,q1,q2,q⟩:=q1
 subst e
 cases r1 with
 |cons r rr=>
  cases rr
  obtain⟨t,rfl⟩:=r
  exact call_range_1 (qi8 I1 (by omega) (by omega) q1 q2 (by simpa using q))
def qqS (wi:TI) (g:TG) (tb:TS):TS:=λD σ H=>wi σ H λJ H1=>∃W:Nat->Nat->St->Hp->Prop,(∃m,W 0 m σ H1)/\∀i m σ H,W i m σ H ->
 (J.stop i H/\D.nx σ H)\/(J.go i H/\∃N:St->Hp->Prop,(∀σ' H',N σ' H'->∃m',m'<m/\W (i+1) m' σ' H')/\∀x H',J.yld i H x H'->g x σ H' λσ2 H2=>tb {D with nx:=N,ct:=N,bk:=D.nx} σ2 H2)
def qb9(fp:List Addr)(h:Heap):List (Addr×Obj):=fp.filterMap λb=>(h.get? b).map λo=>(b,o)
theorem yW{fp:List Addr}{h:Heap}{b:Addr}{o:Obj}(hb:b∈fp)(e:h.get? b=some o):(b,o)∈qb9 fp h:=List.mem_filterMap.mpr ⟨b,hb,by rw[e];rfl⟩
theorem qhb {fp:List Addr} {h:Heap} {p:Addr×Obj} (hp:p∈qb9 fp h):p.1∈fp/\h.get? p.1=some p.2:=by
 obtain⟨b,hb,e⟩:=List.mem_filterMap.mp hp
 cases q:h.get? b with
 |none=>rw[q]at e;cases e
 |some o=>
  rw[q]at e
  have e':(b,o)=p:=yaO e
  subst e'
  exact⟨hb,q⟩
theorem Inv.pinned {pins:List (Addr×Obj)} {σ:St} {H:Hp} {s:yab} {fp:List Addr} (I:Inv X pins σ H s) (hf:∀b∈fp,qeq X pins H b) (ho:∀b∈fp,∃o,s.heap.get? b=some o/\∀v,o.data ≠ .cell v):Inv X (pins++qb9 fp s.heap) σ H s :=
 I.pins_of λp hp=>(mA_.mp hp).elim (λz=>I.pin p (mr_ _ z)) λz=>by
  obtain⟨hb,e⟩:=qhb z
  obtain⟨f0,f1,f2,_⟩:=hf p.1 hb
  obtain⟨o,e',d⟩:=ho p.1 hb
  rw[e]at e';cases e'
  exact⟨e,f0,f1,f2,d⟩
theorem Inv.unpinned{pins pl:List (Addr×Obj)}{σ:St}{H:Hp}{s:yab}(I:Inv X (pins++pl) σ H s):Inv X pins σ H s:=I.pins_of λp hp=>I.pin p (mr_ _ (ybx _ hp))
theorem qnf {iter:Expr} {body:List Stmt} {wi:TI} {g:TG} {tb:TS} {pos:Pos} (hp:ye3 (model X.prog X.w) X.A X.env X.xe) (hc:X.calm=true) (hi:PI X tg iter wi) (hg:PG X tg g) (hb:PSs X body tb)
  (hs:∀x,ybS iter X.env x=pure x:=by intro _;rfl):PS X (.For tg iter body [] pos) (qqS wi g tb):=by
 intro pins s σ H D I h
 refine wpAny_For (thn (hi pins s σ H _ I h) λv s1 h1=>thn h1 λitv s2 h2=>?_) hs
 obtain⟨it,fp,tn,J,H2,e,I2,T,st2,f2,W,⟨m0,w0⟩,turn⟩:=h2
 subst e
 have stat:∀{H':Hp},(∀b∈fp,H' b=none)->∀b∈fp,qeq X pins H' b:=λhn b hb=>⟨hn b hb,(f2 b hb).2⟩
 refine codeAny_forLoop_any (λn s'=>∃i σ' H',Inv X pins σ' H' s'/\tn i s'.heap/\(∀b∈fp,H' b=none)/\W i n σ' H') ?_ m0 ⟨0,σ,H2,I2,st2,λb hb=>(f2 b hb).1,w0⟩
 rintro n s3 ⟨i,σ3,H3,I3,st3,fr3,w3⟩
 rcases turn i n σ3 H3 w3 with⟨stop,qn⟩|⟨go,N,hN,step⟩
 ·refine ybO hp (thn (T.done X rfl rfl rfl hc i pins s3 σ3 H3 X.xe I3 (stat fr3) st3 stop) λr s4 ⟨hr,I4⟩=>?_)
  subst hr
  exact ycw ⟨σ3,H3,I4,qn⟩
 ·refine ybO hp (thn (T.item X rfl rfl rfl hc i pins s3 σ3 H3 X.xe I3 (stat fr3) st3 go) λr s4 ⟨u,hr,h4⟩=>?_)
  subst hr
  refine ybO hp (thn h4 λ_ s5 ⟨x,H5,I5,r5,y5,st5,fr5⟩=>?_)
  have I5':=I5.pinned (stat fr5) (T.obj _ _ st5)
  refine ybO hp (thn (hg _ s5 σ3 H5 x u _ I5' r5 (step x H5 y5)) λ_ s6 ⟨σ6,H6,I6,q6⟩=>?_)
  refine ybO hp (thn (hb _ s6 σ6 H6 _ I6 q6) λf s7 q7=>?_)
  have again:∀{σ7:St}{H7:Hp},Inv X (pins++qb9 fp s5.heap) σ7 H7 s7->N σ7 H7->∃m,m<n/\∃i σ' H',Inv X pins σ' H' s7/\tn i s7.heap/\(∀b∈fp,H' b=none)/\W i m σ' H':=λ{σ7 H7} I7 n7=>by
   obtain⟨m',hm,w7⟩:=hN σ7 H7 n7
   refine⟨m',hm,i+1,σ7,H7,I7.unpinned,T.keep _ _ _ st5 λb hb o e=>(I7.pin (b,o) (mr_ _ (mr_ _ (yW hb e)))).1,λb hb=>?_,w7⟩
   obtain⟨o,e,d⟩:=T.obj _ _ st5 b hb
   exact(I7.pin (b,o) (mr_ _ (mr_ _ (yW hb e)))).2.1
  cases f with
  |next=>obtain⟨σ7,H7,I7,n7⟩:=q7;exact again I7 n7
  |cont=>obtain⟨σ7,H7,I7,n7⟩:=q7;exact again I7 n7
  |brk=>obtain⟨σ7,H7,I7,q7⟩:=q7;exact⟨σ7,H7,I7.unpinned,q7⟩
  |ret v=>obtain⟨x7,σ7,H7,I7,r7,q7⟩:=q7;exact⟨x7,σ7,H7,I7.unpinned,r7,q7⟩
end
end L2
namespace L2
open PySem PySem.Spec PyProof.Rows
abbrev R2:=V->V->Hp->VK->Prop
def OpR (X:Cx) (f:Value->Value->Sem Value) (r:R2):Prop :=
 ∀ (pins:List (Addr×Obj)) (s:yab) (σ:St) (H:Hp) (x y:V) (v u:Value) (Q:VK),Inv X pins σ H s->jG x v->jG y u->r x y H Q ->
  wpAny (model X.prog X.w) X.A (f v u) (EP X pins σ Q) X.xe s
def UnR (X:Cx) (f:Value->Sem Value) (r:V->Hp->VK->Prop):Prop :=
 ∀ (pins:List (Addr×Obj)) (s:yab) (σ:St) (H:Hp) (x:V) (v:Value) (Q:VK),Inv X pins σ H s->jG x v->r x H Q ->
  wpAny (model X.prog X.w) X.A (f v) (EP X pins σ Q) X.xe s
def yK (X:Cx) (f:Value) (r:List V->Hp->VK->Prop):Prop :=
 ∀ (pins:List (Addr×Obj)) (s:yab) (σ:St) (H:Hp) (xs:List V) (us:List Value) (Q:VK),Inv X pins σ H s->zt xs us->r xs H Q ->
  wpAny (model X.prog X.w) X.A (call f us) (EP X pins σ Q) X.xe s
def tOp(r:R2)(ta tb:TE):TE:=λσ H Q=>ta σ H λx H1=>tb σ H1 λy H2=>r x y H2 Q
def tUn(r:V->Hp->VK->Prop)(ta:TE):TE:=λσ H Q=>ta σ H λx H1=>r x H1 Q
def rI(C:Int->Int->Prop)(g:Int->Int->V):R2:=λx y H Q=>∃i j,x=.int i/\y=.int j/\C i j/\Q (g i j) H
def rI0(g:Int->Int->V):R2:=λx y H Q=>∃i j,x=.int i/\y=.int j/\Q (g i j) H
def rU(g:Int->V):V->Hp->VK->Prop:=λx H Q=>∃i,x=.int i/\Q (g i) H
section
variable{X:Cx}{a b c:Expr}{ta tb tc:TE}{pos:Pos}
theorem qpn (ha:PE X a ta) (hb:PE X b tb) {pins:List (Addr×Obj)} {s:yab} {σ:St} {H:Hp} {R:V->V->Hp->Prop} (I:Inv X pins σ H s)
  (h:ta σ H λx H1=>tb σ H1 λy H2=>R x y H2) {Q:Value->yab->Prop} {f:Value->Value->Sem Value}
  (hf:∀v u s2 x y H2,Inv X pins σ H2 s2->jG x v->jG y u->R x y H2->wpAny (model X.prog X.w) X.A (f v u) Q X.xe s2) :
  wpAny (model X.prog X.w) X.A (eval a X.env) (λv sK=>wpAny (model X.prog X.w) X.A (eval b X.env) (λu sQ=>wpAny (model X.prog X.w) X.A (f v u) Q X.xe sQ) X.xe sK) X.xe s:=by
 refine thn (ha pins s σ H _ I h) λv s1 ⟨x,H1,I1,r1,q1⟩=>?_
 refine thn (hb pins s1 σ H1 _ I1 q1) λu s2 ⟨y,H2,I2,r2,q2⟩=>?_
 exact hf v u s2 x y H2 I2 r1 r2 q2
theorem qpo {op:Operator} {r:R2} (ho:OpR X (ybq op) r) (ha:PE X a ta) (hb:PE X b tb):PE X (.BinOp a op b pos) (tOp r ta tb):=by
 intro pins s σ H Q I h
 exact wpAny_BinOp (qpn ha hb I h λv u s2 x y H2 I2 rx ry q=>ho pins s2 σ H2 x y v u Q I2 rx ry q)
theorem qpp {op:UnaryOp} {r:V->Hp->VK->Prop} (ho:UnR X (unaryOp op) r) (ha:PE X a ta):PE X (.UnaryOp op a pos) (tUn r ta):=by
 intro pins s σ H Q I h
 exact UnaryOp_ (thn (ha pins s σ H _ I h) λv s1 ⟨x,H1,I1,r1,q1⟩=>ho pins s1 σ H1 x v Q I1 r1 q1)
theorem opI {f:Value->Value->Sem Value} {C:Int->Int->Prop} {g:Int->Int->Int}
  (rule:∀(i j:Int)(t u:Tok)(s:yab)(Q:Value->yab->Prop)(E:Value->yab->Prop),C i j->Q (.int (g i j) s.toks) {s with toks:=s.toks+1}->wpAny (model X.prog X.w) X.A (f (.int i t) (.int j u)) Q E s) :
  OpR X f (rI C λi j => .int (g i j)):=by
 intro pins s σ H x y v u Q I rx ry h
 obtain⟨i,j,rfl,rfl,hc,q⟩:=h
 obtain⟨t,rfl⟩:=rx
 obtain⟨t',rfl⟩:=ry
 exact rule i j t t' s _ _ hc ⟨.int (g i j),H,I.tok _,⟨_,rfl⟩,q⟩
theorem qqa {f:Value->Value->Sem Value} {g:Int->Int->Int}
  (rule:∀(i j:Int)(t u:Tok)(s:yab)(Q:Value->yab->Prop)(E:Value->yab->Prop),Q (.int (g i j) s.toks) {s with toks:=s.toks+1}->wpAny (model X.prog X.w) X.A (f (.int i t) (.int j u)) Q E s) :
  OpR X f (rI0 λi j => .int (g i j)):=by
 intro pins s σ H x y v u Q I rx ry h
 obtain⟨i,j,rfl,rfl,q⟩:=h
 obtain⟨t,rfl⟩:=rx
 obtain⟨t',rfl⟩:=ry
 exact rule i j t t' s _ _ ⟨.int (g i j),H,I.tok _,⟨_,rfl⟩,q⟩
theorem qoX {f:Value->Value->Sem Value} {g:Int->Int->Bool}
  (rule:∀(i j:Int)(t u:Tok)(s:yab)(Q:Value->yab->Prop)(E:Value->yab->Prop),Q (.bool (g i j)) s->wpAny (model X.prog X.w) X.A (f (.int i t) (.int j u)) Q E s) :
  OpR X f (rI0 λi j => .bl (g i j)):=by
 intro pins s σ H x y v u Q I rx ry h
 obtain⟨i,j,rfl,rfl,q⟩:=h
 obtain⟨t,rfl⟩:=rx
 obtain⟨t',rfl⟩:=ry
 exact rule i j t t' s _ _ ⟨.bl (g i j),H,I,rfl,q⟩
def qng(i j:Int):Prop:=0<j/\j<1606938044258990275541962092341162602522202993782792835301376
theorem qqb {i j:Int} (h1:0<j) (h2:j<1606938044258990275541962092341162602522202993782792835301376):Builtin.divisionGoesByPylong i j=false:=by
 refine PyProof.noPylong_of_log2 ?_
 have h0:j.natAbs≠0:=by omega
 have h3:j.natAbs<2 ^ 200:=by
   have:(2:Nat) ^ 200=1606938044258990275541962092341162602522202993782792835301376:=by decide +kernel
   omega
 have:=(Nat.log2_lt h0).mpr h3
 omega
def qqc(i j:Int):Prop:=0<=j/\j<=1000000/\i.natAbs<2 ^ 64
def qnh(i j:Int):Prop:=(-(2 ^ 64)<i/\i<2 ^ 64)\/(-(2 ^ 64)<j/\j<2 ^ 64)
theorem qnh.ok {i j:Int} (h:qnh i j):IntMulOk i j:=by
 rcases h with⟨h1,h2⟩|⟨h1,h2⟩
 ·exact .of_left (intBits_le_64 h1 h2)
 ·exact .of_right (intBits_le_64 h1 h2)
theorem qni:OpR X (ybq .Add) (rI0 λi j => .int (i+j)):=qqa λ_ _ _ _ _ _ _ q=>add_int q
theorem qca:OpR X (ybq .Sub) (rI0 λi j => .int (i-j)):=qqa λ_ _ _ _ _ _ _ q=>sub_int q
theorem qnj:OpR X (ybq .Mult) (rI qnh λi j => .int (i*j)):=opI λ_ _ _ _ _ _ _ hc q=>mul_int q hc.ok
theorem v0:OpR X (ybq .FloorDiv) (rI qng λi j => .int (i/j)):=opI λi j _ _ _ _ _ hc q=>by
 have h1:(0:Int)<j:=hc.1
 have h2:j<1606938044258990275541962092341162602522202993782792835301376:=hc.2
 exact floordiv_int (by omega) (by rw[ydB i (by omega)];exact q) (.inl (qqb h1 h2))
theorem qdt:OpR X (ybq .Mod) (rI (λ_ j=>0<j) λi j => .int (i%j)):=opI λi j _ _ _ _ _ hc q=>by
 have h1:(0:Int)<j:=hc
 exact mod_int' (by omega) (by rw[ydC i (by omega)];exact q)
theorem qhc:OpR X (ybq .Pow) (rI qqc λi j => .int (i ^ j.toNat)):=opI λ_ _ _ _ _ _ _ hc q=>pow_int_small hc.1 hc.2.1 hc.2.2 q
theorem unI {f:Value->Sem Value} {g:Int->Int}
  (rule:∀(i:Int)(t:Tok)(s:yab)(Q:Value->yab->Prop)(E:Value->yab->Prop),Q (.int (g i) s.toks) {s with toks:=s.toks+1}->wpAny (model X.prog X.w) X.A (f (.int i t)) Q E s) :
  UnR X f (rU λi => .int (g i)):=by
 intro pins s σ H x v Q I rx h
 obtain⟨i,rfl,q⟩:=h
 obtain⟨t,rfl⟩:=rx
 exact rule i t s _ _ ⟨.int (g i),H,I.tok _,⟨_,rfl⟩,q⟩
theorem qnk:UnR X (unaryOp .USub) (rU λi => .int (-i)):=unI λ_ _ _ _ _ q=>neg_int q
end
def qpq:V->V->Bool
 |.non,.non=>true|.non,.int _=>true|.int _,.non=>true|.non,.bl _=>true|.bl _,.non=>true|.non,.str _=>true|.str _,.non=>true
 |.int _,.int _=>true|.bl _,.bl _=>true|.str _,.str _=>true|.byt _,.byt _=>true
 |.int _,.str _=>true|.str _,.int _=>true|.bl _,.str _=>true|.str _,.bl _=>true
 |_,_=>false
def rEq:R2:=λx y H Q=>qpq x y=true/\Q (.bl (decide (x=y))) H
def rNe:R2:=λx y H Q=>qpq x y=true/\Q (.bl (!decide (x=y))) H
theorem qhd {i j:Int}:decide (V.int i=V.int j)=(i==j):=by
 rw[yby]
 simp
theorem qkp {i j:Bool}:decide (V.bl i=V.bl j)=(i==j):=by
 rw[yby]
 simp
theorem qhe {i j:Str}:decide (V.str i=V.str j)=(i==j):=by
 rw[yby]
 simp
theorem qhf {i j:Array UInt8}:decide (V.byt i=V.byt j)=(i.toList==j.toList):=by
 rw[yby]
 cases i
 cases j
 simp
section
variable{X:Cx}{a b c:Expr}{ta tb tc:TE}{pos:Pos}
theorem zA {pins:List (Addr×Obj)} {σ:St} {H:Hp} {s:yab} {Q:VK} {k k':Bool} (I:Inv X pins σ H s) (q:Q (.bl k) H) (e:k=k'):EP X pins σ Q (.bool k') s:=by
 subst e
 exact⟨.bl k,H,I,rfl,q⟩
theorem qpr:OpR X (yaP .Eq) rEq:=by
 intro pins s σ H x y v u Q I rx ry h
 obtain⟨hs,q⟩:=h
 cases x with
 |non=>
  cases rx
  cases y with
  |non=>cases ry;exact PySem.EqNone.eq_none_none (zA I q (by simp))
  |bl j=>cases ry;exact PySem.EqNone.eq_none_bool (zA I q (by simp))
  |int j=>obtain⟨t',rfl⟩:=ry;exact PySem.EqNone.eq_none_int (zA I q (by simp))
  |str j=>obtain⟨t',rfl⟩:=ry;exact PySem.EqNone.eq_none_str (zA I q (by simp))
  |_=>exact absurd (show false=true from hs) yam
 |bl i=>
  cases rx
  cases y with
  |non=>cases ry;exact PySem.EqNone.eq_bool_none (zA I q (by simp))
  |bl j=>cases ry;exact eq_bool (zA I q qkp)
  |str j=>obtain⟨t',rfl⟩:=ry;exact PySem.EqMixed.eq_bool_str (zA I q (by simp))
  |_=>exact absurd (show false=true from hs) yam
 |int i=>
  obtain⟨t,rfl⟩:=rx
  cases y with
  |non=>cases ry;exact PySem.EqNone.eq_int_none (zA I q (by simp))
  |int j=>obtain⟨t',rfl⟩:=ry;exact eq_int (zA I q qhd)
  |str j=>obtain⟨t',rfl⟩:=ry;exact PySem.EqMixed.eq_int_str (zA I q (by simp))
  |_=>exact absurd (show false=true from hs) yam
 |str i=>
  obtain⟨t,rfl⟩:=rx
  cases y with
  |non=>cases ry;exact PySem.EqNone.eq_str_none (zA I q (by simp))
  |bl j=>cases ry;exact PySem.EqMixed.eq_str_bool (zA I q (by simp))
  |int j=>obtain⟨t',rfl⟩:=ry;exact PySem.EqMixed.eq_str_int (zA I q (by simp))
  |str j=>obtain⟨t',rfl⟩:=ry;exact eq_str (zA I q qhe)
  |_=>exact absurd (show false=true from hs) yam
 |byt i=>
  obtain⟨t,rfl⟩:=rx
  cases y with
  |byt j=>obtain⟨t',rfl⟩:=ry;exact PySem.W.eq_bytes (zA I q qhf)
  |_=>exact absurd (show false=true from hs) yam
 |_=>cases y<;>exact absurd (show false=true from hs) yam
theorem qnl:OpR X (yaP .NotEq) rNe:=by
 intro pins s σ H x y v u Q I rx ry h
 obtain⟨hs,q⟩:=h
 cases x with
 |non=>
  cases rx
  cases y with
  |non=>cases ry;exact PySem.EqNone.ne_none_none (zA I q (by simp))
  |bl j=>cases ry;exact PySem.EqNone.ne_none_bool (zA I q (by simp))
  |int j=>obtain⟨t',rfl⟩:=ry;exact PySem.EqNone.ne_none_int (zA I q (by simp))
  |str j=>obtain⟨t',rfl⟩:=ry;exact PySem.EqNone.ne_none_str (zA I q (by simp))
  |_=>exact absurd (show false=true from hs) yam
 |bl i=>
  cases rx
  cases y with
  |non=>cases ry;exact PySem.EqNone.ne_bool_none (zA I q (by simp))
  |bl j=>cases ry;exact ne_bool (zA I q (congrArg not qkp))
  |str j=>obtain⟨t',rfl⟩:=ry;exact PySem.EqMixed.ne_bool_str (zA I q (by simp))
  |_=>exact absurd (show false=true from hs) yam
 |int i=>
  obtain⟨t,rfl⟩:=rx
  cases y with
  |non=>cases ry;exact PySem.EqNone.ne_int_none (zA I q (by simp))
  |int j=>obtain⟨t',rfl⟩:=ry;exact ne_int (zA I q (congrArg not qhd))
  |str j=>obtain⟨t',rfl⟩:=ry;exact PySem.EqMixed.ne_int_str (zA I q (by simp))
  |_=>exact absurd (show false=true from hs) yam
 |str i=>
  obtain⟨t,rfl⟩:=rx
  cases y with
  |non=>cases ry;exact PySem.EqNone.ne_str_none (zA I q (by simp))
  |bl j=>cases ry;exact PySem.EqMixed.ne_str_bool (zA I q (by simp))
  |int j=>obtain⟨t',rfl⟩:=ry;exact PySem.EqMixed.ne_str_int (zA I q (by simp))
  |str j=>obtain⟨t',rfl⟩:=ry;exact ne_str (zA I q (congrArg not qhe))
  |_=>exact absurd (show false=true from hs) yam
 |byt i=>
  obtain⟨t,rfl⟩:=rx
  cases y with
  |byt j=>obtain⟨t',rfl⟩:=ry;exact PySem.W.ne_bytes (zA I q (congrArg not qhf))
  |_=>exact absurd (show false=true from hs) yam
 |_=>cases y<;>exact absurd (show false=true from hs) yam
theorem qhg:OpR X (yaP .Lt) (rI0 λi j => .bl (decide (i<j))):=qoX λ_ _ _ _ _ _ _ q=>lt_int q
theorem qlo:OpR X (yaP .LtE) (rI0 λi j => .bl (decide (i<=j))):=qoX λ_ _ _ _ _ _ _ q=>le_int q
theorem qi9:OpR X (yaP .Gt) (rI0 λi j => .bl (decide (j<i))):=qoX λ_ _ _ _ _ _ _ q=>gt_int q
theorem qgk:OpR X (yaP .GtE) (rI0 λi j => .bl (decide (j<=i))):=qoX λ_ _ _ _ _ _ _ q=>ge_int q
theorem qkq:OpR X (yaP .Is) (λx y H Q=>y=.non/\Q (.bl (decide (x=.non))) H):=by
 intro pins s σ H x y v u Q I rx ry h
 obtain⟨rfl,q⟩:=h
 cases ry
 refine is_none_gen (zA I q ?_)
 cases x<;>first
  |(cases rx;rfl)
  |(obtain⟨t,rfl⟩:=rx;rfl)
theorem qlp:OpR X (yaP .IsNot) (λx y H Q=>y=.non/\Q (.bl (!decide (x=.non))) H):=by
 intro pins s σ H x y v u Q I rx ry h
 obtain⟨rfl,q⟩:=h
 cases ry
 refine isnot_none_gen (zA I q ?_)
 cases x<;>first
  |(cases rx;rfl)
  |(obtain⟨t,rfl⟩:=rx;rfl)
theorem OpR.or {f:Value->Value->Sem Value} {r r':R2} (h:OpR X f r) (h':OpR X f r'):OpR X f (λx y H Q=>r x y H Q\/r' x y H Q):=by
 intro pins s σ H x y v u Q I rx ry q
 rcases q with q|q
 ·exact h pins s σ H x y v u Q I rx ry q
 ·exact h' pins s σ H x y v u Q I rx ry q
theorem zb (b:Expr) {op:CmpOp} (h:op ≠ .In:=by decide) (h2:op ≠ .NotIn:=by decide):ybE op b=false:=by
 have e1:(op==CmpOp.In)=false:=by cases op<;>first|rfl|exact absurd rfl h
 have e2:(op==CmpOp.NotIn)=false:=by cases op<;>first|rfl|exact absurd rfl h2
 cases b<;>simp[ybE,e1,e2]
theorem qlq {op:CmpOp} {r:R2} (ho:OpR X (yaP op) r) (ha:PE X a ta) (hb:PE X b tb) (hm:ybE op b=false):PE X (.Compare a [op] [b] pos) (tOp r ta tb):=by
 intro pins s σ H Q I h
 exact wpAny_Compare1 (qpn ha hb I h λv u s2 x y H2 I2 rx ry q=>ho pins s2 σ H2 x y v u Q I2 rx ry q) hm
def qps(t:TE):TT:=λσ H Q=>t σ H λx H'=>∃k,x=.bl k/\Q k H'
theorem qhh {op:CmpOp} {r:R2} (ho:OpR X (yaP op) r) (ha:PE X a ta) (hb:PE X b tb) (hm:ybE op b=false):PT X (.Compare a [op] [b] pos) (qps (tOp r ta tb)):=by
 intro pins s σ H Q I h
 refine yep (thn (ha pins s σ H _ I h) λv s1 ⟨x,H1,I1,r1,q1⟩=>thn (hb pins s1 σ H1 _ I1 q1) λu s2 ⟨y,H2,I2,r2,q2⟩=>
  thn (ho pins s2 σ H2 x y v u _ I2 r1 r2 q2) λc s3 ⟨z,H3,I3,r3,k,e,q3⟩=>?_) hm
 subst e
 cases r3
 exact ybB ⟨H3,I3,q3⟩
theorem qdu:(yat:Nat)<2 ^ 63:=by rw[yaV];decide
theorem qgl:OpR X (ybq .Add) (λx y H Q=>∃i j,x=.str i/\y=.str j/\i.length+j.length<=yat/\Q (.str (i++j)) H):=by
 intro pins s σ H x y v u Q I rx ry h
 obtain⟨i,j,rfl,rfl,hz,q⟩:=h
 obtain⟨t,rfl⟩:=rx
 obtain⟨t',rfl⟩:=ry
 exact add_str (λt' tk=>⟨.str (i++j),H,I.tok _,⟨_,rfl⟩,q⟩) hz
theorem qew {x:V} {us:List Value} (r:zt [x] us):∃u,us=[u]/\jG x u:=by
 cases r with
 |cons r1 r2=>cases r2;exact⟨_,rfl,r1⟩
theorem qlr {x y:V} {us:List Value} (r:zt [x,y] us):∃u w',us=[u,w']/\jG x u/\jG y w':=by
 cases r with
 |cons r1 r2=>
  cases r2 with
  |cons r3 r4=>cases r4;exact⟨_,_,rfl,r1,r3⟩
theorem qja:yK X (.builtin "abs") (λxs H Q=>∃i,xs=[.int i]/\Q (.int (if i<0 then -i else i)) H):=by
 intro pins s σ H xs us Q I r h
 obtain⟨i,rfl,q⟩:=h
 obtain⟨u,rfl,t,rfl⟩:=qew r
 exact call_abs_int λu tk=>⟨.int (if i<0 then -i else i),H,I.tok _,⟨_,rfl⟩,q⟩
theorem qhi (hc:X.calm=true):yK X (.builtin "max") (λxs H Q=>∃i j,xs=[.int i,.int j]/\Q (.int (if j>i then j else i)) H):=by
 intro pins s σ H xs us Q I r h
 obtain⟨i,j,rfl,q⟩:=h
 obtain⟨u,w',rfl,⟨t,rfl⟩,⟨t',rfl⟩⟩:=qlr r
 refine max_two_ints (I.ok.hd hc) λh' tk k=>⟨_,H,I.kept k,?_,q⟩
 by_cases hj:j>i
 ·rw[if_pos hj,if_pos hj];exact⟨_,rfl⟩
 ·rw[if_neg hj,if_neg hj];exact⟨_,rfl⟩
theorem qaY (hc:X.calm=true):yK X (.builtin "min") (λxs H Q=>∃i j,xs=[.int i,.int j]/\Q (.int (if j<i then j else i)) H):=by
 intro pins s σ H xs us Q I r h
 obtain⟨i,j,rfl,q⟩:=h
 obtain⟨u,w',rfl,⟨t,rfl⟩,⟨t',rfl⟩⟩:=qlr r
 refine min_two_ints (I.ok.hd hc) λh' tk k=>⟨_,H,I.kept k,?_,q⟩
 by_cases hj:j<i
 ·rw[if_pos hj,if_pos hj];exact⟨_,rfl⟩
 ·rw[if_neg hj,if_neg hj];exact⟨_,rfl⟩
theorem qhj:yK X (.type "int") (λxs H Q=>(∃i,xs=[.int i]/\Q (.int i) H)\/∃k,xs=[.bl k]/\Q (.int (if k then 1 else 0)) H):=by
 intro pins s σ H xs us Q I r h
 rcases h with⟨i,rfl,q⟩|⟨k,rfl,q⟩
 ·obtain⟨u,rfl,t,rfl⟩:=qew r
  exact call_int_int ⟨.int i,H,I,⟨_,rfl⟩,q⟩
 ·obtain⟨u,rfl,r1⟩:=qew r
  cases r1
  exact call_int_bool ⟨.int (if k then 1 else 0),H,I.tok _,⟨_,rfl⟩,q⟩
theorem qex:yK X (.builtin "divmod") (λxs H Q=>∃i j,xs=[.int i,.int j]/\qng i j/\∀p,H p=none->Q (.ref p) (upd H p (.tup [.int (i/j),.int (i%j)]))):=by
 intro pins s σ H xs us Q I r h
 obtain⟨i,j,rfl,⟨h1,h2⟩,q⟩:=h
 obtain⟨u,w',rfl,⟨t,rfl⟩,⟨t',rfl⟩⟩:=qlr r
 refine divmod_int (by omega) ?_ (.inl (qqb h1 h2))
 rw[ydB i (by omega),ydC i (by omega)]
 have hn:H s.heap.objs.size=none:=I.hok.fresh (yad _)
 refine⟨.ref s.heap.objs.size,_,?_,rfl,q _ hn⟩
 refine I.laid (λb o e=>Heap.get?_push_of_some _ e) (yad _) ⟨by simp only[lC_,lN_];rw[yaV];decide,[.int (i/j) s.toks,.int (i%j) (s.toks+1)],.cons ⟨_,rfl⟩ (.cons ⟨_,rfl⟩ .nil),?_⟩
 exact⟨_,Heap.get?_push_size s.heap rfl,rfl,0,rfl⟩
end
end L2
namespace L2
open PySem PySem.Spec PyProof.Rows
structure qpt (h:Heap) (x dx C:Addr) (mA:Str->Option Value):Prop where
 obj:h.get? x=some (yec C dx)
 ns:h.Ns1 dx mA
 ne:dx≠x
theorem qhk {h:Heap} {dx:Addr} {mA:Str->Option Value} (n:h.Ns1 dx mA):∃od,h.get? dx=some od/\∀name,yer name od=some (mA name):=by
 obtain⟨o,es,ep,ho,hd,hk,_,hm⟩:=n
 refine⟨o,ho,λname=>?_⟩
 have e:=hm name
 unfold nsFind findBy at e
 rw[<-Array.find?_toList]at e
 unfold yer
 rw[hd]
 dsimp only
 split
 ·rename_i y q
  rw[q]at e
  exact congrArg some e
 ·rename_i q
  rw[q]at e
  have a:es.toList.any (·.refKey)=false:=by
   rw[ydM]
   intro y hy
   obtain⟨z,t,hkey⟩:=hk y (Array.mem_toList_iff.mp hy)
   simp[DictEntry.refKey,hkey]
  have a':¬es.toList.any (·.refKey)=true:=by rw[a];exact yam
  rw[if_neg a']
  exact congrArg some e
theorem qpt.look {h:Heap} {x dx C:Addr} {mA:Str->Option Value} (I:qpt h x dx C mA):∃od,PySem.W.InstAt h x (yec C dx) C (some od)/\∀name,yer name od=some (mA name) :=
 let ⟨od,ho,hl⟩:=qhk I.ns
 ⟨od,⟨I.obj,rfl,rfl,ho⟩,hl⟩
section
variable{prog:yas}{w:World}{A:yav}{E:Value->yab->Prop}{s:yab}{K:yaf}{x dx C f:Addr}{mA:Str->Option Value}{name:Str}{v:Value}
end
def qqT (f:Str) (v:V):List (Str×V)->List (Str×V)
 | []=>[(f,v)]
 |(g,x)::r=>if g=f then(g,v)::r else(g,x)::qqT f v r
section
variable{P:yas}{w:World}{H H':Hp}{h h':Heap}{a C dx:Addr}{fs fs':List (Str×V)}
theorem qls (hok:HOk P w H h) (e:H a=some (.ins C dx fs)):∃mA,qpt h a dx C mA/\(∀f,qpb (fs.lookup f) (mA f))/\PySem.Within mA (fs.map (·.1))/\fs.length<=1000/\H dx=some (.own a):=by
 obtain⟨d,z,ne,ob,mA,n,r,q⟩:=(show yU P w H h a (.ins C dx fs)from hok a _ e)
 exact⟨mA,⟨ob,n,ne⟩,r,q,z,d⟩
end
structure Cls (K:yaf) (C:Addr):Prop where
 pg:PySem.W.plainGet K C Str.empty=true
 hd:PySem.W.hasDictIn K C=true
 po:PySem.W.plainOver K C=true
 sa:ybF K (.ref C) "__setattr__"=some (some (.builtin "object.__setattr__"))
theorem Cls.get{K:yaf}{C:Addr}(c:Cls K C)(f:Str):PySem.W.plainGet K C f=true:=c.pg
structure Con (K:yaf) (C:Addr) (f:Str) (v:V) (u:Value):Prop where
 at_:ybF K (.ref C) f=some (some u)
 rel:jG v u
 get:yft K u "__get__"=some none
 cp:PySem.W.copiedNames.contains f=false
structure qrf (K:yaf) (C:Addr) (m:Str) (f:Addr):Prop where
 at_:ybF K (.ref C) m=some (some (.ref f))
 fn:PySem.W.isFn K (.ref f)=true
 kp:yaj K (.ref f)=true
section
variable{X:Cx}{pins:List (Addr×Obj)}{σ:St}{H:Hp}{s:yab}{a C dx:Addr}{fs:List (Str×V)}{f:Str}{v:V}{A:yav}{E:Value->yab->Prop}
end
section
variable{X:Cx}{o e value:Expr}{f:Str}{pos pos' tpos:Pos}{ta tv:TE}
end
section
variable{X:Cx}{pins:List (Addr×Obj)}{σ:St}{H:Hp}{s:yab}{A:yav}{E:Value->yab->Prop}{Q:Value->yab->Prop}{c:Value}{b:Bool}
inductive qg1 (K:yaf) (H:Hp):V->Value->Prop where
 |non:qg1 K H .non (.type "NoneType")
 |bl (x:Bool):qg1 K H (.bl x) (.type "bool")
 |int (i:Int):qg1 K H (.int i) (.type "int")
 |str (x:Str):qg1 K H (.str x) (.type "str")
 |flt (x:UInt64):qg1 K H (.flt x) (.type "float")
 |lst {a:Addr} {xs:List V} (e:H a=some (.lst xs)):qg1 K H (.ref a) (.type "list")
 |frz {a:Addr} {o:Obj} {xs:List V} (e:H a=some (.frz o (.lst xs))):qg1 K H (.ref a) (.type "list")
 |tup {a:Addr} {xs:List V} (e:H a=some (.tup xs)):qg1 K H (.ref a) (.type "tuple")
 |dK {a:Addr} {kvs:List (Key×V)} (e:H a=some (.dK kvs)):qg1 K H (.ref a) (.type "dict")
 |dT {a:Addr} {kvs:List (List Key×V)} (e:H a=some (.dT kvs)):qg1 K H (.ref a) (.type "dict")
 | ins {a C dx:Addr} {fs:List (Str×V)} (e:H a=some (.ins C dx fs)) (cl:Cls K C) (ha:ybF K (.ref C) "__class__"=some (some (.builtin "object.__class__")))
   (hn:yft K (.builtin "object.__class__") "__get__"=some (some (.builtin "getset_descriptor.__get__"))) (htk:PySem.W.takesIn K (.builtin "object.__class__")=some true)
   (hm:PySem.W.mroIn K C (.type "object")=some true):qg1 K H (.ref a) (.ref C)
theorem uI {x:V} {u t:Value} (I:Inv X pins σ H s) (rx:jG x u) (ty:qg1 X.K H x t) (e:yes X.K t c=some b) (h:∀tk,Q (.bool b) {s with toks:=tk}) :
  wpAny (model X.prog X.w) A (call (.builtin "isinstance") [u,c]) Q E s:=by
 cases ty with
 |non=>cases (show u=yaG from rx);exact yaY PySem.W.kitx_none I.kIn yb4 e (λz=>nomatch z) h
 |bl y=>cases (show u=ybd y from rx);exact yaY PySem.W.kitx_bool I.kIn yb4 e (λz=>nomatch z) h
 |int i=>obtain⟨t,q⟩:=(show ∃t,u=yb2 i t from rx);cases q;exact yaY PySem.W.kitx_int I.kIn yb4 e (λz=>nomatch z) h
 |str y=>obtain⟨t,q⟩:=(show ∃t,u=Value.str y t from rx);cases q;exact yaY PySem.W.kitx_str I.kIn yb4 e (λz=>nomatch z) h
 |flt y=>obtain⟨t,q⟩:=(show ∃t,u=Value.float y t from rx);cases q;exact yaY PySem.W.kitx_float I.kIn yb4 e (λz=>nomatch z) h
 | @lst a xs ea=>
  cases (show u=yaq a from rx)
  obtain⟨_,_,n,_,h1⟩:=(show yU X.prog X.w H s.heap a (.lst xs)from I.hok a _ ea)
  exact yaY ydN I.kIn ⟨_,h1,rfl⟩ e (λz=>nomatch z) h
 | @frz a ob xs ea=>
  cases (show u=yaq a from rx)
  obtain⟨_,_,_,n,_,h1⟩:=(show yU X.prog X.w H s.heap a (.frz ob (.lst xs))from I.hok a _ ea)
  exact yaY ydN I.kIn ⟨_,h1,rfl⟩ e (λz=>nomatch z) h
 | @tup a xs ea=>
  cases (show u=yaq a from rx)
  obtain⟨_,_,_,p⟩:=(show yU X.prog X.w H s.heap a (.tup xs)from I.hok a _ ea)
  obtain⟨o,h1,h2,_⟩:=p
  exact yaY ye5 I.kIn ⟨o,h1,h2⟩ e (λz=>nomatch z) h
 | @dK a kvs ea=>
  cases (show u=yaq a from rx)
  obtain⟨_,_,vs,_,p⟩:=(show yU X.prog X.w H s.heap a (.dK kvs)from I.hok a _ ea)
  obtain⟨o,es,ep,h1,h2,_⟩:=p
  exact yaY yfu I.kIn ⟨o,h1,h2.1⟩ e (λz=>nomatch z) h
 | @dT a kvs ea=>
  cases (show u=yaq a from rx)
  obtain⟨_,_,xs,_,o,es,ep,h1,h2,_⟩:=(show yU X.prog X.w H s.heap a (.dT kvs)from I.hok a _ ea)
  exact yaY yfu I.kIn ⟨o,h1,h2.1⟩ e (λz=>nomatch z) h
 | @ins a C dx fs ea cl ha hn htk hm=>
  cases (show u=yaq a from rx)
  obtain⟨mA,O,_⟩:=qls I.hok ea
  obtain⟨od,J,_⟩:=O.look
  exact yaY (PySem.W.kitx_own (cl.get _) cl.hd ha hn htk hm) I.kIn J e (λz=>nomatch z) h
end
end L2
namespace L2
open PySem PySem.Spec PyProof.Rows
structure yz (k:Nat) (A:yav):Prop where
 hd:A.handled=none
 dp:A.depth+3*k+5<ydk
 un:A.units+16*k+200<cLine
 gd:A.guards=some []
theorem yz.mono{j k:Nat}{A:yav}(r:yz k A)(h:j<=k):yz j A:=⟨r.hd,by have:=r.dp;omega,by have:=r.un;omega,r.gd⟩
theorem yz.deeper {k:Nat} {A:yav} (r:yz (k+1) A) (env:Env):yz k (A.deeper env) :=
 ⟨r.hd,by have:=r.dp;show A.depth+1+3*k+5<_;omega,by have:=r.un;show A.units+3+16*k+200<_;omega,r.gd⟩
theorem yz.in1 {k:Nat} {A:yav} (r:yz (k+1) A):yz k A.in1 :=
 ⟨r.hd,by have:=r.dp;show A.depth+3*k+5<_;omega,by have:=r.un;show A.units+1+16*k+200<_;omega,r.gd⟩
theorem yz.depth{k:Nat}{A:yav}(r:yz k A):A.depth<ydk:=by have:=r.dp;omega
theorem yz.units{k:Nat}{A:yav}(r:yz k A):A.units+64<cLine:=by have:=r.un;omega
theorem yz.units0{k:Nat}{A:yav}(r:yz k A):A.units<cLine:=by have:=r.un;omega
def qpu:TA:=λ_ H Q=>Q [] H
def qjb(ta:TE)(tr:TA):TA:=λσ H Q=>ta σ H λx H1=>tr σ H1 λxs H2=>Q (x::xs) H2
section
variable{X:Cx}{e:Expr}{es:List Expr}{te:TE}{t:TA}{pos:Pos}
theorem vv:PA X [] qpu:=λ_ _ _ _ H Q I h=>Calls.spliced_nil ⟨[],H,I,.nil,h⟩
theorem jH (ha:PE X e te) (hr:PA X es t) (hs:yac (e::es) X.env=(false,eval e X.env)::yac es X.env:=by rfl):PA X (e::es) (qjb te t):=by
 intro pos pins s σ H Q I h
 rw[hs]
 show wpAny _ _ (spliced ((false,eval e X.env)::yaN pos (yac es X.env))) _ _ s
 refine Calls.spliced_cons (thn (ha pins s σ H _ I h) λu s1 ⟨x,H1,I1,r1,q1⟩=>?_)
 exact thn (hr pos pins s1 σ H1 _ I1 q1) λus s2 ⟨xs,H2,I2,r2,q2⟩=>⟨x::xs,H2,I2,.cons r1 r2,q2⟩
def qqU(t:TA):TE:=λσ H Q=>t σ H λxs H1=>xs.length<=yat/\∀p,H1 p=none->Q (.ref p) (upd H1 p (.tup xs))
def qqV(t:TA):TE:=λσ H Q=>t σ H λxs H1=>xs.length<=yat/\∀p,H1 p=none->Q (.ref p) (upd H1 p (.lst xs))
theorem qnm {x1} (h:PA X es t):PE X (.Tuple es x1 pos) (qqU t):=by
 intro pins s σ H Q I hq
 refine wpAny_Tuple_spliced (thn (h pos pins s σ H _ I hq) λus s1 ⟨xs,H1,I1,r,z,q⟩=>⟨by rw[<-r.length];exact z,?_⟩)
 have hf:H1 s1.heap.objs.size=none:=I1.hok.fresh (yad _)
 refine⟨.ref s1.heap.objs.size,upd H1 s1.heap.objs.size (.tup xs),I1.laid (t':=s1.toks) (λb u e=>Heap.get?_push_of_some _ e) (yad _) ?_,rfl,q _ hf⟩
 exact⟨z,us,r,⟨_,Heap.get?_push_size _ rfl,rfl,_,rfl⟩⟩
theorem qkr (h:PA X es t):PE X (.List es pos) (qqV t):=by
 intro pins s σ H Q I hq
 refine wpAny_List_spliced (thn (h pos pins s σ H _ I hq) λus s1 ⟨xs,H1,I1,r,z,q⟩=>⟨by rw[<-r.length];exact z,?_⟩)
 have hf:H1 s1.heap.objs.size=none:=I1.hok.fresh (yad _)
 refine⟨.ref s1.heap.objs.size,upd H1 s1.heap.objs.size (.lst xs),I1.laid (t':=s1.toks) (λb u e=>Heap.get?_push_of_some _ e) (yad _) ?_,rfl,q _ hf⟩
 exact⟨z,us,0,r,Heap.get?_push_size _ rfl⟩
end
abbrev Sp:=List V->Hp->VK->XK->Prop
abbrev CXT:=List Env->Hp->yab->XK->Value->yab->Prop
structure qiV (P:yas) (w:World) (K:yaf) (mg:Str->Option Value) (base:Heap) (A:yav) (outer:List Env) (s:yab) (H:Hp):Prop where
 frames:A.frames=some outer
 mod:Mod K mg base
 bs:∀b o,base.get? b=some o->s.heap.get? b=some o/\H b=none
 bsz:base.objs.size<=s.heap.objs.size
 funs:s.heap.FunFrames base outer
 frf:∀b∈frs outer,H b=none
 hok:HOk P w H s.heap
 bare:ycs s.gens
def CE (outer:List Env) (P:yas) (w:World) (H:Hp) (s:yab) (Q:VK) (u:Value) (s':yab):Prop :=
 ∃v H',s'.os=s.os/\ycs s'.gens/\Un (frs outer) [] H H' s.heap s'.heap/\HOk P w H' s'.heap/\jG v u/\Q v H'
def CR (CX:CXT) (outer:List Env) (P:yas) (w:World) (H:Hp) (s:yab) (Q:VK) (E:XK) (r:ye6) (s':yab):Prop :=
 match r with
 |.ok (.ret u)=>CE outer P w H s Q u s'
 |.ok _=>False
 |.error e=>CX outer H s E e s'
structure vp (P:yas) (w:World) (K:yaf) (mg:Str->Option Value) (base:Heap) (CX:CXT) (k:Nat) (f:Addr) (fd:yaS) (ps:List Str) (sp:Sp):Prop where
 len:∀vs H Q E,sp vs H Q E->vs.length=ps.length
 run:∀(A:yav)(outer:List Env)(s:yab)(H:Hp)(args:Args)(us:List Value)(vs:List V)(Q:VK)(E:XK),yz k A->qiV P w K mg base A outer s H->ydW s fd args (ps.zip us)->zt vs us->sp vs H Q E ->
  ycf (model P w) A (.call (.ref f) args) (CR CX outer P w H s Q E) s
theorem vp.mono {P:yas} {w:World} {K:yaf} {mg:Str->Option Value} {base:Heap} {CX:CXT} {j k:Nat} {f:Addr} {fd:yaS} {ps:List Str} {sp:Sp} (F:vp P w K mg base CX j f fd ps sp) (h:j<=k) :
  vp P w K mg base CX k f fd ps sp:=⟨F.len,λA outer s H args us vs Q E hr=>F.run A outer s H args us vs Q E (hr.mono h)⟩
theorem qiV.in1 {P:yas} {w:World} {K:yaf} {mg:Str->Option Value} {base:Heap} {A:yav} {outer:List Env} {s:yab} {H:Hp} (e:qiV P w K mg base A outer s H) :
  qiV P w K mg base A.in1 outer s H:=⟨e.frames,e.mod,e.bs,e.bsz,e.funs,e.frf,e.hok,e.bare⟩
section
variable{X:Cx}{pins:List (Addr×Obj)}{σ:St}{H:Hp}{s s':yab}
theorem Inv.env0 (I:Inv X pins σ H s):qiV X.prog X.w X.K X.mg X.base X.A X.stack s H :=
 ⟨I.ok.frames,I.ok.mod,I.bs,yaA I.ok.bsz I.sz,I.stack,I.stkFree,I.hok,I.bare⟩
theorem Inv.after {Q:VK} {u:Value} (I:Inv X pins σ H s) (h:CE X.stack X.prog X.w H s Q u s'):EP X pins σ Q u s':=by
 obtain⟨v,H',os,bare,un,hok,r,q⟩:=h
 obtain⟨hh,g,d,t,os'⟩:=s'
 obtain rfl:os'=s.os:=os
 exact⟨v,H',I.call (h':=hh) (g':=g) (d':=d) (t':=t) (ch:=[]) un hok bare (λb z=>absurd z (by simp)),r,q⟩
end
def qpv(sp:Sp)(dvs:List V)(E:XK)(t:TA):TE:=λσ H Q=>t σ H λvs H1=>sp (vs++dvs) H1 Q E
def vj (K:yaf) (fd:yaS) (ps:List Str) (ds:List Value):Prop :=
 ∀(s:yab)(us:List Value),K.In s.heap->(us++ds).length=ps.length->ydW s fd ⟨us,[]⟩ (ps.zip (us++ds))
theorem vj.all {K:yaf} {fd:yaS} {ps:List Str} (h:∀us:List Value,us.length=ps.length->bindArgs fd ⟨us,[]⟩=pure (ps.zip us)):vj K fd ps []:=λs us _ hl=>by
 rw[yaZ]at hl |-
 exact .of_eq (h us hl)
def qaZ(CX:CXT)(X:Cx)(E:XK):Prop:=∀(pins:List (Addr×Obj))(σ:St)(H:Hp)(s:yab)(e:Value)(s':yab),Inv X pins σ H s->CX X.stack H s E e s'->X.xe e s'
section
variable{X:Cx}{CX:CXT}{k:Nat}{f C:Addr}{fd:yaS}{ps:List Str}{sp:Sp}{dvs:List V}{ds:List Value}{E:XK}{x m:Str}{p pos apos:Pos}{e o:Expr}{es:List Expr}{ta:TE}{t:TA}
theorem qnn {pins:List (Addr×Obj)} {σ:St} {H:Hp} {s:yab} {Q:VK} {us:List Value} {vs:List V} (F:vp X.prog X.w X.K X.mg X.base CX k f fd ps sp) (hr:yz k X.A) (hb:vj X.K fd ps ds) (hd:zt dvs ds) (hx:qaZ CX X E)
  (I:Inv X pins σ H s) (r:zt vs us) (h:sp (vs++dvs) H Q E):wpAny (model X.prog X.w) X.A (call (.ref f) us) (EP X pins σ Q) X.xe s:=by
 have r2:zt (vs++dvs) (us++ds):=r.append hd
 have hl:(us++ds).length=ps.length:=by rw[<-r2.length];exact F.len _ _ _ _ h
 refine yfN (yc6 (F.run X.A X.stack s H ⟨us,[]⟩ (us++ds) (vs++dvs) Q E hr I.env0 (hb s us I.kIn hl) r2 h) λr s' hq=>?_)
 cases r with
 |error e=>exact hx pins σ H s e s' I hq
 |ok fl=>
  cases fl with
  |ret u=>exact I.after hq
  |next=>exact yaT hq
  |brk=>exact yaT hq
  |cont=>exact yaT hq
theorem qa0 (F:vp X.prog X.w X.K X.mg X.base CX k f fd ps sp) (hr:yz k X.A) (hg:Gl X x) (hm:X.mg x=some (.ref f)) (hk:yaj X.K (.ref f)=true) (hb:vj X.K fd ps ds) (hd:zt dvs ds) (hx:qaZ CX X E)
  (ha:PA X (e::es) t) (hdb:(x==("__debug__":Str))=false:=by decide) (he:yac (e::es) X.env=(false,eval e X.env)::yac es X.env:=by rfl) (hpl:(yaN pos (yac es X.env)).any (·.1)=false:=by rfl) :
  PE X (.Call (.Name x p) (e::es) [] pos) (qpv sp dvs E t):=by
 intro pins s σ H Q I h
 refine yb5 (qcz I hg hm ?_ hdb)
 refine ye7 (h₀:=X.base) I.ok.mod.kin hk (thn (ha pos pins s σ H _ I h) λus s1 ⟨vs,H1,I1,r,q⟩=>⟨I1.kIn,?_⟩) he hpl
 exact qnn F hr hb hd hx I1 r q
structure Mk (K:yaf) (C f:Addr):Prop where
 makes:PySem.W.makesIn K C=true
 init:ybF K (.ref C) "__init__"=some (some (.ref f))
 fn:PySem.W.isFn K (.ref f)=true
 kp:yaj K (.ref C)=true
end
def PK (X:Cx) (kws:List yct) (t:TA):Prop :=
 ∀(pos:Pos)(pins:List (Addr×Obj))(s:yab)(σ:St)(H:Hp)(Q:List V->Hp->Prop),Inv X pins σ H s->t σ H Q->wpAny (model X.prog X.w) X.A (evalAll ((yck pos (ybH kws X.env)).map (·.2))) (AP X pins σ Q) X.xe s
section
variable{X:Cx}{CX:CXT}{k:Nat}{f C:Addr}{fd:yaS}{ps ks:List Str}{sp:Sp}{E:XK}{x m:Str}{p pos apos kpos:Pos}{e o:Expr}{es:List Expr}{kws:List yct}{te ta:TE}{t tk:TA}{nm:Option Str}
theorem qno:PK X [] qpu:=λ_ _ _ _ H Q I h=>wpAny_evalAll_nil ⟨[],H,I,.nil,h⟩
theorem qlt (ha:PE X e te) (hr:PK X kws t):PK X (⟨nm,e,kpos⟩::kws) (qjb te t):=by
 intro pos pins s σ H Q I h
 show wpAny _ _ (evalAll ((do let v <-eval e X.env;yfp pos;pure v)::(yck pos (ybH kws X.env)).map (·.2))) _ _ s
 refine wpAny_evalAll_cons (yaa (thn (ha pins s σ H _ I h) λu s1 ⟨x,H1,I1,r1,q1⟩=>yaa (yb1 (yah ?_))))
 exact thn (hr pos pins s1 σ H1 _ I1 q1) λus s2 ⟨xs,H2,I2,r2,q2⟩=>⟨x::xs,H2,I2,.cons r1 r2,q2⟩
variable{g:List Value->List Value->List Value}{gV:List V->List V->List V}
end
structure qz (N P:List Str) (sc:Scope):Prop where
 kind:sc.kind=.function
 co:sc.isCoroutine=false
 gen:sc.isGenerator=false
 nd:N.Nodup
 pre:N.take P.length=P
 par:∀x∈P,sc.names.lookup x=some .local\/sc.names.lookup x=some .cell
 nofree:∀y∈sc.names,y.2 ≠ .free
theorem qdv {ycg:Str->Option ycX} {x:Str}:∀{binds:List (Str×Value)}{m:Str->Option Value},(∀v,(x,v) ∉ binds)->bindL ycg binds m x=m x
 | [],_,_=>rfl
 | (n,v)::r,m,h=>by
  unfold bindL
  rw[qdv λw hw=>h w (mM _ hw)]
  split
  ·have:x≠n:=by rintro rfl;exact h v mS_
   simp[this]
  ·rfl
theorem qdw {ycg:Str->Option ycX} {x:Str}:∀{binds:List (Str×Value)}{m:Str->Option Value},(∀v,(x,v) ∉ binds)->bindC ycg binds m x=m x
 | [],_,_=>rfl
 | (n,v)::r,m,h=>by
  unfold bindC
  rw[qdw λw hw=>h w (mM _ hw)]
  split
  ·rfl
  ·have:x≠n:=by rintro rfl;exact h v mS_
   simp[this]
theorem qa1 {ycg:Str->Option ycX} {x:Str} {v:Value}:∀{P:List Str}{vs:List Value}{i:Nat}{m:Str->Option Value},P.Nodup->P[i]? = some x->vs[i]? = some v->ycg x=some .local ->
  bindL ycg (P.zip vs) m x=some v
 | [],_,_,_,_,h,_,_=>by simp at h
 |_::_,[],_,_,_,_,h,_=>by simp at h
 |p::P,w::vs,0,m,nd,h1,h2,hk=>by
  simp at h1 h2;subst h1;subst h2
  show bindL ycg ((p,w)::P.zip vs) m p=_
  unfold bindL
  rw[qdv λv hv=>(List.nodup_cons.mp nd).1 (ycy hv).1,if_pos hk]
  simp
 |p::P,w::vs,i+1,m,nd,h1,h2,hk=>by
  show bindL ycg ((p,w)::P.zip vs) m x=_
  unfold bindL
  exact qa1 (i:=i) (List.nodup_cons.mp nd).2 (by simpa using h1) (by simpa using h2) hk
theorem qa2 {ycg:Str->Option ycX} {x:Str} {v:Value}:∀{P:List Str}{vs:List Value}{i:Nat}{m:Str->Option Value},P.Nodup->P[i]? = some x->vs[i]? = some v->ycg x≠some .local ->
  bindC ycg (P.zip vs) m x=some v
 | [],_,_,_,_,h,_,_=>by simp at h
 |_::_,[],_,_,_,_,h,_=>by simp at h
 |p::P,w::vs,0,m,nd,h1,h2,hk=>by
  simp at h1 h2;subst h1;subst h2
  show bindC ycg ((p,w)::P.zip vs) m p=_
  unfold bindC
  rw[qdw λv hv=>(List.nodup_cons.mp nd).1 (ycy hv).1,if_neg hk]
  simp
 |p::P,w::vs,i+1,m,nd,h1,h2,hk=>by
  show bindC ycg ((p,w)::P.zip vs) m x=_
  unfold bindC
  exact qa2 (i:=i) (List.nodup_cons.mp nd).2 (by simpa using h1) (by simpa using h2) hk
def ji(N:List Str)(vs:List V):St:=vs.map some++yaw (N.length-vs.length) none
def qiW (CX:CXT) (P:yas) (w:World) (K:yaf) (mg:Str->Option Value) (base:Heap) (N:List Str) (qual:Str) (scope:Scope) (f:Addr) (cd:Value) (A:yav) (outer:List Env) (s:yab) (H:Hp) (E:XK):Cx where
 prog:=P
 w:=w
 K:=K
 mg:=mg
 base:=base
 A:=A.deeper (ybj qual scope s.heap.objs.size f cd)
 N:=N
 s₀:=s
 H₀:=H
 env:=ybj qual scope s.heap.objs.size f cd
 outer:=outer
 stack:=ybj qual scope s.heap.objs.size f cd::outer
 ex:=[]
 calm:=true
 fn:=λ_=>true
 pn:=[]
 xe:=λe s'=>wpAny (model P w) (A.deeper (ybj qual scope s.heap.objs.size f cd)) (ydl (ybj qual scope s.heap.objs.size f cd) e) (λ_ s''=>CX outer H s E e s'') (λe' s''=>CX outer H s E e' s'') s'
theorem qaQ {sc:Scope} {n:Nat} {x:Str} (h:sc.names.lookup x=some .cell):∃c,(yed n sc.names []).lookup x=some c:=by
 have q:=ycO sc.names n [] (.inl h)
 exact Option.isSome_iff_exists.mp q
theorem qhl {CX:CXT} {P:yas} {w:World} {K:yaf} {mg:Str->Option Value} {base:Heap} {N ps:List Str} {qual:Str} {scope:Scope} {f:Addr} {cd:Value} {A:yav} {outer:List Env} {s s1:yab} {H:Hp} {E:XK} {us:List Value} {vs:List V}
  (S:qz N ps scope) (hd:A.handled=none) (e0:qiV P w K mg base A outer s H) (hl:vs.length=ps.length) (r:zt vs us)
  (x:InCallC s s.heap.objs.size (bindL (ybj qual scope s.heap.objs.size f cd).kindOf (ps.zip us) λ_=>none) (yed (s.heap.objs.size+1) scope.names []) (bindC (ybj qual scope s.heap.objs.size f cd).kindOf (ps.zip us) λ_=>none) s1) :
  Inv (qiW CX P w K mg base N qual scope f cd A outer s H E) [] (ji N vs) H s1:=by
 have hpl:ps.length<=N.length:=by have:=congrArg yfF S.pre;rw[ybe]at this;omega
 obtain⟨h1,tk,rfl,hk⟩:=x.done
 have noA:∀b:Addr,b ∉ (qiW CX P w K mg base N qual scope f cd A outer s H E).ex:=λb z=>absurd (show b∈([]:List Addr)from z) (by simp)
 refine ⟨⟨e0.mod,S.kind,rfl,rfl,yad _,λy z c h1 h2=>?_,λy hy=>?_,λy c _ h=>?_,λ_=>hd,yeE e0.frames,.inr ⟨rfl,rfl⟩,λb z=>absurd z (noA b),e0.bs,e0.bsz,λb _ _=>noA b,λb z=>absurd z (noA b),e0.funs,e0.frf⟩,
  rfl,e0.bare,Un.kept hk,⟨_,x.toInCall.ns,λi y v h1 h2 h3=>?_⟩,λy c h=>⟨_,x.cell y c h⟩,e0.hok.fresh (yad _),λy c h=>?_,λp hp=>absurd (show p∈([]:List (Addr×Obj))from hp) (by simp),e0.hok.kept hk,?_⟩
 ·exact name_of_addr x.apart (yaW h1) (yaW h2)
 ·have hy:scope.names.lookup y=some .cell\/scope.names.lookup y=some .free:=hy
  rcases hy with hy|hy
  ·exact qaQ hy
  ·exact absurd rfl (S.nofree _ (yaW hy))
 ·exact yc4 (x.above y c (yaW h))
 ·have hi:i<vs.length:=by
   unfold ji at h2
   by_cases hi:i<vs.length
   ·exact hi
   ·rw[List.getElem?_append_right (by simpa using hi)]at h2
    rw[List.getElem?_replicate]at h2
    split at h2<;>cases h2
  have ha:vs[i]? = some v:=by
   unfold ji at h2
   rw[List.getElem?_append_left (by simpa using hi),gM_]at h2
   cases e:vs[i]? with
   |none=>rw[e]at h2;cases h2
   |some a=>rw[e]at h2;cases h2;rfl
  obtain⟨u,hu,rv⟩:=r.get ha
  have hp:ps[i]? = some y:=by
   rw[<-S.pre,List.getElem?_take_of_lt (by omega)];exact h1
  have ndP:ps.Nodup:=by rw[<-S.pre];exact S.nd.sublist (yfv _ _)
  refine⟨u,rv,?_⟩
  rcases S.par y (ycl hp)with k|k
  ·exact .inl ⟨k,qa1 ndP hp hu k⟩
  ·obtain⟨c,e⟩:=qaQ (n:=s.heap.objs.size+1) k
   refine .inr ⟨.inl k,c,e,?_⟩
   have q:=x.cell y c e
   rw[qa2 ndP hp hu (by show scope.names.lookup y≠_;rw[k];decide)]at q
   exact q
 ·exact e0.hok.fresh (yc4 (x.above y c (yaW h)))
 ·unfold ji
  show _=N.length
  rw[lA_,lM_,ybk]
  omega
theorem qnp {CX:CXT} {P:yas} {w:World} {K:yaf} {mg:Str->Option Value} {base:Heap} {k:Nat} {f:Addr} {name qual:Str} {params:yee} {body:List Stmt} {scope:Scope} {dV kV doc pm cdv ct oc:Value} {an od:Option Addr}
  {osl:Array (Option Value)} {N ps:List Str} {sp:Sp} (lk:K.lookup f=some ⟨oc,od,.func (yap name qual params body scope dV kV doc pm an cdv ct),osl⟩) (hcd:yan K cdv qual=true) (S:qz N ps scope)
  (len:∀vs H Q E,sp vs H Q E->vs.length=ps.length)
  (hbody:∀(A:yav)(outer:List Env)(s:yab)(H:Hp)(vs:List V)(Q:VK)(E:XK),yz k (A.deeper (ybj qual scope s.heap.objs.size f cdv))->sp vs H Q E ->
   ∃t,PSs (qiW CX P w K mg base N qual scope f cdv A outer s H E) body t/\t {nx:=λ_ H'=>Q .non H',rt:=Q} (ji N vs) H) :
  vp P w K mg base CX (k+1) f (yap name qual params body scope dV kV doc pm an cdv ct) ps sp:=by
 refine⟨len,λA outer s H args us vs Q E hr e0 hb r hsp=>?_⟩
 have hl:=len _ _ _ _ hsp
 have KX:K.In s.heap:=e0.mod.kin.keeps λb o e=>(e0.bs b o e).1
 have lim:s.heap.NoLimit:=e0.mod.nolimit.keeps λb o e=>(e0.bs b o e).1
 have hkind:∀y∈ps.zip us,scope.names.lookup y.1=some .local\/(scope.names.lookup y.1=some .cell/\((yed (s.heap.objs.size+1) scope.names []).lookup y.1).isSome=true):=λ⟨n,v⟩ hy=>by
  rcases S.par n (ycy hy).1 with q|q
  ·exact .inl q
  ·exact .inr ⟨q,ycO _ _ _ (.inl q)⟩
 refine yet hr.depth (KX _ _ lk) rfl S.co S.gen rfl (ye8 KX hcd) (hb _ _ _ _ ?_)
 refine ydD S.kind hkind λenv he s1 x=>?_
 subst he
 refine⟨lim.keeps x.toInCall.keep,codeAny_func ?_⟩
 obtain⟨t,ht,hq⟩:=hbody A outer s H vs Q E (hr.deeper _) hsp
 have I:Inv (qiW CX P w K mg base N qual scope f cdv A outer s H E) [] (ji N vs) H s1:=qhl S hr.hd e0 hl r x
 refine ya1 (ht [] s1 (ji N vs) H _ I hq) (λfl s' hs=>?_) λe s' hs=>hs
 have fin:∀{σ':St}{H':Hp}{v:V}{u:Value},Inv (qiW CX P w K mg base N qual scope f cdv A outer s H E) [] σ' H' s'->jG v u->Q v H'->CE outer P w H s Q u s' :=
  λ{σ' H' v u} J rv q=>⟨v,H',J.os,J.bare,J.base,J.hok,rv,q⟩
 cases fl with
 |ret u=>
  obtain⟨v,σ',H',J,rv,q⟩:=hs
  exact fin J rv q
 |next=>
  obtain⟨σ',H',J,q⟩:=hs
  exact fin (v:=V.non) (u:=yaG) J rfl q
 |brk=>
  obtain⟨_,_,_,q⟩:=hs
  exact yaT q
 |cont=>
  obtain⟨_,_,_,q⟩:=hs
  exact yaT q
end L2
namespace L2
open PySem PySem.Spec PyProof.Rows
section
variable{X:Cx}{x:Str}{p pos:Pos}{e:Expr}{es:List Expr}{t:TA}{id T:String}{r:List V->Hp->VK->Prop}
def tCB(r:List V->Hp->VK->Prop)(t:TA):TE:=λσ H Q=>t σ H λvs H1=>r vs H1 Q
theorem vM (hc:yK X (.builtin id) r) (hg:Gl X x) (hm:X.mg x=none) (hv:yaB x=some (.builtin id)) (ha:PA X (e::es) t) (hn:x≠"__name__":=by decide) (hdb:(x==("__debug__":Str))=false:=by decide)
  (he:yac (e::es) X.env=(false,eval e X.env)::yac es X.env:=by rfl) (hpl:(yaN pos (yac es X.env)).any (·.1)=false:=by rfl):PE X (.Call (.Name x p) (e::es) [] pos) (tCB r t):=by
 intro pins s σ H Q I h
 refine yb5 (qb8 I hg hm hv ?_ hn hdb)
 exact PyProof.Rows.callWith_builtin1 (thn (ha pos pins s σ H _ I h) λus s1 ⟨vs,H1,I1,r1,q1⟩=>hc pins s1 σ H1 vs us Q I1 r1 q1) he hpl
theorem qdx (hc:yK X (.type T) r) (hg:Gl X x) (hm:X.mg x=none) (hv:yaB x=some (.type T)) (ha:PA X (e::es) t) (hn:x≠"__name__":=by decide) (hdb:(x==("__debug__":Str))=false:=by decide)
  (he:yac (e::es) X.env=(false,eval e X.env)::yac es X.env:=by rfl) (hpl:(yaN pos (yac es X.env)).any (·.1)=false:=by rfl):PE X (.Call (.Name x p) (e::es) [] pos) (tCB r t):=by
 intro pins s σ H Q I h
 refine yb5 (qb8 I hg hm hv ?_ hn hdb)
 exact yci (thn (ha pos pins s σ H _ I h) λus s1 ⟨vs,H1,I1,r1,q1⟩=>hc pins s1 σ H1 vs us Q I1 r1 q1) he hpl
end
end L2
namespace HT
open PySem PyProof.Rows
def lexLt:List Int->List Int->Bool
 | [],[]=>false
 | [],_::_=>true
 |_::_,[]=>false
 |x::xs,y::ys=>if x=y then lexLt xs ys else decide (x<y)
theorem lexLt_cons(x y:Int)(xs ys:List Int):lexLt (x::xs) (y::ys)=if x=y then lexLt xs ys else decide (x<y):=rfl
theorem qcB:lexLt [] []=false:=rfl
theorem qbX(y:Int)(ys:List Int):lexLt [] (y::ys)=true:=rfl
theorem qbY(x:Int)(xs:List Int):lexLt (x::xs) []=false:=rfl
theorem qjc (A:yav) (s:yab) (a:Int) (t:Tok) (c:Int) (u:Tok):∃e,yfO A s (.int a t) (.int c u) e/\(e=true ↔ a=c) :=
 ⟨(a==c),ye9 a t c u,by simp⟩
theorem qjd (A:yav) (s:yab) (a:Int) (t:Tok) (c:Int) (u:Tok) (prog:yas) (w:World) (E:Value->yab->Prop) (Q:Value->yab->Prop) (h:Q (.bool (decide (a<c))) s) :
  wpAny (model prog w) A (richCompare .Lt (.int a t) (.int c u)) Q E s :=
 (PyProof.Rows.lt_int h:wpAny (model prog w) A (yaP .Lt (.int a t) (.int c u)) Q E s)
section
open PySem.SeqAt
open PySem.AutoSeq1 (wpAny_loadPart')
open PySem.MeetsSeq PySem.MeetsSeq2 PySem.MeetsSeq3
theorem qcC (l b:Addr) (items items2:Array Value) (n n2:Nat) (dd dd2:Option Addr) (sl sl2:Array (Option Value)) (ns ms:List Int) (hi:ybC items.toList ns) (hj:ybC items2.toList ms) :
  Meets (ych.«tuple.__lt__» ⟨[.ref l,.ref b],[]⟩)
   (λ_ R s=>s.heap.get? l=some {cls:=.type "tuple",dict:=dd,data:=.seq items n,slots:=sl}/\s.heap.get? b=some {cls:=.type "tuple",dict:=dd2,data:=.seq items2 n2,slots:=sl2} /\
    R (.ok (.ret (.bool (lexLt ns ms)))) s) :=
 .of_wp λprog w A R s h=>by
  obtain⟨hp,g,d,tk,os⟩:=s;obtain⟨hl,hb,h⟩:=h
  have f2:=ydZ
  have z1:items.size=ns.length:=by rw[<-hi.length];simp
  have z2:items2.size=ms.length:=by rw[<-hj.length];simp
  wp_walk using yb6 hl,yb6 hb,wpAny_forIn_list _ (λqag b s'=>b.1=none/\s'=⟨hp,g,d,tk,os⟩/\∃(vs ws:List Value)(ns' ms':List Int),qag=vs.zip ws /\
   ybC vs ns'/\ybC ws ms'/\ns'.length+items2.size=ms'.length+items.size/\R (.ok (.ret (.bool (lexLt ns' ms')))) ⟨hp,g,d,tk,os⟩) _
  case turn=>
   rintro⟨y,x⟩ qag b s' ⟨hb',rfl,vs,ws,ns',ms',hz,hvi,hwi,hlen,hR⟩
   cases hvi with
   |nil=>rw[List.zip_nil_left]at hz;cases hz
   | cons a t hvi'=>
    cases hwi with
    |nil=>rw[List.zip_nil_right]at hz;cases hz
    | cons c u hwi'=>
     rw[yb7]at hz
     injection hz with hyx hrest
     injection hyx with hy hx
     subst hy hx
     rw[lexLt_cons]at hR
     simp only[lC_]at hlen
     obtain⟨e,he,hiff⟩:=qjc A.in1 ⟨hp,g,d,tk,os⟩ a t c u
     refine yaa (he prog w _ _ ?_)
     cases e with
     |true=>
      rw[if_pos (hiff.mp rfl)]at hR
      wp_walk
      exact⟨rfl,rfl,_,_,_,_,hrest,hvi',hwi',by omega,hR⟩
     |false=>
      rw[if_neg (λq=>absurd (hiff.mpr q) yam)]at hR
      have hri:=qjd A.in1 ⟨hp,g,d,tk,os⟩ a t c u prog w
      wp_walk using hri
      exact⟨_,rfl,by simpa using hR⟩
  case fin=>
   rintro⟨b1,b2⟩ s' ⟨hb',rfl,vs,ws,ns',ms',hz,hvi,hwi,hlen,hR⟩
   simp only at hb'
   subst hb'
   have hv:lexLt ns' ms'=decide (items.size<items2.size):=by
    cases hvi with
    | nil=>
     cases hwi with
     |nil=>
      simp only[lN_]at hlen
      rw[qcB]
      exact(decide_eq_false (by omega)).symm
     |cons c u hw=>
      simp only[lN_,lC_]at hlen
      rw[qbX]
      exact(decide_eq_true (by omega)).symm
    | cons a t hv=>
     cases hwi with
     |nil=>
      simp only[lN_,lC_]at hlen
      rw[qbY]
      exact(decide_eq_false (by omega)).symm
     |cons c u hw=>
      rw[yb7]at hz
      cases hz
   rw[hv]at hR
   wp_walk
   exact⟨_,rfl,by simpa [Builtin.Tuple.tupleCompareSizes] using hR⟩
  case h=>
   exact⟨rfl,rfl,items.toList,items2.toList,ns,ms,rfl,hi,hj,by omega,h⟩
end
section
variable{prog:yas}{w:World}{A:yav}{E:Value->yab->Prop}{s:yab}
theorem lt_tupInts {l b:Addr} {items items2:Array Value} {ns ms:List Int} {Q:Value->yab->Prop} (hl:IsTup s.heap l items) (hb:IsTup s.heap b items2) (hi:ybC items.toList ns) (hj:ybC items2.toList ms)
  (hu:A.units<cLine) (h:Q (.bool (lexLt ns ms)) s):wpAny (model prog w) A (yaP .Lt (.ref l) (.ref b)) Q E s:=by
 obtain⟨⟨cls,dd,data,sl⟩,ho,hc,n,hd⟩:=id hl
 obtain⟨⟨cls2,dd2,data2,sl2⟩,ho2,hc2,n2,hd2⟩:=id hb
 simp only at hc hd hc2 hd2
 subst hc hd hc2 hd2
 exact richCompare_meets_room (op := .Lt) ⟨_,ho,rfl⟩ ⟨_,ho2,rfl⟩ PySem.F.slot_tuple_lt PySem.F.entry_tuple_lt (PySem.F.args_tuple_lt_2 _ _) (qcC l b items items2 n n2 dd dd2 sl sl2 ns ms hi hj)
  ⟨ho,ho2,show ybd (lexLt ns ms)≠Value.notImplemented/\Q (.bool (lexLt ns ms)) s from⟨(λx=>nomatch x),h⟩⟩ hu
theorem cat_tup {t b:Addr} {vs ws:List Value} {Q:Value->yab->Prop} (ht:IsTup s.heap t vs.toArray) (hb:IsTup s.heap b ws.toArray) (hv:vs≠[])
  (h1:ws=[]->Q (.ref t) s) (h2:ws≠[]->Q (.ref s.heap.objs.size) {s with heap:=s.heap.push {cls:=.type "tuple",data:=.seq (vs++ws).toArray} })
  (hsz:vs.length+ws.length<=yat):wpAny (model prog w) A (ybq .Add (.ref t) (.ref b)) Q E s:=by
 obtain⟨⟨cls,dd,data,sl⟩,ho,hc,n,hd⟩:=id ht
 obtain⟨⟨cls2,dd2,data2,sl2⟩,ho2,hc2,n2,hd2⟩:=id hb
 simp only at hc hd hc2 hd2
 subst hc hd hc2 hd2
 have e:vs.toArray++ws.toArray=(vs++ws).toArray:=by simp
 by_cases hw:ws=[]
 ·exact yfa ⟨_,ho,rfl⟩ ⟨_,ho2,rfl⟩ yd0 yeN ycP ycI (ycC _ _)
   (tuple_addW1 t b vs.toArray ws.toArray n n2 dd dd2 sl sl2 (by simpa using hv) (by simp[hw])) ⟨ho,ho2,h1 hw⟩
 ·refine yfa ⟨_,ho,rfl⟩ ⟨_,ho2,rfl⟩ yd0 yeN ycP ycI (ycC _ _)
   (tuple_addW2 t b vs.toArray ws.toArray n n2 dd dd2 sl sl2 (by simpa using hv) (by simpa using hw) (by rw[sT_,sT_];exact hsz)) ⟨ho,ho2,?_⟩
  rw[e]
  exact h2 hw
def sIx (n d:Nat):Option Int->Nat
 |none=>d
 |some v=>if v<0 then(v+(n:Int)).toNat else min v.toNat n
theorem sIx_none(n d:Nat):sIx n d none=d:=rfl
theorem sIx_nat (n d k:Nat):sIx n d (some (k:Int))=min k n:=by
 show(if(k:Int)<0 then((k:Int)+(n:Int)).toNat else min (k:Int).toNat n)=min k n
 rw[if_neg (by omega),ybD]
theorem qnq (n d:Nat) (hd:d<=n) (o:Option Int):sIx n d o<=n:=by
 cases o with
 |none=>exact hd
 |some v=>
  show(if v<0 then(v+(n:Int)).toNat else min v.toNat n)<=n
  by_cases hv:v<0
  ·rw[if_pos hv];omega
  ·rw[if_neg hv];exact Nat.min_le_right _ _
theorem qhm (v:Int) (n d:Nat):(if v<0 then max (v+(n:Int)) 0 else min v (n:Int))=((sIx n d (some v):Nat):Int):=by
 show(if v<0 then max (v+(n:Int)) 0 else min v (n:Int))=(((if v<0 then(v+(n:Int)).toNat else min v.toNat n):Nat):Int)
 by_cases hv:v<0
 ·simp only[if_pos hv];omega
 ·simp only[if_neg hv];omega
theorem qgm (lo hi:Option Int) (n:Nat):ycz lo hi 1 (n:Int)=(((sIx n 0 lo:Nat):Int),((sIx n n hi:Nat):Int)):=by
 have h1:¬((1:Int)<0):=by omega
 unfold ycz
 simp only[h1,if_false]
 refine Prod.ext ?_ ?_
 ·cases lo with
  |none=>rfl
  |some v=>exact qhm v n 0
 ·cases hi with
  |none=>rfl
  |some v=>exact qhm v n n
theorem qgn (i j:Nat):ya9 (i:Int) (j:Int) 1=j-i:=by
 unfold ya9
 have h1:(1:Int)>0:=by omega
 simp only[h1,if_true,yfb]
 split<;>omega
theorem qaj {v:Value} {o:Option Int} {Q:Option Int->yab->Prop} (p:ycD v o) (h:Q o s):wpAny (model prog w) A (Builtin.Slice.slicePartIndex v) Q E s:=by
 cases p with
 |none=>exact ydm h
 |int i t=>exact slicePart_int h
theorem sliceApplied_gen {sl:Addr} {vl vu:Value} {lo hi:Option Int} {n:Nat} {Q:Int×Int×Nat->yab->Prop} (hs:s.heap.IsSliceOf sl vl vu .none) (pl:ycD vl lo) (pu:ycD vu hi)
  (h:Q (((sIx n 0 lo:Nat):Int),1,sIx n n hi-sIx n 0 lo) s):wpAny (model prog w) A (ybQ (.ref sl) (pure (n:Int))) Q E s:=by
 obtain⟨os,hos,hcs,hds⟩:=id hs
 unfold ybQ ydQ
 refine yaa (yaa (yaJ hos hds (x:=vl) rfl (yaa (yaJ hos hds (x:=vu) rfl (yaa (yaJ hos hds (x:=.none) rfl (yah ?_)))))))
 refine yaa (ydm ?_)
 show wpAny _ _ (if((1:Int)==0)=true then _ else _) _ _ s
 rw[if_neg (by decide)]
 refine yaa (qaj pl (yaa (qaj pu (yaa (yah ?_)))))
 show wpAny _ _ (match ycz lo hi 1 (n:Int) with|(lo,hi)=>pure (lo,(1:Int),ya9 lo hi 1)) _ _ s
 rw[qgm lo hi n]
 show wpAny _ _ (pure (((sIx n 0 lo:Nat):Int),(1:Int),ya9 ((sIx n 0 lo:Nat):Int) ((sIx n n hi:Nat):Int) 1)) _ _ s
 rw[qgn]
 exact yah h
theorem qje (xs:Array Value) (i k:Nat):((yal k).filterMap λ(m:Nat)=>xs[((i:Int)+(m:Int)*1).toNat]?).toArray=((xs.toList.drop i).take k).toArray:=by
 have e:(λ(m:Nat)=>xs[((i:Int)+(m:Int)*1).toNat]?)=λm=>xs[i+m]? := by
  funext m
  have:((i:Int)+(m:Int)*1).toNat=i+m:=by omega
  rw[this]
 rw[e]
 have:=pick_run xs i k
 rw[ycE]at this
 have e2:((λx=>xs[x]?)∘λx=>i+x)=λm=>xs[i+m]? := rfl
 rw[e2]at this
 rw[this]
theorem getItem_tuple_cut {t sl:Addr} {items:Array Value} {vl vu:Value} {lo hi:Option Int} {Q:Value->yab->Prop} (ht:IsTup s.heap t items) (hs:s.heap.IsSliceOf sl vl vu .none) (pl:ycD vl lo) (pu:ycD vu hi)
  (hw:¬(sIx items.size 0 lo=0/\sIx items.size items.size hi=items.size))
  (h:Q (.ref s.heap.objs.size) {s with heap:=s.heap.push {cls:=.type "tuple",data:=.seq ((items.toList.drop (sIx items.size 0 lo)).take (sIx items.size items.size hi-sIx items.size 0 lo)).toArray} })
  (hsz:items.size<=yat):wpAny (model prog w) A (ycu (.ref t) (.ref sl)) Q E s:=by
 have htake:sizeOk (.seq ((items.toList.drop (sIx items.size 0 lo)).take (sIx items.size items.size hi-sIx items.size 0 lo)).toArray):=by
  show((items.toList.drop (sIx items.size 0 lo)).take (sIx items.size items.size hi-sIx items.size 0 lo)).toArray.size<=yat
  rw[sT_,ybe,ybW,ya2]
  omega
 have hj:sIx items.size items.size hi<=items.size:=qnq _ _ (yad _) hi
 obtain⟨os,hos,hcs,hds⟩:=id hs
 have hTs:s.TypeIs (.ref sl) "slice":=⟨os,hos,hcs⟩
 unfold ycu
 try with_reducible refine ybn ?_
 first|refine yaa (yah ?_)|skip
 refine yaa (ydO ht.typeIs (by decide) ?_)
 refine yaa (wpAny_callSpecial?_slot (name:=ybl "__getitem__") ht.typeIs ya3
  (ybv ya3 ht.typeIs ydg ?_ (ydt _ _)))
 show wpAny _ _ (ycq (.ref t) >>= _) _ _ s
 refine yaa (yeO ht ?_)
 refine yaa (yd1 hTs ?_)
 rw[if_pos (by decide)]
 refine yaa (sliceApplied_gen hs pl pu ?_)
 have hno:¬((((sIx items.size 0 lo:Nat):Int)==0&&(1:Int)==1&&(sIx items.size items.size hi-sIx items.size 0 lo)==items.size)=true):=by
  intro q
  rw[yag,yag]at q
  have q1:((sIx items.size 0 lo:Nat):Int)=0:=yc1 q.1.1
  have q2:sIx items.size items.size hi-sIx items.size 0 lo=items.size:=yc1 q.2
  exact hw ⟨by omega,by omega⟩
 show wpAny _ _ (if(((sIx items.size 0 lo:Nat):Int)==0&&(1:Int)==1&&(sIx items.size items.size hi-sIx items.size 0 lo)==items.size)=true then _ else _) _ _ s
 rw[if_neg hno,qje]
 first
  |exact yaa (m:=ya0 _) (yaL (yah ⟨_,rfl,yah h⟩) htake)
  |exact yaa (m:=ya0 _) (yaL (yaa (yah (yah ⟨_,rfl,yah h⟩))) htake)
  |exact yaa (yaa (m:=ya0 _) (yaL (yah (yah ⟨_,rfl,yah h⟩)) htake))
  |exact yaa (yaa (m:=ya0 _) (yaL (yah ⟨_,rfl,yah h⟩) htake))
end
end HT
namespace L2
open PySem PySem.Spec PyProof.Rows
abbrev TO:=St->Hp->(Option Int->Hp->Prop)->Prop
def PO (X:Cx) (e:Option Expr) (t:TO):Prop :=
 ∀ (pins:List (Addr×Obj)) (s:yab) (σ:St) (H:Hp) (Q:Option Int->Hp->Prop),Inv X pins σ H s->t σ H Q ->
  wpAny (model X.prog X.w) X.A (evalPart e X.env) (λu s'=>∃o H',Inv X pins σ H' s'/\ycD u o/\Q o H') X.xe s
def qlu:TO:=λ_ H Q=>Q none H
def qpw(t:TE):TO:=λσ H Q=>t σ H λx H1=>∃i,x=.int i/\Q (some i) H1
theorem yX {ns:List Int}:∀{us:List Value},zt (ns.map V.int) us->ybC us ns:=by
 induction ns with
 |nil=>intro us r;rw[ybJ]at r;cases r;exact .nil
 | cons n ns ih=>
  intro us r
  rw[mC_]at r
  cases r with
  |cons r1 r2=>
   obtain⟨t,e⟩:=r1
   subst e
   exact .cons n t (ih r2)
section
variable{X:Cx}{e:Expr}{te:TE}{lo hi:Option Expr}{tl th:TO}{pos p2:Pos}
theorem qlv:PO X none qlu:=by
 intro pins s σ H Q I h
 rw[yeP]
 exact yah ⟨none,H,I,.none,h⟩
theorem qhn (h:PE X e te):PO X (some e) (qpw te):=by
 intro pins s σ H Q I hw
 rw[evalPart_some]
 refine thn (h pins s σ H _ I hw) λu s1 ⟨x,H1,I1,r1,q1⟩=>?_
 obtain⟨i,rfl,q⟩:=q1
 obtain⟨t,rfl⟩:=r1
 exact⟨some i,H1,I1,.int i t,q⟩
def SlR (X:Cx) (r:V->Option Int->Option Int->Hp->VK->Prop):Prop :=
 ∀ (pins:List (Addr×Obj)) (s:yab) (σ:St) (H:Hp) (x:V) (v vl vu:Value) (lo hi:Option Int) (sl:Addr) (Q:VK),Inv X pins σ H s->jG x v->s.heap.IsSliceOf sl vl vu .none->ycD vl lo->ycD vu hi->r x lo hi H Q ->
  ∃T id,typeLookup (.type T) "__getitem__"=pure (some (.builtin id))/\s.TypeIs v T/\wpAny (model X.prog X.w) X.A (ycu v (.ref sl)) (EP X pins σ Q) X.xe s
theorem SlR.or {r r':V->Option Int->Option Int->Hp->VK->Prop} (h:SlR X r) (h':SlR X r'):SlR X (λx lo hi H Q=>r x lo hi H Q\/r' x lo hi H Q):=by
 intro pins s σ H x v vl vu lo hi sl Q I rx hs pl pu q
 rcases q with q|q
 ·exact h pins s σ H x v vl vu lo hi sl Q I rx hs pl pu q
 ·exact h' pins s σ H x v vl vu lo hi sl Q I rx hs pl pu q
def tSl(r:V->Option Int->Option Int->Hp->VK->Prop)(te:TE)(tl th:TO):TE:=λσ H Q=>te σ H λx H1=>tl σ H1 λl H2=>th σ H2 λu H3=>r x l u H3 Q
theorem qjf {r:V->Option Int->Option Int->Hp->VK->Prop} (hr:SlR X r) (he:PE X e te) (hl:PO X lo tl) (hu:PO X hi th):PE X (.Subscript e (.Slice lo hi none p2) pos) (tSl r te tl th):=by
 intro pins s σ H Q I h
 refine yfP (thn (he pins s σ H _ I h) λv s1 ⟨x,H1,I1,r1,q1⟩=>?_)
 refine wpAny_Slice (thn (hl pins s1 σ H1 _ I1 q1) λvl s2 ⟨l,H2,I2,pl,q2⟩=>thn (hu pins s2 σ H2 _ I2 q2) λvu s3 ⟨u,H3,I3,pu,q3⟩=>?_)
 rw[yeP]
 refine yah ?_
 have I4:Inv X pins σ H3 {s3 with heap:=s3.heap.push {cls:=.type "slice",data:=.fields #[vl,vu,.none]} }:=I3.kept (t':=s3.toks) λb ob q=>Heap.get?_push_of_some _ q
 obtain⟨T,id,hT,ht,hg⟩:=hr pins {s3 with heap:=s3.heap.push {cls:=.type "slice",data:=.fields #[vl,vu,.none]} } σ H3 x v vl vu l u s3.heap.objs.size Q I4 r1 (yfc ..) pl pu q3
 show wpAny (model X.prog X.w) X.A (subscriptTail e (.Slice lo hi none p2) v (.ref s3.heap.objs.size)) (EP X pins σ Q) X.xe {s3 with heap:=s3.heap.push {cls:=.type "slice",data:=.fields #[vl,vu,.none]} }
 exact tail_any (ops:=[.ref s3.heap.objs.size,v]) ht hT hg (by with_unfolding_all rfl)
def qiX(xs:List V)(lo hi:Option Int):List V:=(xs.drop (HT.sIx xs.length 0 lo)).take (HT.sIx xs.length xs.length hi-HT.sIx xs.length 0 lo)
theorem qa3 (xs:List V) (lo hi:Option Int):(qiX xs lo hi).length<=xs.length:=by
 unfold qiX
 rw[ybe,ybW]
 omega
def qqd (K:yaf):V->Option Int->Option Int->Hp->VK->Prop:=λx lo hi H Q=>∃a xs,x=.ref a/\SqT K H a xs /\
 ¬(HT.sIx xs.length 0 lo=0/\HT.sIx xs.length xs.length hi=xs.length)/\∀p,H p=none->Q (.ref p) (upd H p (.tup (qiX xs lo hi)))
theorem sl_tup:SlR X (qqd X.K):=by
 intro pins s σ H x v vl vu lo hi sl Q I rx hs pl pu h
 obtain⟨a,xs,rfl,hx,hw,q⟩:=h
 cases rx
 obtain⟨its,r,ht,hz⟩:=I.tuple hx
 have hlen:its.toArray.size=xs.length:=by rw[sT_];exact r.length.symm
 refine⟨"tuple",_,PyProof.Rows.slot_tuple_getitem.lookup,ht.typeIs,?_⟩
 refine HT.getItem_tuple_cut ht hs pl pu (by rw[hlen];exact hw) ?_ (by rw[hlen];exact hz)
 rw[hlen]
 refine⟨.ref s.heap.objs.size,_,I.laid (t':=s.toks) (o:=.tup (qiX xs lo hi)) (λb ob q=>Heap.get?_push_of_some _ q) (yad _) ?_,rfl,q _ (I.hok.fresh (yad _))⟩
 exact⟨yaA (qa3 xs lo hi) hz,_,(r.drop (HT.sIx xs.length 0 lo)).take (HT.sIx xs.length xs.length hi-HT.sIx xs.length 0 lo),yds _ _⟩
def rLtT(K:yaf):R2:=λx y H Q=>∃a b ns ms,x=.ref a/\y=.ref b/\SqT K H a (ns.map V.int)/\SqT K H b (ms.map V.int)/\Q (.bl (HT.lexLt ns ms)) H
theorem op_ltT (hu:X.A.units<cLine):OpR X (yaP .Lt) (rLtT X.K):=by
 intro pins s σ H x y v u Q I rx ry h
 obtain⟨a,b,ns,ms,rfl,rfl,ha,hb,q⟩:=h
 cases rx
 cases ry
 obtain⟨its,r1,p1,_⟩:=I.tuple ha
 obtain⟨its2,r2,p2,_⟩:=I.tuple hb
 have i1:ybC its.toArray.toList ns:=yX r1
 have i2:ybC its2.toArray.toList ms:=yX r2
 exact HT.lt_tupInts p1 p2 i1 i2 hu ⟨.bl (HT.lexLt ns ms),H,I,rfl,q⟩
def qnr (K:yaf):R2:=λx y H Q=>∃a b xs ys,x=.ref a/\y=.ref b/\SqT K H a xs/\SqT K H b ys/\xs≠[]/\xs.length+ys.length<=yat /\
 (ys=[]->Q (.ref a) H)/\(ys≠[]->∀p,H p=none->Q (.ref p) (upd H p (.tup (xs++ys))))
theorem zt.nil_iff {xs:List V} {us:List Value} (r:zt xs us):us=[] ↔ xs=[]:=by
 cases r with
 |nil=>simp
 |cons _ _=>simp
theorem qlw:OpR X (ybq .Add) (qnr X.K):=by
 intro pins s σ H x y v u Q I rx ry h
 obtain⟨a,b,xs,ys,rfl,rfl,ha,hb,hx,hz,q1,q2⟩:=h
 cases rx
 cases ry
 obtain⟨its,r1,p1,_⟩:=I.tuple ha
 obtain⟨its2,r2,p2,_⟩:=I.tuple hb
 refine HT.cat_tup p1 p2 (λz=>hx (r1.nil_iff.mp z)) (λz=>⟨.ref a,H,I,rfl,q1 (r2.nil_iff.mp z)⟩) (λz=>?_) (by rw[<-r1.length,<-r2.length];exact hz)
 refine⟨.ref s.heap.objs.size,_,I.laid (t':=s.toks) (o:=.tup (xs++ys)) (λb ob q=>Heap.get?_push_of_some _ q) (yad _) ?_,rfl,q2 (λw=>z (r2.nil_iff.mpr w)) _ (I.hok.fresh (yad _))⟩
 exact⟨by rw[lA_];exact hz,_,r1.append r2,yds _ _⟩
end
end L2
namespace L2
open PySem PySem.Spec PyProof.Rows
def ixN(n:Nat)(i:Int):Option Nat:=if 0<=i then(if i<n then some i.toNat else none)else if -(n:Int)<=i then some (i+n).toNat else none
def atI{α:Type}(xs:List α)(i:Int):Option α:=(ixN xs.length i).bind λj=>xs[j]?
theorem qho {n:Nat} {i:Int} {j:Nat} (h:ixN n i=some j):seqIndex? i n=some j/\j<n /\ -(n:Int)<=i/\i<n:=by
 unfold ixN at h
 by_cases h0:0<=i
 ·rw [if_pos h0]at h
  by_cases h1:i<n
  ·rw[if_pos h1]at h
   have e:i.toNat=j:=yaO h
   exact⟨by rw[yfG h0 h1,e],by omega,by omega,h1⟩
  ·rw[if_neg h1]at h;cases h
 ·rw [if_neg h0]at h
  by_cases h1 : -(n:Int)<=i
  ·rw[if_pos h1]at h
   have e:(i+n).toNat=j:=yaO h
   exact⟨by rw[yfd (by omega) h1,e],by omega,h1,by omega⟩
  ·rw[if_neg h1]at h;cases h
theorem qhp {α:Type} {xs:List α} {i:Int} {v:α} (h:atI xs i=some v):∃j,seqIndex? i xs.length=some j/\xs[j]? = some v/\j<xs.length /\ -(xs.length:Int)<=i/\i<xs.length:=by
 unfold atI at h
 cases e:ixN xs.length i with
 |none=>rw[e]at h;cases h
 |some j=>
  rw[e]at h
  obtain⟨h1,h2,h3,h4⟩:=qho e
  exact⟨j,h1,h,h2,h3,h4⟩
def qey(b:Expr):Prop:=∀o i,subscripted b false o i=operate [o,i] (ycu o i)
def IxR (X:Cx) (r:R2):Prop :=
 ∀ (value slice:Expr) (pins:List (Addr×Obj)) (s:yab) (σ:St) (H:Hp) (x y:V) (v u:Value) (Q:VK),Inv X pins σ H s->jG x v->jG y u->r x y H Q ->
  subscripted slice false v u=operate [v,u] (ycu v u)->wpAny (model X.prog X.w) X.A (subscriptTail value slice v u) (EP X pins σ Q) X.xe s
def MtR (X:Cx) (id:String) (r:V->List V->Hp->VK->Prop):Prop :=
 ∀ (pins:List (Addr×Obj)) (s:yab) (σ:St) (H:Hp) (x:V) (xs:List V) (v:Value) (us:List Value) (Q:VK),Inv X pins σ H s->jG x v->zt xs us->r x xs H Q ->
  wpAny (model X.prog X.w) X.A (call (.builtin id) (v::us)) (EP X pins σ Q) X.xe s
section
variable{X:Cx}{a b:Expr}{ta tb:TE}{pos:Pos}
theorem IxR.or {r r':R2} (h:IxR X r) (h':IxR X r'):IxR X (λx y H Q=>r x y H Q\/r' x y H Q):=by
 intro value slice pins s σ H x y v u Q I rx ry q hs
 rcases q with q|q
 ·exact h value slice pins s σ H x y v u Q I rx ry q hs
 ·exact h' value slice pins s σ H x y v u Q I rx ry q hs
theorem MtR.or {id:String} {r r':V->List V->Hp->VK->Prop} (h:MtR X id r) (h':MtR X id r'):MtR X id (λx xs H Q=>r x xs H Q\/r' x xs H Q):=by
 intro pins s σ H x xs v us Q I rx rs q
 rcases q with q|q
 ·exact h pins s σ H x xs v us Q I rx rs q
 ·exact h' pins s σ H x xs v us Q I rx rs q
theorem qns {r:R2} (hr:IxR X r) (ha:PE X a ta) (hb:PE X b tb) (hs:qey b):PE X (.Subscript a b pos) (tOp r ta tb):=by
 intro pins s σ H Q I h
 exact yfP (qpn ha hb I h λv u s2 x y H2 I2 rx ry q=>hr a b pins s2 σ H2 x y v u Q I2 rx ry q (hs _ _))
def qpx(K:yaf):R2:=λx y H Q=>∃p xs i v,x=.ref p/\y=.int i/\SqL K H p xs/\atI xs i=some v/\Q v H
def qpy(K:yaf):R2:=λx y H Q=>∃p xs i v,x=.ref p/\y=.int i/\SqT K H p xs/\atI xs i=some v/\Q v H
theorem qhq:IxR X (qpx X.K):=by
 intro value slice pins s σ H x y v u Q I rx ry h hs
 obtain⟨p,xs,i,z,rfl,rfl,hq,he,q⟩:=h
 cases rx
 obtain⟨t,rfl⟩:=ry
 obtain⟨its,r,pl,hz⟩:=I.list hq
 obtain⟨j,h1,h2,h3,h4,h5⟩:=qhp he
 obtain⟨w,ew,rw'⟩:=r.get h2
 have hl:=r.length
 have hn:=qdu
 have fin:EP X pins σ Q w s:=⟨z,H,I,rw',q⟩
 by_cases h0:0<=i
 ·have hj:i.toNat=j:=by
   rw[yfG h0 h5]at h1
   exact yaO h1
  exact item_listR pl.isList h0 (by omega) (by rw[hj];simpa using ew) fin hs
 ·have hj:(i+(its.toArray.size:Int)).toNat=j:=by
   rw[yfd (by omega) h4]at h1
   rw[sT_,<-hl]
   exact yaO h1
  exact yek (x:=w) pl.isList.typeIs slot_list_getitem.lookup
   (wpAny_getItem_list_neg (Q:=λr s'=>r=w/\EP X pins σ Q r s') pl.isList (by omega) (by rw[sT_]<;>omega) (by omega) (by rw[hj];simpa using ew) ⟨rfl,fin⟩) hs
theorem qnt:IxR X (qpy X.K):=by
 intro value slice pins s σ H x y v u Q I rx ry h hs
 obtain⟨p,xs,i,z,rfl,rfl,hq,he,q⟩:=h
 cases rx
 obtain⟨t,rfl⟩:=ry
 obtain⟨its,r,pl,hz⟩:=I.tuple hq
 obtain⟨j,h1,h2,h3,h4,h5⟩:=qhp he
 obtain⟨w,ew,rw'⟩:=r.get h2
 have hl:=r.length
 have hn:=qdu
 have fin:EP X pins σ Q w s:=⟨z,H,I,rw',q⟩
 exact yek (x:=w) pl.typeIs slot_tuple_getitem.lookup
  (getItem_tuple (j:=j) (Q:=λr s'=>r=w/\EP X pins σ Q r s') pl (by omega) (by omega) (by rw[sT_,<-hl];exact h1) (by simpa using ew) ⟨rfl,fin⟩) hs
theorem qgo (its:List Value) (n j:Nat) (u:Value):yaC (·.setIfInBounds j u) {cls:=.type "list",data:=.seq its.toArray n}={cls:=.type "list",data:=.seq (its.set j u).toArray n}:=by
 simp[yaC]
theorem Inv.lst {pins:List (Addr×Obj)} {σ:St} {H:Hp} {s:yab} {p:Addr} {xs:List V} (I:Inv X pins σ H s) (h:H p=some (.lst xs)) :
  ∃(its:List Value)(n:Nat),zt xs its/\s.heap.get? p=some {cls:=.type "list",data:=.seq its.toArray n}/\xs.length<=yat:=by
 obtain⟨z,its,n,r,e⟩:=I.hok p _ h
 exact⟨its,n,r,e,z⟩
theorem Inv.lstUpd {pins:List (Addr×Obj)} {σ:St} {H:Hp} {s:yab} {p:Addr} {xs ys:List V} {its its':List Value} {n n':Nat} {f:Obj->Obj} (I:Inv X pins σ H s) (h:H p=some (.lst xs))
  (ho:s.heap.get? p=some {cls:=.type "list",data:=.seq its.toArray n}) (hf:f {cls:=.type "list",data:=.seq its.toArray n}={cls:=.type "list",data:=.seq its'.toArray n' }) (r:zt ys its') (hz:ys.length<=yat) (t:Nat) :
  Inv X pins σ (upd H p (.lst ys)) {s with heap:=s.heap.update p f,toks:=t}:=by
 have e:(s.heap.update p f).get? p=some {cls:=.type "list",data:=.seq its'.toArray n' }:=by
  rw[Heap.get?_update_self f ho (by rw[hf]<;>rfl),hf]
 refine I.write (x:=p) (e:=p) (by rw[h];trivial) (.inl rfl) (λb u hb q=>(Heap.get?_update_other _ _ (ybo hb)).trans q) ⟨_,e⟩ ?_
 exact⟨hz,its',n',r,e⟩
def qpz:V->V->V->Hp->(Hp->Prop)->Prop:=λo i v H Q=>∃p xs k j,o=.ref p/\i=.int k/\H p=some (.lst xs)/\ixN xs.length k=some j/\Q (upd H p (.lst (xs.set j v)))
theorem qjg:qp8 X qpz:=by
 intro pins s σ H o i v ov iv u Q I ro ri rv h
 obtain⟨p,xs,k,j,rfl,rfl,hp,hj,q⟩:=h
 cases ro
 obtain⟨t,rfl⟩:=ri
 obtain⟨its,n,r,ho,hz⟩:=I.lst hp
 obtain⟨h1,h2,h3,h4⟩:=qho hj
 have hl:=r.length
 have hn:=qdu
 have I':Inv X pins σ (upd H p (.lst (xs.set j v))) {s with heap:=s.heap.update p (yaC (·.setIfInBounds j u))} :=
  I.lstUpd hp ho (qgo its n j u) (r.set rv j) (by rw[lS_];exact hz) s.toks
 by_cases h0:0<=k
 ·have hk:k.toNat=j:=by
   rw[yfG h0 h4]at h1
   exact yaO h1
  exact PySem.W.ki_setAt ho h0 (by omega) (by rw[sT_,<-hl];exact h4) (by rw[hk];exact⟨_,I',q⟩)
 ·have hk:(k+(its.toArray.size:Int)).toNat=j:=by
   rw[yfd (by omega) h3]at h1
   rw[sT_,<-hl]
   exact yaO h1
  exact PySem.W.ki_setBack ho (by omega) (by rw[sT_,<-hl];exact h3) (by omega) (by rw[hk];exact⟨_,I',q⟩)
theorem qdy (lo hi:Option Int) (n:Nat):(ycc lo hi none n).1=((HT.sIx n 0 lo:Nat):Int)/\(ycc lo hi none n).2.1=((HT.sIx n n hi:Nat):Int)/\(ycc lo hi none n).2.2=1:=by
 refine⟨?_,?_,rfl⟩
 ·cases lo with
  |none=>simp[ycc,HT.sIx]
  |some i=>
   simp only[ycc,HT.sIx,Option.getD_none,show(1:Int)>0 by decide,if_true]
   by_cases h:i<0
   ·simp only[h,if_true]<;>omega
   ·simp only[h,if_false]<;>omega
 ·cases hi with
  |none=>simp[ycc,HT.sIx]
  |some i=>
   simp only[ycc,HT.sIx,Option.getD_none,show(1:Int)>0 by decide,if_true]
   by_cases h:i<0
   ·simp only[h,if_true]<;>omega
   ·simp only[h,if_false]<;>omega
theorem qcD (its:List Value) (lo hi:Option Int):yfe its.toArray lo hi none=((its.drop (HT.sIx its.length 0 lo)).take (HT.sIx its.length its.length hi-HT.sIx its.length 0 lo)).toArray:=by
 obtain⟨h1,h2,h3⟩:=qdy lo hi its.toArray.size
 unfold yfe
 rw[h1,h2,h3]
 simp only[sliceRange_one,pick_run,sT_]<;>rfl
def qqW(K:yaf):V->Option Int->Option Int->Hp->VK->Prop:=λx lo hi H Q=>∃a xs,x=.ref a/\SqL K H a xs/\∀p,H p=none->Q (.ref p) (upd H p (.lst (qiX xs lo hi)))
theorem qlx:SlR X (qqW X.K):=by
 intro pins s σ H x v vl vu lo hi sl Q I rx hs pl pu h
 obtain⟨a,xs,rfl,hx,q⟩:=h
 cases rx
 obtain⟨its,r,ht,hz⟩:=I.list hx
 have hlen:=r.length
 refine⟨"list",_,slot_list_getitem.lookup,ht.isList.typeIs,?_⟩
 refine yd2 ht.isList hs pl pu .none (by simp) ?_ (by rw[sT_]<;>omega)
 rw[qcD,<-hlen]
 refine⟨.ref s.heap.objs.size,_,I.laid (t':=s.toks) (o:=.lst (qiX xs lo hi)) (λb ob q=>Heap.get?_push_of_some _ q) (yad _) ?_,rfl,q _ (I.hok.fresh (yad _))⟩
 exact⟨yaA (qa3 xs lo hi) hz,_,0,(r.drop (HT.sIx xs.length 0 lo)).take (HT.sIx xs.length xs.length hi-HT.sIx xs.length 0 lo),Heap.get?_push_size _ rfl⟩
def qaO:V->Bool
 |.non=>true
 |.bl _=>true
 |.int _=>true
 |.str _=>true
 |_=>false
def eqV:V->V->Bool
 |.non,.non=>true
 |.bl a,.bl b=>a==b
 |.bl a,.int b=>(if a then 1 else 0)==b
 |.int a,.bl b=>a==(if b then 1 else 0)
 |.int a,.int b=>a==b
 |.str a,.str b=>a==b
 |_,_=>false
theorem qnu {A:yav} {s:yab} {y x:V} {u v:Value} (ry:jG y u) (rx:jG x v) (fy:qaO y=true) (fx:qaO x=true):yfO A s u v (eqV y x):=by
 cases y with
 |non=>
  cases ry
  cases x with
  |non=>cases rx;exact SeqAt.EqAt.same _
  |bl b=>cases rx;exact SeqAt.EqAt.none_bool b
  |int b=>obtain⟨t,rfl⟩:=rx;exact SeqAt.EqAt.none_int b t
  |str b=>obtain⟨t,rfl⟩:=rx;exact SeqAt.EqAt.none_str b t
  |_=>exact absurd (show false=true from fx) yam
 |bl a=>
  cases ry
  cases x with
  |non=>cases rx;exact SeqAt.EqAt.bool_none a
  |bl b=>cases rx;exact yc7 a b
  |int b=>obtain⟨t,rfl⟩:=rx;exact SeqAt.EqAt.bool_int a b t
  |str b=>obtain⟨t,rfl⟩:=rx;exact SeqAt.EqAt.bool_str a b t
  |_=>exact absurd (show false=true from fx) yam
 |int a=>
  obtain⟨t',rfl⟩:=ry
  cases x with
  |non=>cases rx;exact SeqAt.EqAt.int_none a t'
  |bl b=>cases rx;exact SeqAt.EqAt.int_bool a t' b
  |int b=>obtain⟨t,rfl⟩:=rx;exact ye9 a t' b t
  |str b=>obtain⟨t,rfl⟩:=rx;exact ye0 a t' b t
  |_=>exact absurd (show false=true from fx) yam
 |str a=>
  obtain⟨t',rfl⟩:=ry
  cases x with
  |non=>cases rx;exact SeqAt.EqAt.str_none a t'
  |bl b=>cases rx;exact SeqAt.EqAt.str_bool a t' b
  |int b=>obtain⟨t,rfl⟩:=rx;exact ye1 a t' b t
  |str b=>obtain⟨t,rfl⟩:=rx;exact SeqAt.EqAt.str_str a t' b t
  |_=>exact absurd (show false=true from fx) yam
 |_=>exact absurd (show false=true from fy) yam
def eqU (x:V) (u:Value):Bool:=match u with
 |.none=>eqV .non x
 |.bool b=>eqV (.bl b) x
 |.int i _=>eqV (.int i) x
 |.str z _=>eqV (.str z) x
 |_=>false
theorem qks {x y:V} {u:Value} (r:jG y u) (f:qaO y=true):eqU x u=eqV y x:=by
 cases y with
 |non=>cases r;rfl
 |bl b=>cases r;rfl
 |int i=>obtain⟨t,rfl⟩:=r;rfl
 |str z=>obtain⟨t,rfl⟩:=r;rfl
 |_=>exact absurd (show false=true from f) yam
theorem qez {x:V}:∀{xs:List V}{us:List Value},zt xs us->xs.all qaO=true->us.any (eqU x)=xs.any λy=>eqV y x
 |_,_,.nil,_=>rfl
 |y::xs,u::us,.cons r t,f=>by
  rw[ycU,yag]at f
  rw[yeQ,yeQ,qks r f.1,qez t f.2]
theorem qcE {A:yav} {s:yab} {x:V} {v:Value} (rx:jG x v) (fx:qaO x=true):∀{xs:List V}{us:List Value},zt xs us->xs.all qaO=true->∀u∈us,yfO A s u v (eqU x u)
 |_,_,.nil,_=>λu hu=>by cases hu
 |y::xs,u::us,.cons r t,f=>λu' hu=>by
  rw[ycU,yag]at f
  rcases List.mem_cons.mp hu with rfl|hu
  ·rw[qks r f.1];exact qnu r rx f.1 fx
  ·exact qcE rx fx t f.2 u' hu
def inV(x:V)(xs:List V):Bool:=xs.any λy=>eqV y x
def rIn(K:yaf)(neg:Bool):R2:=λx y H Q=>∃p xs,y=.ref p/\(SqL K H p xs\/SqT K H p xs)/\qaO x=true/\xs.all qaO=true/\Q (.bl (if neg then !inV x xs else inV x xs)) H
theorem qhr:OpR X (yaP .In) (rIn X.K false):=by
 intro pins s σ H x y v u Q I rx ry h
 obtain⟨p,xs,rfl,hq,fx,fs,q⟩:=h
 cases ry
 rcases hq with hq|hq
 ·obtain⟨its,r,pl,hz⟩:=I.list hq
  refine SeqAt.in_listAt (eqU x) pl.isList (λw hw=>qcE rx fx r fs w (by simpa using hw)) ⟨.bl _,H,I,rfl,?_⟩
  rw[show its.toArray.any (eqU x)=its.any (eqU x) by simp,qez r fs]
  exact q
 ·obtain⟨its,r,pl,hz⟩:=I.tuple hq
  refine SeqAt.in_tupleAt (eqU x) pl (λw hw=>qcE rx fx r fs w (by simpa using hw)) ⟨.bl _,H,I,rfl,?_⟩
  rw[show its.toArray.any (eqU x)=its.any (eqU x) by simp,qez r fs]
  exact q
theorem qdz:yK X (.builtin "len") (λxs H Q=>∃p ys,xs=[.ref p]/\(SqL X.K H p ys\/SqT X.K H p ys)/\Q (.int ys.length) H):=by
 intro pins s σ H xs us Q I r h
 obtain⟨p,ys,rfl,hq,q⟩:=h
 obtain⟨u,rfl,rx⟩:=qew r
 cases rx
 have hn:=qdu
 rcases hq with hq|hq
 ·obtain⟨its,r',pl,hz⟩:=I.list hq
  have hlen:=r'.length
  exact Calls.call_len_list pl.isList (by simp only[sT_]<;>omega) ⟨.int ys.length,H,I.tok _,⟨s.toks+1,by rw[sT_,hlen]⟩,q⟩
 ·obtain⟨its,r',pl,hz⟩:=I.tuple hq
  have hlen:=r'.length
  exact len_tuple pl (by simp only[sT_]<;>omega) ⟨.int ys.length,H,I.tok _,⟨s.toks+1,by rw[sT_,hlen]⟩,q⟩
theorem qdA:yK X (.builtin "len") (λxs H Q=>∃z,xs=[.str z]/\z.length<=yat/\Q (.int z.length) H):=by
 intro pins s σ H xs us Q I r h
 obtain⟨z,rfl,hz,q⟩:=h
 obtain⟨u,rfl,t,rfl⟩:=qew r
 have hn:=qdu
 exact len_str (by omega) ⟨.int z.length,H,I.tok _,⟨_,rfl⟩,q⟩
theorem yK.or {f:Value} {r r':List V->Hp->VK->Prop} (h:yK X f r) (h':yK X f r'):yK X f (λxs H Q=>r xs H Q\/r' xs H Q):=by
 intro pins s σ H xs us Q I rs q
 rcases q with q|q
 ·exact h pins s σ H xs us Q I rs q
 ·exact h' pins s σ H xs us Q I rs q
theorem qdB:yK X (.type "list") (λxs H Q=>∃p ys,xs=[.ref p]/\(SqL X.K H p ys\/SqT X.K H p ys)/\∀l,H l=none->Q (.ref l) (upd H l (.lst ys))):=by
 intro pins s σ H xs us Q I r h
 obtain⟨p,ys,rfl,hq,q⟩:=h
 obtain⟨u,rfl,rx⟩:=qew r
 cases rx
 have fin:∀(its:List Value),zt ys its->ys.length<=yat->∀(h':Heap)(c':Nat),(∀b o',s.heap.get? b=some o'->h'.get? b=some o') ->
   h'.get? s.heap.objs.size=some {cls:=.type "list",dict:=none,data:=.seq its.toArray c',slots := #[]}->EP X pins σ Q (.ref s.heap.objs.size) {s with heap:=h' }:=λits r' hz h' c' kp e=>
  ⟨.ref s.heap.objs.size,_,I.laid (t':=s.toks) kp (yad _) (show yU X.prog X.w _ h' _ (.lst ys) from⟨hz,its,c',r',e⟩),rfl,q _ (I.hok.fresh (yad _))⟩
 rcases hq with hq|hq
 ·obtain⟨its,r',pl,hz⟩:=I.list hq
  have hlen:=r'.length
  obtain⟨o,ho,hc,n,hd⟩:=pl.isList
  exact call_list_seq p (.inl rfl) ho hc hd (λh' c' kp e=>fin its r' hz h' c' kp e) (by simp only[sT_]<;>omega)
 ·obtain⟨its,r',pl,hz⟩:=I.tuple hq
  have hlen:=r'.length
  obtain⟨o,ho,hc,n,hd⟩:=pl
  exact call_list_seq p (.inr rfl) ho hc hd (λh' c' kp e=>fin its r' hz h' c' kp e) (by simp only[sT_]<;>omega)
theorem wC:yK X (.type "tuple") (λxs H Q=>∃p ys,xs=[.ref p]/\((SqL X.K H p ys/\∀l,H l=none->Q (.ref l) (upd H l (.tup ys)))\/(SqT X.K H p ys/\Q (.ref p) H))):=by
 intro pins s σ H xs us Q I r h
 obtain⟨p,ys,rfl,h⟩:=h
 obtain⟨u,rfl,rx⟩:=qew r
 cases rx
 rcases h with⟨hq,q⟩|⟨hq,q⟩
 ·obtain ⟨its,r',pl,hz⟩:=I.list hq
  have hlen:=r'.length
  refine call_tuple_list pl.isList (λh' kp=>?_) (by simp only[sT_]<;>omega)
  have I1:Inv X pins σ H {s with heap:=h' }:=I.kept (t':=s.toks) kp
  have I2:Inv X pins σ (upd H h'.objs.size (.tup ys)) {s with heap:=h'.push {cls:=.type "tuple",data:=.seq its.toArray} } :=
   I1.laid (t':=s.toks) (λb o e=>Heap.get?_push_of_some _ e) (yad _) (show yU X.prog X.w _ _ _ (.tup ys) from⟨hz,its,r',yds _ _⟩)
  exact⟨.ref h'.objs.size,_,I2,rfl,q _ (I1.hok.fresh (yad _))⟩
 ·obtain⟨its,r',pl,hz⟩:=I.tuple hq
  exact call_tuple_same pl ⟨.ref p,H,I,rfl,q⟩
def tyV (K:yaf) (T:String) (x:V) (H:Hp):Prop:=match x with
 |.str _=>T="str"
 |.int _=>T="int"
 | .ref p=>(T="list"/\∃xs,SqL K H p xs)\/(T="tuple"/\∃o,K.lookup p=some o/\o.cls=.type "tuple"/\o.dict=none) \/
   (T="dict"/\((∃kvs,H p=some (.dK kvs))\/∃kvs,H p=some (.dT kvs)))\/(T="set"/\∃S n,H p=some (.set S n))
 |_=>False
theorem qnv {pins:List (Addr×Obj)} {σ:St} {H:Hp} {s:yab} {T:String} {x:V} {v:Value} (I:Inv X pins σ H s) (r:jG x v) (ty:tyV X.K T x H) :
  s.TypeIs v T/\∀a,v=.ref a->∃ob,s.heap.get? a=some ob/\ob.dict=none:=by
 cases x with
 |str z=>
  obtain⟨t,rfl⟩:=r
  cases (show T="str" from ty)
  exact⟨typeIs_str s z t,λ_ e=>nomatch e⟩
 |int i=>
  obtain⟨t,rfl⟩:=r
  cases (show T="int" from ty)
  exact⟨ydR s i t,λ_ e=>nomatch e⟩
 | ref p=>
  cases r
  rcases ty with⟨rfl,xs,hq⟩|⟨rfl,o,hk,hc,hd⟩|⟨rfl,hk⟩|⟨rfl,S,n,hk⟩
  ·obtain⟨its,_,pl,_⟩:=I.list hq
   refine⟨pl.isList.typeIs,λa e=>?_⟩
   cases e
   obtain⟨o,n,e,c,hd,_⟩:=pl
   exact⟨o,e,hd⟩
  ·refine⟨⟨o,I.kIn p o hk,hc⟩,λa e=>?_⟩
   cases e
   exact⟨o,I.kIn _ o hk,hd⟩
  ·have z:∃o,s.heap.get? p=some o/\o.ExactDict:=by
    rcases hk with⟨kvs,hk⟩|⟨kvs,hk⟩
    ·obtain⟨_,_,_,_,o,_,_,e,ex,_⟩:=I.hok p _ hk
     exact⟨o,e,ex⟩
    ·obtain⟨_,_,_,_,o,_,_,e,ex,_⟩:=I.hok p _ hk
     exact⟨o,e,ex⟩
   obtain⟨o,e,ex⟩:=z
   refine⟨⟨o,e,ex.1⟩,λa e2=>?_⟩
   cases e2
   exact⟨o,e,ex.2.1⟩
  ·obtain⟨o,_,_,_,e,ex,_⟩:=I.hok p _ hk
   refine⟨⟨o,e,ex.1⟩,λa e2=>?_⟩
   cases e2
   exact⟨o,e,ex.2.1⟩
 |_=>exact yaT ty
def tBM(K:yaf)(T:String)(r:V->List V->Hp->VK->Prop)(to:TE)(t:TA):TE:=λσ H Q=>to σ H λx H1=>tyV K T x H1/\t σ H1 λxs H2=>r x xs H2 Q
variable{o e:Expr}{es:List Expr}{to:TE}{t:TA}{name:Str}{apos cpos:Pos}{T id:String}{r:V->List V->Hp->VK->Prop}
theorem qly (pa:PlainAttrs T) (slot:Slot T name id) (hty:typeOf (.builtin id)=pure (.type "method_descriptor")) (hm:MtR X id r) (ho:PE X o to) (ha:PA X (e::es) t)
  (hbase:ydE o name X.env (eval o X.env)=eval o X.env:=by rfl)
  (hfew:((yaN cpos (yac (e::es) X.env)).all (λx => !x.1)&&(yck cpos (ybH [] X.env)).all (λx=>x.1.isSome)
   && decide ((e::es).length+([]:List yct).length+(if([]:List yct).isEmpty then 0 else 1)<30))=true:=by rfl)
  (hline:(apos.endLine==cpos.line)=true:=by rfl) (hs:yac (e::es) X.env=(false,eval e X.env)::yac es X.env:=by rfl) (hplain:(yaN cpos (yac es X.env)).any (·.1)=false:=by rfl) :
  PE X (.Call (.Attribute o name apos) (e::es) [] cpos) (tBM X.K T r to t):=by
 intro pins s σ H Q I h
 refine wpAny_Call_method_late hbase hfew hline rfl (thn (ho pins s σ H _ I h) λv s1 ⟨x,H1,I1,r1,ty,q1⟩=>?_)
 obtain⟨h1,h2⟩:=qnv I1 r1 ty
 refine⟨T,id,pa,slot,hty,h1,h2,?_⟩
 have hA:=ha cpos pins s1 σ H1 _ I1 q1
 rw[hs]at hA |-
 refine Calls.callWith_builtin (by show(false||(yaN cpos (yac es X.env)).any (·.1))=false;rw[hplain]<;>rfl) (yeF ?_)
 exact thn hA λus s2 ⟨vs,H2,I2,r2,q2⟩=>hm pins s2 σ H2 x vs v us Q I2 r1 r2 q2
/- xs.append(e),list.index on a module's tuple .. are MtR facts of 06m -/
end
end L2
namespace L2
open PySem PySem.Spec PyProof.Rows
def MtM (X:Cx) (id:String) (r:V->List V->Hp->VK->Prop):Prop :=
 ∀ (pins:List (Addr×Obj)) (s:yab) (σ:St) (H:Hp) (x:V) (xs:List V) (v:Value) (us:List Value) (Q:VK),Inv X pins σ H s->jG x v->zt xs us->r x xs H Q ->
  wpAny (model X.prog X.w) X.A (call (.builtin id) (v::us)) (EP X pins σ Q) X.xe s
theorem zt.one:∀{x:V}{us:List Value},zt [x] us->∃u,us=[u]/\jG x u
 |_,_,.cons r .nil=>⟨_,rfl,r⟩
theorem zt.two:∀{x y:V}{us:List Value},zt [x,y] us->∃u v,us=[u,v]/\jG x u/\jG y v
 |_,_,_,.cons r (.cons q .nil)=>⟨_,_,rfl,r,q⟩
theorem zt.eraseIdx:∀{xs:List V}{us:List Value}(i:Nat),zt xs us->zt (xs.eraseIdx i) (us.eraseIdx i)
 |_,_,_,.nil => .nil
 |_,_,0,.cons _ t=>t
 |_,_,i+1,.cons r t => .cons r (zt.eraseIdx i t)
theorem zt.reverse {xs:List V} {us:List Value} (h:zt xs us):zt xs.reverse us.reverse:=by
 induction h with
 |nil=>exact .nil
 |cons r t ih=>rw[ycK,ycK];exact zt.append ih (.cons r .nil)
theorem zt.rep {xs:List V} {us:List Value} (h:zt xs us):∀k:Nat,zt (yaw k xs).flatten (yaw k us).flatten
 |0 => .nil
 |k+1=>by
  rw[rS_,rS_,ybT,ybT]
  exact zt.append h (zt.rep h k)
theorem qa4 (its:List Value):∀(k:Nat)(acc:List Value),
  yeG (λx1 x2=>x1++x2) acc.toArray (yaw k its.toArray)=(acc++(yaw k its).flatten).toArray
 |0,acc=>by simp
 | k+1,acc=>by
  have e:acc.toArray++its.toArray=(acc++its).toArray:=by simp
  have e2:(acc++its)++(yaw k its).flatten=acc++(yaw (k+1) its).flatten:=by
   rw[rS_,ybT,aA_]
  rw[<-e2,<-qa4 its k (acc++its),<-e,rS_,fo_]
section
variable{X:Cx}{pins:List (Addr×Obj)}{σ:St}{H:Hp}{s:yab}{l b:Addr}{xs ys zs:List V}
theorem Inv.lset {its its':List Value} {n:Nat} {f:Array Value->Array Value} {t':Nat} (I:Inv X pins σ H s) (hH:H l=some (.lst xs))
  (e:s.heap.get? l=some {cls:=.type "list",data:=.seq its.toArray n}) (hf:f its.toArray=its'.toArray) (hv:zt ys its') (hz:ys.length<=yat) :
  Inv X pins σ (upd H l (.lst ys)) {s with heap:=s.heap.update l (yaC f),toks:=t' }:=by
 have q:=PySem.IsL.update e f
 rw[hf]at q
 refine I.write (x:=l) (e:=l) (by rw[hH];exact trivial) (.inl rfl) (λb' u hb hu=>(Heap.get?_update_other s.heap (yaC f) (ybo hb)).trans hu) ⟨_,q⟩ ?_
 exact⟨hz,its',_,hv,q⟩
theorem Inv.lnew {its:List Value} {t':Nat} (I:Inv X pins σ H s) (hv:zt ys its) (hz:ys.length<=yat) :
  Inv X pins σ (upd H s.heap.objs.size (.lst ys)) {s with heap:=s.heap.push {cls:=.type "list",data:=.seq its.toArray},toks:=t' } :=
 I.laid (λ_ _ q=>Heap.get?_push_of_some _ q) (yad _) ⟨hz,its,0,hv,Heap.get?_push_size _ rfl⟩
theorem Inv.fresh(I:Inv X pins σ H s):H s.heap.objs.size=none:=I.hok.fresh (yad _)
theorem Inv.lstM (I:Inv X pins σ H s) (hH:H l=some (.lst xs)):xs.length<=yat/\∃(its:List Value)(n:Nat),zt xs its/\xs.length=its.length/\s.heap.get? l=some {cls:=.type "list",data:=.seq its.toArray n}:=by
 obtain⟨z,its,n,r,e⟩:=I.hok l _ hH
 exact⟨z,its,n,r,r.length,e⟩
theorem qfe {n:Nat} (h:n<=yat):ybX n=false:=by
 unfold ybX
 exact decide_eq_false (by omega)
end
section
variable{X:Cx}
def qlz:V->List V->Hp->VK->Prop:=λx vs H Q=>∃l xs y,x=.ref l/\vs=[y]/\H l=some (.lst xs)/\xs.length<yat/\Q .non (upd H l (.lst (xs++[y])))
theorem qa5:MtM X "list.append" qlz:=by
 intro pins s σ H x vs v us Q I rx rv h
 obtain⟨l,xs,y,rfl,rfl,hH,hz,q⟩:=h
 cases rx
 obtain⟨u,rfl,ru⟩:=rv.one
 obtain⟨z,its,n,r,hl,e⟩:=I.lstM hH
 refine ycm F.slot_list_append ⟨_,e,rfl⟩ F.entry_list_append (F.args_list_append_2 _ _) (PySem.list_append l its.toArray n u (by rw[sT_];omega)) ⟨e,?_⟩
 refine⟨.non,_,I.lset (its':=its++[u]) hH e (by simp) (r.append (.cons ru .nil)) ?_,rfl,q⟩
 rw[lA_,yau]
 omega
def qlA:V->List V->Hp->VK->Prop:=λx vs H Q=>∃l b xs zs,x=.ref l/\vs=[.ref b]/\H l=some (.lst xs)/\H b=some (.lst zs)/\xs.length+zs.length<=yat/\Q .non (upd H l (.lst (xs++zs)))
theorem qhs:MtM X "list.extend" qlA:=by
 intro pins s σ H x vs v us Q I rx rv h
 obtain⟨l,b,xs,zs,rfl,rfl,hH,hB,hz,q⟩:=h
 cases rx
 obtain⟨u,rfl,ru⟩:=rv.one
 cases ru
 obtain⟨z,its,n,r,hl,e⟩:=I.lstM hH
 obtain⟨z2,its2,n2,r2,hl2,e2⟩:=I.lstM hB
 have hsz:its.toArray.size+its2.toArray.size<=yat:=by rw[sT_,sT_];omega
 have hlong:¬(!its.toArray.isEmpty&&ybX (its.toArray.size+its2.toArray.size))=true:=by
  rw[qfe hsz,Bool.and_false]
  exact yam
 refine ycm F.slot_list_extend ⟨_,e,rfl⟩ F.entry_list_extend (F.args_list_extend_2 _ _)
  (AutoSeq1.list_extend_list_list_0 l its.toArray n b its2.toArray n2 hlong (by rw[sT_];omega) (by omega)) ⟨e,e2,?_⟩
 refine⟨.non,_,I.lset (its':=its++its2) hH e (by simp) (r.append r2) ?_,rfl,q⟩
 rw[lA_]
 omega
def qqe:R2:=λx y H Q=>∃l b xs zs,x=.ref l/\y=.ref b/\H l=some (.lst xs)/\H b=some (.lst zs)/\xs.length+zs.length<=yat/\∀p,H p=none->Q (.ref p) (upd H p (.lst (xs++zs)))
theorem qnw:OpR X (ybq .Add) qqe:=by
 intro pins s σ H x y v u Q I rx ry h
 obtain⟨l,b,xs,zs,rfl,rfl,hH,hB,hz,q⟩:=h
 cases rx
 cases ry
 obtain⟨z,its,n,r,hl,e⟩:=I.lstM hH
 obtain⟨z2,its2,n2,r2,hl2,e2⟩:=I.lstM hB
 refine PySem.P.add_list e e2 ?_ (by rw[sT_,sT_];omega)
 have ea:its.toArray++its2.toArray=(its++its2).toArray:=by simp
 rw[ea]
 exact⟨.ref _,_,I.lnew (t':=s.toks) (r.append r2) (by rw[lA_];omega),rfl,q _ I.fresh⟩
def qqf:R2:=λx y H Q=>∃l k xs,x=.ref l/\y=.int k/\H l=some (.lst xs) /\ -(2 ^ 63)<=k/\k<2 ^ 63/\xs.length*k.toNat<=yat /\
 ∀p,H p=none->Q (.ref p) (upd H p (.lst (yaw k.toNat xs).flatten))
theorem qeA {α:Type} (xs:List α) (k:Nat):(yaw k xs).flatten.length=k*xs.length:=by
 induction k with
 |zero=>simp
 |succ k ih=>rw[rS_,ybT,lA_,ih,yd3,Nat.add_comm]
theorem qnx:OpR X (ybq .Mult) qqf:=by
 intro pins s σ H x y v u Q I rx ry h
 obtain⟨l,k,xs,rfl,rfl,hH,h1,h2,hz,q⟩:=h
 cases rx
 obtain⟨t,rfl⟩:=ry
 obtain⟨z,its,n,r,hl,e⟩:=I.lstM hH
 have hlen:its.toArray.size*k.toNat<=yat:=by rw[sT_,<-hl];exact hz
 have hcap:¬its.toArray.size*k.toNat>(2 ^ 63-1)/8:=by
  have:(yat:Nat)<=(2 ^ 63-1)/8:=by decide
  omega
 have hfit:¬(!Builtin.List.listFitsIndex k)=true:=by
  rw[fitsIndex_both h1 h2]
  exact yam
 have hlong:¬ybX (its.toArray.size*k.toNat)=true:=by
  rw[qfe hlen]
  exact yam
 have hnew:yeG (λx1 x2=>x1++x2) #[] (yaw (if its.toArray.isEmpty=true then 0 else k.toNat) its.toArray)=(yaw k.toNat its).flatten.toArray:=by
  have f0:∀m:Nat,yeG (λx1 x2=>x1++x2) #[] (yaw m its.toArray)=(yaw m its).flatten.toArray:=λm=>by
   have:=qa4 its m []
   rw[ybc]at this
   exact this
  rw[f0]
  cases its with
  |nil=>simp
  |cons a r'=>rw[if_neg (by simp)]
 refine ydS (T:="list") (U:="int") (by decide) ⟨_,e,rfl⟩ (λs'=>ydR s' k t) noFill_list_mul F.fills_int_mul yc8 repeat_list F.slot_int_index.lookup
  (ycm yc8 (ydR s k t) F.entry_int_rmul (yfw _ _) (int___rmul___int_list k t l its.toArray n)
   ⟨e,rfl,⟨_,e,rfl⟩,ycm F.slot_list_mul ⟨_,e,rfl⟩ F.entry_list_mul (F.args_list_mul_2 _ _) (AutoListH.list___mul___list_int_3 l its.toArray n k t hfit hcap hlong) ⟨e,?_⟩⟩)
 rw[hnew]
 exact⟨.ref _,_,I.lnew (t':=s.toks) (r.rep k.toNat) (by rw[qeA,yff];exact hz),rfl,q _ I.fresh⟩
end
section
variable{prog:yas}{w:World}{A:yav}{E:Value->yab->Prop}{s:yab}
set_option maxRecDepth 100000 in
end
section
variable{X:Cx}
end
end L2
namespace Att
open PySem PySem.W PySem.Calls PyProof.Rows
theorem qa6 {P:Params} {h:Heap}:∀(ns:List Int)(vs:List Value),WellAll P h vs (ns.map WData.int)->ybC vs ns:=by
 intro ns
 induction ns with
 |nil=>
  intro vs w
  rw[ybJ]at w
  cases w
  exact .nil
 | cons n ns ih=>
  intro vs w
  rw[mC_]at w
  cases w with
  |cons a b=>
   cases a
   exact .cons _ _ (ih _ b)
theorem qht {l:OpenLaw} {n:Nat} (hn:l.most=some n) {P:Params} {h:Heap} {args:List WData} {vals:List Value}
  (hpre:l.row.toRowW.claim.pre args=true) (hwl:WellAll P h vals args) :
  ∃a vs ns,vals=[yaq a]/\args=[WData.list (ns.map WData.int)]/\h.get? a=some {cls:=.type "list",data:=.seq vs.toArray}/\ybC vs ns/\ns.length<=n:=by
 have hsh:WShape.hasAll [] args [.list .int]=true:=(pre_splitW hpre).1
 have hc:l.pre.holds [] {args:=args}=true:=(pre_splitW hpre).2
 obtain⟨d,r,rfl,h1,h2⟩:=hasAllW_cons hsh
 obtain rfl:=hasAllW_nil h2
 obtain⟨xs,rfl,h3⟩:=hasW_list h1
 obtain⟨ns,rfl⟩:=items_int h3
 have hlen:ns.length<=n:=by
  unfold OpenLaw.pre at hc
  have h4:(WTm.not (.lt (.lit (.int (n:Int))) (.len (.arg 0)))).holds [] {args:=[.list (ns.map .int)]}=true:=by
   have h4:=(holds_andW hc).1
   rw[hn]at h4
   exact h4
  have h5:=condW_of h4 (w_not (w_lt w_lit (w_len_list (w_arg rfl))))
  rw[lM_]at h5
  refine ycY λq=>?_
  have q':(n:Int)<((ns.length:Nat):Int):=by omega
  first
   |(rw[decide_eq_true q']at h5;exact absurd h5 (by decide))
   |(simp at h5;omega)
 cases hwl with
 |cons w1 w2=>
  cases w2
  cases w1 with
  |list ho hall=>exact⟨_,_,ns,rfl,rfl,ho,qa6 ns _ hall,hlen⟩
theorem qhu (l:OpenLaw) (args:List WData):l.row.toRowW.claim.post args (.bool true) args=true :=
 postW_of (r:=l.row.toRowW) (X:=(true==true))
  (show WShape.has [] (.bool true) .bool=true by first|rfl|decide|simp[WShape.has,WShape.arms,WShape.armsAll])
  (show(WTm.eq .res (.lit (.bool true))).value [] {args:=args,res:=some (.bool true),after:=args}=some (.bool (true==true))from w_eq_bool (w_res rfl) w_lit) rfl
theorem attach_call {l:OpenLaw} {n:Nat} {q:yas} {loose:List Str} {XP:(Str->Option Value)->Heap->Prop} {YP:World->Heap->Prop} {d:DefRec}
  (hn:l.most=some n) (hdf:d.params.defaults=[])
  (call:∀(w:World)(s₀ sK:yab)(mg mb:Str->Option Value)(fa:Addr)(o:Obj)(pm cd doc:Value)(a:Addr)(vs:List Value)(ns:List Int),
   Ground q loose [] XP w s₀ mg mb sK.heap->YP w sK.heap ->
   sK.heap.get? fa=some o->o.data=.func (docDef d.name d.params d.body d.scope pm cd doc)->sK.heap.CodeRec cd d.name->mg d.name=some (.ref fa) ->
   sK.heap.get? a=some {cls:=.type "list",data:=.seq vs.toArray}->ybC vs ns->ns.length<=n->sK.gens = #[] ->
   ycf (model l.prog w) ydX (.call (.ref fa) ⟨[.ref a],[]⟩) (λr s'=>r=.ok (.ret (.bool true))/\OldK sK.heap s'.heap/\s'.os=sK.os/\ycs s'.gens) sK) :
  WalkO q loose XP YP l.row.toRowW d [] (λf vs=>yfQ f vs):=by
 intro w s₀ sK mg mb G Y fa o pm cd doc dV kV ho hd hcd hD hmg hg args vals as hpre hlay hrd hwl hlo
 obtain rfl:dV=.none:=Dflts.none hD hdf
 obtain rfl:kV=.none:=Dflts.noKw hD
 obtain⟨a,vs,ns,rfl,rfl,hobj,hints,hlen⟩:=qht hn hpre hwl
 refine enter_call (yc6 (call w s₀ sK mg mb fa o pm cd doc a vs ns G Y ho (fd_plain hd) hcd hmg hobj hints hlen hg) λr s' hq=>?_)
 obtain⟨rfl,h2,h3,h4⟩:=hq
 exact⟨.inl ⟨.bool true,.bool true,[],rfl,λ_=>rfl,.bool true,qhu l _,λ_=>⟨ycL,λ_ hm=>(nomatch hm)⟩⟩,h2,h3,h4⟩
section
variable{prog:yas}{w:World}{A:yav}{E:Value->yab->Prop}{s:yab}{K:Frag}
end
end Att
namespace L2
open PySem PySem.Spec PyProof.Rows
theorem qdC:∀{vs:List Value}{ns:List Int},ybC vs ns->zt (ns.map V.int) vs
 |_,_,.nil => .nil
 |_,_,.cons n t h => .cons ⟨t,rfl⟩ (qdC h)
def qoY(H:Hp):Prop:=∀b,H b=none\/(∃o xs,H b=some (.frz o (.lst xs)))\/∃pos q,H b=some (.lam pos q)
def qoZ:Option (Addr×Addr×Pos×Str)->Hp
 |some (_,Pt,pos,q)=>λb=>if b=Pt then some (.lam pos q)else none
 |none=>λ_=>none
theorem qjh {P:yas} {w:World} {K:yaf} {mg mb:Str->Option Value} {CX:CXT} {k:Nat} {fa a:Addr} {fd:yaS} {x:Str} {sp:Sp} {sK:yab} {vs:List Value} {ns:List Int} {lm:Option (Addr×Addr×Pos×Str)}
  (KX:K.In sK.heap) (hns:sK.heap.Ns yae mg) (hb:sK.heap.Ns yb3 mb) (hbb:∀x:Str,x≠"__name__"->mb x=yaB x) (hlim:sK.heap.NoLimit)
  (hbm:∃bm ob,mg "__builtins__"=some (.ref bm)/\bm≠yb3/\sK.heap.get? bm=some ob/\ob.cls=.type "module"/\ob.dict=some yb3/\ob.data=.plain)
  (hlm:∀c Pt pos q,lm=some (c,Pt,pos,q)->yeu sK.heap c Pt/\sK.heap.get? Pt=some (yev #[])/\K.lookup Pt=none)
  (hg:sK.gens = #[])
  (ha:sK.heap.get? a=some {cls:=.type "list",data:=.seq vs.toArray}) (hi:ybC vs ns) (hl:ns.length<=yat) (hr:yz k ydX)
  (F:∀base:Heap,K.In base->base.Ns yae mg->vp P w K mg base CX k fa fd [x] sp) (hbind:∀(s:yab)(u:Value),ydW s fd ⟨[u],[]⟩ [(x,u)])
  (hsp:∀H:Hp,qoY H->(∀c Pt pos q,lm=some (c,Pt,pos,q)->H Pt=some (.lam pos q))->SqL K H a (ns.map V.int)->sp [.ref a] H (λv _=>v=.bl true) λ_ _ _=>False)
  (hCX:∀H e s',CX [] H sK (λ_ _ _=>False) e s'->False) :
  ycf (model P w) ydX (.call (.ref fa) ⟨[.ref a],[]⟩) (λr s'=>r=.ok (.ret (.bool true))/\OldK sK.heap s'.heap/\s'.os=sK.os/\ycs s'.gens) sK:=by
 have rv:=qdC hi
 have lenV:=hi.length
 have core:∀H:Hp,qoY H->(∀c Pt pos q,lm=some (c,Pt,pos,q)->H Pt=some (.lam pos q))->SqL K H a (ns.map V.int)->HOk P w H sK.heap ->
   (∀b u,H b=some u->K.lookup b=none/\((∃o xs,u=.frz o (.lst xs))\/∃c pos q,lm=some (c,b,pos,q)/\u=.lam pos q)) ->
   ycf (model P w) ydX (.call (.ref fa) ⟨[.ref a],[]⟩) (λr s'=>r=.ok (.ret (.bool true))/\OldK sK.heap s'.heap/\s'.os=sK.os/\ycs s'.gens) sK:=by
  intro H hO hT hS hok hA
  have base_of:∀{b:Addr}{o:Obj},sK.heap.get? b=some o->H b=none->(qi2 sK.heap H).get? b=some o:=λe n=>qi3 e n
  have noD:∀{b:Addr}{o:Obj},sK.heap.get? b=some o->(∀its n,o.data ≠ .seq its n)->(∀f,o.data ≠ .fields f)->H b=none:=λ{b o} e d1 d2=>by
   cases q:H b with
   |none=>rfl
   | some u=>
    rcases(hA b u q).2 with⟨ob,xs,rfl⟩|⟨c,pos,q',hl2,rfl⟩
    ·obtain⟨e1,_,its,n,_,e2⟩:=hok b _ q
     rw[e]at e2;cases e2
     exact(d1 _ _ rfl).elim
    ·have e2:=(hlm _ _ _ _ hl2).2.1
     rw[e]at e2;cases e2
     exact(d2 _ rfl).elim
  have nsK:∀{b:Addr}{m:Str->Option Value},sK.heap.Ns b m->(qi2 sK.heap H).Ns b m:=λ{b m} ⟨o,es,ep,e,d,r⟩=>⟨o,es,ep,base_of e (noD e (λ_ _ z=>by rw[d]at z;cases z) λ_ z=>by rw[d]at z;cases z),d,r⟩
  have hKb:K.In (qi2 sK.heap H):=λb o e=>base_of (KX b o e) (by
   cases q:H b with
   |none=>rfl
   |some u=>rw[(hA b u q).1]at e;cases e)
  have hM:Mod K mg (qi2 sK.heap H):=⟨hKb,nsK hns,⟨mb,nsK hb,hbb⟩,let ⟨mc,h1,h2⟩:=hlim;⟨mc,nsK h1,h2⟩,
   let ⟨bm,ob,b1,b2,b3,b4,b5,b6⟩:=hbm;⟨bm,ob,b1,b2,base_of b3 (noD b3 (λ_ _ z=>by rw[b6]at z;cases z) λ_ z=>by rw[b6]at z;cases z),b4,b5,b6⟩⟩
  have e0:qiV P w K mg (qi2 sK.heap H) ydX [] sK H:=⟨rfl,hM,λb o e=>qlg e,Nat.le_of_eq (qg4 _ _),trivial,λb hb=>absurd (show b∈([]:List Addr)from hb) (by simp),hok,.of_eq hg⟩
  refine yc6 ((F _ hKb (nsK hns)).run ydX [] sK H ⟨[.ref a],[]⟩ [.ref a] [.ref a] _ _ hr e0 (hbind sK (.ref a)) (.cons rfl .nil) (hsp H hO hT hS)) λr s' h=>?_
  cases r with
  |error e=>exact(hCX H e s' h).elim
  | ok fl=>
   cases fl with
   |next=>exact yaT h
   |brk=>exact yaT h
   |cont=>exact yaT h
   | ret u=>
    obtain⟨v,H',os,bare,un,hok',r',q⟩:=h
    have q':v=.bl true:=q
    subst q'
    obtain rfl:u=ybd true:=r'
    have asIt:∀b o,sK.heap.get? b=some o->asItWas sK.heap s'.heap b o:=λb o e=>by
     cases q:H b with
     |none=>exact .inl (un.keep b o e q (by intro z;exact absurd (show b∈([]:List Addr)from z) (by simp)) (by simp))
     | some u=>
      rcases(hA b u q).2 with⟨ob,xs,rfl⟩|⟨c,pos,q2,hl2,rfl⟩
      ·have z2:=un.frzs b ob _ q
       obtain⟨e1,_⟩:=hok b _ q
       obtain⟨e2,_⟩:=hok' b _ z2
       rw[e]at e1;cases e1
       exact .inl e2
      ·obtain⟨hc,e2,_⟩:=hlm _ _ _ _ hl2
       rw[e]at e2;cases e2
       rcases hok' b _ (un.tbls b pos q2 q)with z|⟨c',oc,vs',t,_,_,_,z⟩
       ·exact .inl z
       ·exact .inr (.inl ⟨(hc.tab e).isCodeTable,rfl,#[],_,rfl,by rw[Array.empty_append];exact z⟩)
    exact⟨rfl,⟨asIt,λb o e=>un.there b o e (by simp)⟩,os,bare⟩
 let T:Hp:=qoZ lm
 have hTb:∀b u,T b=some u->∃c pos q,lm=some (c,b,pos,q)/\u=.lam pos q:=λb u z=>by
  cases hq:lm with
  |none=>simp only[T,hq,qoZ]at z;cases z
  | some p=>
   obtain⟨c,Pt,pos,q⟩:=p
   simp only[T,hq,qoZ]at z
   by_cases hbp:b=Pt
   ·rw[if_pos hbp]at z;cases z
    exact⟨c,pos,q,by rw[hbp],rfl⟩
   ·rw[if_neg hbp]at z;cases z
 have hTa:T a=none:=by
  cases q:T a with
  |none=>rfl
  |some u=>
   obtain⟨c,pos,q2,hl2,_⟩:=hTb a u q
   have:=(hlm _ _ _ _ hl2).2.1
   rw[ha]at this;cases this
 have hTt:∀c Pt pos q,lm=some (c,Pt,pos,q)->T Pt=some (.lam pos q):=λc Pt pos q e=>by
  simp only[T,e,qoZ,if_true]
 cases hk:K.lookup a with
 | some o=>
  have e:=KX a o hk
  rw[ha]at e
  cases e
  refine core T (λb=>?_) hTt (.inr ⟨_,vs.toArray,_,hk,rfl,rfl,rfl,by rw[sT_,lenV];exact hl,by simpa using rv⟩) (λb u z=>?_) (λb u z=>?_)
  ·cases q:T b with
   |none=>exact .inl rfl
   |some u=>obtain⟨_,pos,q2,_,rfl⟩:=hTb b u q;exact .inr (.inr ⟨pos,q2,rfl⟩)
  ·obtain⟨c,pos,q2,hl2,rfl⟩:=hTb b u z
   exact .inl (hlm _ _ _ _ hl2).2.1
  ·obtain⟨c,pos,q2,hl2,rfl⟩:=hTb b u z
   exact⟨(hlm _ _ _ _ hl2).2.2,.inr ⟨c,pos,q2,hl2,rfl⟩⟩
 | none=>
  refine core (upd T a (.frz {cls:=.type "list",data:=.seq vs.toArray} (.lst (ns.map V.int)))) (λb=>?_) (λc Pt pos q e=>?_) (.inl (.inr ⟨{cls:=.type "list",data:=.seq vs.toArray},qv⟩)) (λb u z=>?_) (λb u z=>?_)
  ·by_cases hb:b=a
   ·subst hb;exact .inr (.inl ⟨_,_,qv⟩)
   ·rw[qw hb]
    cases q:T b with
    |none=>exact .inl rfl
    |some u=>obtain⟨_,pos,q2,_,rfl⟩:=hTb b u q;exact .inr (.inr ⟨pos,q2,rfl⟩)
  ·have h1:=hTt c Pt pos q e
   rw[qw (za h1 hTa)]
   exact h1
  ·by_cases hb:b=a
   ·subst hb
    rw[qv]at z;cases z
    exact⟨ha,by rw[lM_];exact hl,vs,_,rv,ha⟩
   ·rw[qw hb]at z
    obtain⟨c,pos,q2,hl2,rfl⟩:=hTb b u z
    exact .inl (hlm _ _ _ _ hl2).2.1
  ·by_cases hb:b=a
   ·subst hb
    rw[qv]at z;cases z
    exact⟨hk,.inl ⟨_,_,rfl⟩⟩
   ·rw[qw hb]at z
    obtain⟨c,pos,q2,hl2,rfl⟩:=hTb b u z
    exact⟨(hlm _ _ _ _ hl2).2.2,.inr ⟨c,pos,q2,hl2,rfl⟩⟩
end L2
namespace L2
open PySem PySem.Spec PyProof.Rows
end L2
/- THE LAST THEOREM (shape;LID,My.* are yours):
   My.Adr: a structure of the addresses that your layer names (classes,functions);My.Txt K t: a structure (Prop) of the equations over K;
   My.txt_mk:{K} {implicit addresses ..} (e1:nsIn K yae "law"=some (some (.ref f))) (e2:K.lookup f=some ⟨oc,od,.func (fnOf "law" "law" params body scope dV kV doc pm an cdv ct),sl⟩) (e3:codeIn K cdv "law"=true) .. : ∃t,My.Txt K t
set_option maxRecDepth 100000 in
set_option maxHeartbeats 0 in
theorem PySem.Challenge.cw_LID_holds : PySem.Challenge.rw_LID.Holds := by
 w_on;o_law;k_head;(case hw=>w_witness2)
 k_fill
 refine L2.walk_of (l:=PySem.Challenge.rw_LID) (n:=63) (k:=40) (x:="script") (CX:=λw => ..) (sp:=λ_=>My.sp_law) rfl (by decide) rfl ⟨rfl,by decide,by decide⟩ (λw h Y=>PySem.W.kIn_of Y) ?F ?S ?C
 case F=>
  intro w mg fa h KX G hmg
  have T:∃t,My.Txt (L2.KOf KX) t:=by
   dsimp only[L2.KOf]                          -- K must stand as «<heap const> w.params» for k_is
   refine' My.txt_mk ?e1 ?e2 ?e3 ..
   (case e1=>PySem.W.k_is)                    -- in the order: a name->its address->its object->its parts
   (case e2=>PySem.W.k_is)
   ..
  obtain⟨t,T⟩:=T
  have e0:=hmg.symm.trans (yao KX G T.law)
  cases e0                                       -- fa is the law's own address
  exact⟨_,λs u => .of_eq rfl,λbase kb nb=>My.law_fn T kb nb⟩     -- if «.of_eq rfl» comes too early: refine' ⟨_,?b,λbase kb nb=>My.law_fn T kb nb⟩;exact λs u => .of_eq rfl
 case S=>exact λw H a ns hl hO hS => ..
 case C=>exact ..
(the tactic k_is has no namespace: write k_is) -/
namespace L2
open PySem PySem.Spec PyProof.Rows
def qG (s:Stmt):yee:=match s with
 |.FunctionDef _ a _ _ _ _ _ _ _ _=>a
 |_=>{posonlyargs:=[],args:=[],vararg:=none,kwonlyargs:=[],kw_defaults:=[],kwarg:=none,defaults:=[]}
def qy (s:Stmt):List Stmt:=match s with
 |.FunctionDef _ _ b _ _ _ _ _ _ _=>b
 |_=>[]
def qe (s:Stmt):Scope:=match s with
 |.FunctionDef _ _ _ _ _ _ sc _ _ _=>sc
 |_=>{kind:=.function,names:=[],isGenerator:=false,isCoroutine:=false}
abbrev CX0:CXT:=λ_ _ _ _ _ _=>False
abbrev E0:XK:=λ_ _ _=>False
theorem qlB{X:Cx}:qaZ CX0 X E0:=λ_ _ _ _ _ _ _ h=>h.elim
structure Fun (K:yaf) (x qual:Str) (st:Stmt) (f:Addr) (fd:yaS):Prop where
 ex:∃(oc:Value)(od:Option Addr)(kV doc pm:Value)(an:Option Addr)(cdv ct:Value)(osl:Array (Option Value)),
  fd=yap x qual (qG st) (qy st) (qe st) .none kV doc pm an cdv ct/\K.lookup f=some ⟨oc,od,.func fd,osl⟩/\yan K cdv qual=true
 kp:yaj K (.ref f)=true
section
variable{P:yas}{w:World}{K:yaf}{mg:Str->Option Value}{base:Heap}
theorem Fun.ok {x qual:Str} {st:Stmt} {f:Addr} {fd:yaS} {N ps:List Str} {k:Nat} {sp:Sp} (F:Fun K x qual st f fd) (S:qz N ps (qe st)) (len:∀vs H Q E,sp vs H Q E->vs.length=ps.length)
  (hbody:∀(cdv:Value)(A:yav)(outer:List Env)(s:yab)(H:Hp)(vs:List V)(Q:VK)(E:XK),yz k (A.deeper (ybj qual (qe st) s.heap.objs.size f cdv))->sp vs H Q E ->
   ∃t,PSs (qiW CX0 P w K mg base N qual (qe st) f cdv A outer s H E).nox (qy st) t/\t {nx:=λ_ H'=>Q .non H',rt:=Q} (ji N vs) H):vp P w K mg base CX0 (k+1) f fd ps sp:=by
 obtain⟨oc,od,kV,doc,pm,an,cdv,ct,osl,rfl,lk,hcd⟩:=F.ex
 refine qnp lk hcd S len λA outer s H vs Q E hr hsp=>?_
 obtain⟨t,h,q⟩:=hbody cdv A outer s H vs Q E hr hsp
 exact⟨t,h.nox,q⟩
theorem Fun.binds {x qual:Str} {st:Stmt} {f:Addr} {fd:yaS} {ps:List Str} (F:Fun K x qual st f fd)
  (h:∀(kV doc pm:Value)(an:Option Addr)(cdv ct:Value)(us:List Value),us.length=ps.length->bindArgs (yap x qual (qG st) (qy st) (qe st) .none kV doc pm an cdv ct) ⟨us,[]⟩=pure (ps.zip us)):vj K fd ps []:=by
 obtain⟨oc,od,kV,doc,pm,an,cdv,ct,osl,rfl,lk,hcd⟩:=F.ex
 exact .all (h kV doc pm an cdv ct)
theorem zm {x qual:Str} {st:Stmt} {f:Addr} {oc:Value} {od an:Option Addr} {osl:Array (Option Value)} {kV doc pm cdv ct:Value} (l:K.lookup f=some ⟨oc,od,.func (yap x qual (qG st) (qy st) (qe st) .none kV doc pm an cdv ct),osl⟩)
  (c:yan K cdv qual=true) (k:yaj K (.ref f)=true):Fun K x qual st f (yap x qual (qG st) (qy st) (qe st) .none kV doc pm an cdv ct):=⟨⟨oc,od,kV,doc,pm,an,cdv,ct,osl,rfl,l,c⟩,k⟩
end
section
variable{X:Cx}
end
theorem qny {A B:Prop} (h:B):if false=true then A else B:=by
 rw[if_neg yam]
 exact h
theorem qnz {A B:Prop} (h:A):if true=true then A else B:=by
 rw[if_pos rfl]
 exact h
def zZ(H H':Hp):Prop:=∀b o,H b=some o->H' b=some o
theorem zZ.refl(H:Hp):zZ H H:=λ_ _ h=>h
theorem zZ.trans{H H1 H2:Hp}(a:zZ H H1)(b:zZ H1 H2):zZ H H2:=λc o h=>b c o (a c o h)
theorem zZ.free {H H':Hp} (e:zZ H H') {l:Addr} (h:H' l=Option.none):H l=Option.none:=by
 cases q:H l with
 |none=>rfl
 |some o=>
  rw[e l o q]at h
  cases h
end L2
namespace L2.Sk
open PySem PySem.Spec PyProof.Rows
inductive D where
 |non|bl (b:Bool)|int (i:Int)|str (x:Str)|tup (xs:List D)|lst (xs:List D)|dic (kvs:List (Key×Int))|fz (ns:List Int)
 |exc (n:Str)
abbrev OD:=Option D
abbrev Fr0:=yaf
def qnA:FuncBody->Option Pos
 |.stmts [_,_,.Return (some (.Call _ _ [⟨_,.Lambda _ _ _ pos,_⟩] _)) _]=>some pos
 |_=>none
def lamOf (K:Fr0):Option (Addr×Addr×Pos):=match PySem.W.tabIn K "dearest_first",yak K yae "dearest_first" with
 |some (c,P),some (some (.ref f))=>(match K.lookup f with
  |some ⟨_,_,.func fd,_⟩=>(qnA fd.body).map λpos=>(c,P,pos)
  |_=>none)
 |_,_=>none
abbrev qpA:Str:="dearest_first.<locals>.<lambda>"
def qqg(K:Fr0)(H:Hp)(Io:Addr->Prop):Prop:=∀c P pos,lamOf K=some (c,P,pos)->H P=some (.lam pos qpA)/\¬Io P
abbrev qdD(K:Fr0)(H:Hp):Prop:=qqg K H λ_=>False
theorem qdD.same{K:Fr0}{H H':Hp}(h:qdD K H)(s:zZ H H'):qdD K H':=λc P pos e=>⟨s _ _ (h c P pos e).1,λz=>z⟩
structure XK6 (K:Fr0) (D:Addr):Prop where
 ga:ybF K (.ref D) "__getattribute__"=some (some (.builtin "BaseException.__getattribute__"))
 gt:ybF K (.ref D) "__getattr__"=some none
 cl:ybF K (.ref D) "__class__"=some (some (.builtin "object.__class__"))
 ob:PySem.W.mroIn K D (.type "object")=some true
 be:PySem.W.subIn K (.ref D) (.type "BaseException")=some true
 is:(PySem.W.clsIn K D).isSome=true
 no:∀T∈["int","bool","str","tuple","list","dict"],yes K (.ref D) (.type T)=some false
def vw (K:Fr0) (n:Str):Option Addr:=match yak K yae n with
 |some (some (.ref C))=>some C
 |_=>none
def clR(K:Fr0)(RN:List Str)(n:Str):Option Addr:=if RN.contains n then vw K n else none
theorem qff {K:Fr0} {RN:List Str} {n:Str} {C:Addr} (h:clR K RN n=some C):RN.contains n=true/\vw K n=some C:=by
 unfold clR at h
 split at h
 ·rename_i hn;exact⟨hn,h⟩
 ·cases h
def qqX(K:Fr0)(H:Hp)(a:Addr)(n:Str):Prop:=∃C,vw K n=some C/\XK6 K C/\∃o vs,H a=some (.frz o (.own a))/\o.cls=.ref C/\o.data=.fields vs
def TupAt (K:Fr0) (H:Hp) (a:Addr) (xs:List V):Prop :=
 H a=some (.tup xs)\/∃(o:Obj)(its:Array Value)(n:Nat),K.lookup a=some o/\o.cls=.type "tuple"/\o.data=.seq its n/\its.size<=yat/\zt xs its.toList
def qnB (K:Fr0) (H:Hp) (a:Addr) (xs:List V):Prop :=
 (∃o,H a=some (.frz o (.lst xs)))\/∃(o:Obj)(its:Array Value)(n:Nat),K.lookup a=some o/\o.cls=.type "list"/\o.dict=none/\o.data=.seq its n/\its.size<=yat/\zt xs its.toList
theorem TupAt.sq {K:Fr0} {H:Hp} {a:Addr} {xs:List V} (h:TupAt K H a xs):SqT K H a xs:=by
 rcases h with h|h
 ·exact .inl (.inl h)
 ·exact .inr h
theorem qnB.sq {K:Fr0} {H:Hp} {a:Addr} {xs:List V} (h:qnB K H a xs):SqL K H a xs:=by
 rcases h with h|h
 ·exact .inl (.inr h)
 ·exact .inr h
mutual
def Is (K:Fr0) (A:Addr->Prop) (H:Hp):D->V->Prop
 |.non,v=>v=.non
 |.bl b,v=>v=.bl b
 |.int i,v=>v=.int i
 |.str x,v=>v=.str x
 |.tup ds,v=>∃a xs,v=.ref a/\TupAt K H a xs/\IsL K A H ds xs
 |.lst ds,v=>∃a xs,v=.ref a/\A a/\H a=some (.lst xs)/\IsL K A H ds xs
 |.dic kvs,v=>∃a,v=.ref a/\A a/\H a=some (.dK (kvs.map λp=>(p.1,V.int p.2)))
 |.fz ns,v=>∃a,v=.ref a/\qnB K H a (ns.map V.int)
 |.exc n,v=>∃a,v=.ref a/\qqX K H a n
def IsL (K:Fr0) (A:Addr->Prop) (H:Hp):List D->List V->Prop
 | [],xs=>xs=[]
 |d::ds,xs=>∃x ys,xs=x::ys/\Is K A H d x/\IsL K A H ds ys
end
mutual
def imm:D->Bool
 |.tup ds=>immL ds
 |.lst _=>false
 |.dic _=>false
 |.fz _=>false
 |_=>true
def immL:List D->Bool
 | []=>true
 |d::ds=>imm d&&immL ds
end
structure Ext (A:Addr->Prop) (H H':Hp):Prop where
 tup:∀b xs,H b=some (.tup xs)->H' b=some (.tup xs)
 frz:∀b o u,H b=some (.frz o u)->H' b=some (.frz o u)
 at_:∀b o,A b->H b=some o->H' b=some o
theorem Ext.refl{A:Addr->Prop}{H:Hp}:Ext A H H:=⟨λ_ _ h=>h,λ_ _ _ h=>h,λ_ _ _ h=>h⟩
theorem Ext.of_same{A:Addr->Prop}{H H':Hp}(s:zZ H H'):Ext A H H':=⟨λb xs h=>s b _ h,λb o u h=>s b _ h,λb o _ h=>s b o h⟩
mutual
theorem Is.ext {K:Fr0} {A B:Addr->Prop} {H H':Hp} (e:Ext A H H') (hAB:∀a,A a->(H a).isSome=true->B a):∀{d:D}{v:V},Is K A H d v->Is K B H' d v
 |.non,_,h=>h
 |.bl _,_,h=>h
 |.int _,_,h=>h
 |.str _,_,h=>h
 |.tup ds,_,⟨a,xs,hv,h,r⟩=>⟨a,xs,hv,h.elim (λh => .inl (e.tup _ _ h)) .inr,IsL.ext e hAB r⟩
 |.lst ds,_,⟨a,xs,hv,hA,h,r⟩=>⟨a,xs,hv,hAB a hA (by rw[h];rfl),e.at_ _ _ hA h,IsL.ext e hAB r⟩
 |.dic kvs,_,⟨a,hv,hA,h⟩=>⟨a,hv,hAB a hA (by rw[h];rfl),e.at_ _ _ hA h⟩
 |.fz ns,_,⟨a,hv,h⟩=>⟨a,hv,h.elim (λ⟨o,h⟩ => .inl ⟨o,e.frz _ _ _ h⟩) .inr⟩
 |.exc n,_,⟨a,hv,C,hc,hk,o,vs,h,r⟩=>⟨a,hv,C,hc,hk,o,vs,e.frz _ _ _ h,r⟩
theorem IsL.ext {K:Fr0} {A B:Addr->Prop} {H H':Hp} (e:Ext A H H') (hAB:∀a,A a->(H a).isSome=true->B a):∀{ds:List D}{xs:List V},IsL K A H ds xs->IsL K B H' ds xs
 | [],_,h=>h
 |_::_,_,⟨x,ys,hx,h,r⟩=>⟨x,ys,hx,Is.ext e hAB h,IsL.ext e hAB r⟩
end
mutual
theorem Is.imm {K:Fr0} {A B:Addr->Prop} {H:Hp}:∀{d:D}{v:V},imm d=true->Is K A H d v->Is K B H d v
 |.non,_,_,h=>h
 |.bl _,_,_,h=>h
 |.int _,_,_,h=>h
 |.str _,_,_,h=>h
 |.tup ds,_,i,⟨a,xs,hv,h,r⟩=>⟨a,xs,hv,h,IsL.imm (by simpa [Sk.imm] using i) r⟩
 |.lst _,_,i,_=>by simp[Sk.imm]at i
 |.dic _,_,i,_=>by simp[Sk.imm]at i
 |.fz _,_,i,_=>by simp[Sk.imm]at i
 |.exc _,_,_,h=>h
theorem IsL.imm {K:Fr0} {A B:Addr->Prop} {H:Hp}:∀{ds:List D}{xs:List V},immL ds=true->IsL K A H ds xs->IsL K B H ds xs
 | [],_,_,h=>h
 |d::ds,_,i,⟨x,ys,hx,h,r⟩=>by
  have i':Sk.imm d=true/\immL ds=true:=by simpa [immL] using i
  exact⟨x,ys,hx,Is.imm i'.1 h,IsL.imm i'.2 r⟩
end
theorem IsL.length {K:Fr0} {A:Addr->Prop} {H:Hp}:∀{ds:List D}{xs:List V},IsL K A H ds xs->xs.length=ds.length
 | [],_,h=>by rw[h];rfl
 |_::_,_,⟨x,ys,hx,_,r⟩=>by rw[hx,lC_,lC_,IsL.length r]
theorem IsL.get {K:Fr0} {A:Addr->Prop} {H:Hp}:∀{ds:List D}{xs:List V}{i:Nat}{d:D},IsL K A H ds xs->ds[i]? = some d->∃x,xs[i]? = some x/\Is K A H d x
 | [],_,_,_,_,h=>by simp at h
 |e::_,_,0,d,⟨x,ys,hx,h,r⟩,hd=>by
  have e1:e=d:=by simpa using hd
  subst e1
  exact⟨x,by rw[hx];rfl,h⟩
 |_::ds,_,i+1,d,⟨x,ys,hx,h,r⟩,hd=>by
  obtain⟨y,h1,h2⟩:=IsL.get (i:=i) (d:=d) r (by simpa using hd)
  exact⟨y,by rw[hx];simpa using h1,h2⟩
theorem IsL.append {K:Fr0} {A:Addr->Prop} {H:Hp}:∀{ds es:List D}{xs ys:List V},IsL K A H ds xs->IsL K A H es ys->IsL K A H (ds++es) (xs++ys)
 | [],_,_,_,h,g=>by rw[h];exact g
 |_::_,_,_,_,⟨x,zs,hx,h,r⟩,g=>⟨x,zs++_,by rw[hx];rfl,h,IsL.append r g⟩
theorem IsL.take {K:Fr0} {A:Addr->Prop} {H:Hp}:∀{ds:List D}{xs:List V}(n:Nat),IsL K A H ds xs->IsL K A H (ds.take n) (xs.take n)
 |_,_,0,_=>by simp[IsL]
 | [],_,_+1,h=>by rw[h];simp[IsL]
 |_::_,_,n+1,⟨x,ys,hx,h,r⟩=>by rw[hx];exact⟨x,ys.take n,rfl,h,IsL.take n r⟩
theorem IsL.drop {K:Fr0} {A:Addr->Prop} {H:Hp}:∀{ds:List D}{xs:List V}(n:Nat),IsL K A H ds xs->IsL K A H (ds.drop n) (xs.drop n)
 |_,_,0,h=>h
 | [],_,_+1,h=>by rw[h];simp[IsL]
 |_::_,_,n+1,⟨x,ys,hx,h,r⟩=>by rw[hx];exact IsL.drop n r
theorem IsL.one{K:Fr0}{A:Addr->Prop}{H:Hp}{d:D}{v:V}(h:Is K A H d v):IsL K A H [d] [v]:=⟨v,[],rfl,h,rfl⟩
theorem IsL.set {K:Fr0} {A:Addr->Prop} {H:Hp} {d:D} {v:V} (hd:Is K A H d v):∀{ds:List D}{xs:List V}(n:Nat),IsL K A H ds xs->IsL K A H (ds.set n d) (xs.set n v)
 | [],_,_,h=>by rw[h];simp[IsL]
 |_::_,_,0,⟨x,ys,hx,h,r⟩=>by rw[hx];exact⟨v,ys,rfl,hd,r⟩
 |_::_,_,n+1,⟨x,ys,hx,h,r⟩=>by rw[hx];exact⟨x,ys.set n v,rfl,h,IsL.set hd n r⟩
abbrev Env:=List (OD)
structure Exn where
 cls:Str
 val:D
inductive R (α:Type) where
 |ok (a:α)|exc (x:Exn) (Z:Env)|bad
structure Fc where
 O:List Nat
 P:List Nat
 B:Addr->Prop
 H0:Hp
 Io:Addr->Prop
 E:Exn->Hp->Prop
 S:Nat->Option (Option V)
def Cl(O:List Nat)(σ:St)(a:Addr):Prop:=∀j∈O,σ[j]? ≠ some (some (.ref a))
def Cn(c:Fc)(σ:St)(a:Addr):Prop:=c.B a/\Cl c.O σ a
structure Rep (K:Fr0) (c:Fc) (Z:Env) (σ:St) (H:Hp):Prop where
 len:Z.length=σ.length
 val:∀i d,Z[i]? = some (some d)->∃v,σ[i]? = some (some v) /\
  ((i∈c.O/\∃ds a xs,d=.lst ds/\v=.ref a/\H a=some (.lst xs)/\IsL K (Cn c σ) H ds xs)\/(i ∉ c.O/\Is K (Cn c σ) H d v))
 own:∀j∈c.O,∀v,σ[j]? = some (some v)->∃a xs,v=.ref a/\H a=some (.lst xs)/\(c.H0 a=none\/(j∈c.P/\c.Io a))
 inj:∀i j a,i∈c.O->j∈c.O->σ[i]? = some (some (.ref a))->σ[j]? = some (some (.ref a))->i=j
 b0:(∀a,c.H0 a=none->c.B a)/\qqg K c.H0 c.Io
 kp:∀b o,c.H0 b=some o->¬c.Io b->H b=some o
 dm:∀b,H b=none->c.H0 b=none
 pO:∀j∈c.P,j∈c.O
 ps:∀j∈c.P,σ[j]? = c.S j
theorem Rep.tb{K:Fr0}{c:Fc}{Z:Env}{σ:St}{H:Hp}(r:Rep K c Z σ H):qdD K H:=λq P pos e=>⟨r.kp P _ (r.b0.2 q P pos e).1 (r.b0.2 q P pos e).2,λz=>z⟩
structure Gr (O:List Nat) (σ:St) (H H':Hp):Prop where
 ext:Ext (Cl O σ) H H'
 dom:∀b,H' b=none->H b=none
theorem Gr.refl{O:List Nat}{σ:St}{H:Hp}:Gr O σ H H:=⟨Ext.refl,λ_ h=>h⟩
theorem Gr.of_same{O:List Nat}{σ:St}{H H':Hp}(s:zZ H H'):Gr O σ H H':=⟨Ext.of_same s,λ_ h=>s.free h⟩
theorem Gr.trans {O:List Nat} {σ:St} {H H1 H2:Hp} (a:Gr O σ H H1) (b:Gr O σ H1 H2):Gr O σ H H2 :=
 ⟨⟨λc xs h=>b.ext.tup c xs (a.ext.tup c xs h),λc o u h=>b.ext.frz c o u (a.ext.frz c o u h),λc o hc h=>b.ext.at_ c o hc (a.ext.at_ c o hc h)⟩,λc h=>a.dom c (b.dom c h)⟩
theorem Gr.cn{c:Fc}{σ:St}{H H':Hp}(g:Gr c.O σ H H'):Ext (Cn c σ) H H':=⟨g.ext.tup,g.ext.frz,λb o hb h=>g.ext.at_ b o hb.2 h⟩
theorem Gr.is{K:Fr0}{c:Fc}{σ:St}{H H':Hp}{d:D}{v:V}(g:Gr c.O σ H H')(h:Is K (Cn c σ) H d v):Is K (Cn c σ) H' d v:=Is.ext g.cn (λ_ h _=>h) h
theorem Gr.isL{K:Fr0}{c:Fc}{σ:St}{H H':Hp}{d:List D}{v:List V}(g:Gr c.O σ H H')(h:IsL K (Cn c σ) H d v):IsL K (Cn c σ) H' d v:=IsL.ext g.cn (λ_ h _=>h) h
theorem Rep.new {K:Fr0} {c:Fc} {Z:Env} {σ:St} {H:Hp} (r:Rep K c Z σ H) {a:Addr} (h:H a=none):Cn c σ a :=
 ⟨r.b0.1 a (r.dm a h),λj hj e=>by obtain⟨b,xs,e1,e2,_⟩:=r.own j hj _ e;cases e1;rw[h]at e2;cases e2⟩
theorem Rep.same {K:Fr0} {c:Fc} {Z:Env} {σ:St} {H H':Hp} (r:Rep K c Z σ H) (s:zZ H H'):Rep K c Z σ H' where
 len:=r.len
 val:=λi d h=>by
  obtain⟨v,h1,h2⟩:=r.val i d h
  refine⟨v,h1,?_⟩
  rcases h2 with⟨hi,ds,a,xs,h3,h5,h6,h7⟩|⟨hi,h3⟩
  ·exact .inl ⟨hi,ds,a,xs,h3,h5,s _ _ h6,IsL.ext (Ext.of_same s) (λ_ h _=>h) h7⟩
  ·exact .inr ⟨hi,Is.ext (Ext.of_same s) (λ_ h _=>h) h3⟩
 own:=λj hj v h=>by
  obtain⟨a,xs,h1,h2,h3⟩:=r.own j hj v h
  exact⟨a,xs,h1,s _ _ h2,h3⟩
 inj:=r.inj
 b0:=r.b0
 kp:=λb o h1 h2=>s _ _ (r.kp b o h1 h2)
 dm:=λb h=>r.dm b (s.free h)
 pO:=r.pO
 ps:=r.ps
theorem Rep.get {K:Fr0} {c:Fc} {Z:Env} {σ:St} {H:Hp} (r:Rep K c Z σ H) {i:Nat} {d:D} (hi:i ∉ c.O) (h:Z[i]? = some (some d)):∃v,σ[i]? = some (some v)/\Is K (Cn c σ) H d v:=by
 obtain⟨v,h1,h2⟩:=r.val i d h
 rcases h2 with⟨h3,_⟩|⟨_,h3⟩
 ·exact absurd h3 hi
 ·exact⟨v,h1,h3⟩
theorem Rep.getO {K:Fr0} {c:Fc} {Z:Env} {σ:St} {H:Hp} (r:Rep K c Z σ H) {i:Nat} {d:D} (hi:i∈c.O) (h:Z[i]? = some (some d)) :
  ∃ds a xs,d=.lst ds/\σ[i]? = some (some (.ref a))/\H a=some (.lst xs)/\IsL K (Cn c σ) H ds xs:=by
 obtain⟨v,h1,h2⟩:=r.val i d h
 rcases h2 with⟨_,ds,a,xs,h3,h5,h6,h7⟩|⟨h3,_⟩
 ·subst h5;exact⟨ds,a,xs,h3,h1,h6,h7⟩
 ·exact absurd hi h3
abbrev M(α:Type):=Env->R (α×Env)
def Wp (K:Fr0) (c:Fc) (σ:St) (H:Hp) (Q:VK):R (D×Env)->Prop
 |.ok (d,Z)=>∀v H',Rep K c Z σ H'->Is K (Cn c σ) H' d v->Gr c.O σ H H'->Q v H'
 |.exc x Z=>∀H',Rep K c Z σ H'->Gr c.O σ H H'->c.E x H'
 |.bad=>False
def WpB (K:Fr0) (c:Fc) (σ:St) (H:Hp) (Q:Bool->Hp->Prop):R (Bool×Env)->Prop
 |.ok (b,Z)=>∀H',Rep K c Z σ H'->Gr c.O σ H H'->Q b H'
 |.exc x Z=>∀H',Rep K c Z σ H'->Gr c.O σ H H'->c.E x H'
 |.bad=>False
def WpL (K:Fr0) (c:Fc) (σ:St) (H:Hp) (Q:List V->Hp->Prop):R (List D×Env)->Prop
 |.ok (ds,Z)=>∀vs H',Rep K c Z σ H'->IsL K (Cn c σ) H' ds vs->Gr c.O σ H H'->Q vs H'
 |.exc x Z=>∀H',Rep K c Z σ H'->Gr c.O σ H H'->c.E x H'
 |.bad=>False
def DE(X:Cx)(c:Fc)(e:Expr)(f:M D):Prop:=∃t,PE X e t/\∀Z σ H Q,Rep X.K c Z σ H->Wp X.K c σ H Q (f Z)->t σ H Q
def DT(X:Cx)(c:Fc)(e:Expr)(f:M Bool):Prop:=∃t,PT X e t/\∀Z σ H Q,Rep X.K c Z σ H->WpB X.K c σ H Q (f Z)->t σ H Q
def DA(X:Cx)(c:Fc)(es:List Expr)(f:M (List D)):Prop:=∃t,PA X es t/\∀Z σ H Q,Rep X.K c Z σ H->WpL X.K c σ H Q (f Z)->t σ H Q
def ret{α:Type}(a:α):M α:=λZ => .ok (a,Z)
def bnd {α β:Type} (f:M α) (k:α->M β):M β:=λZ=>match f Z with
 |.ok (a,Z')=>k a Z'
 |.exc x Z' => .exc x Z'
 |.bad => .bad
def lift {α:Type}:Option α->M α
 |some a=>ret a
 |none=>λ_ => .bad
theorem qkt{α β:Type}{f:M α}{k:α->M β}{Z Z':Env}{a:α}(h:f Z=.ok (a,Z')):bnd f k Z=k a Z':=by unfold bnd;rw[h]
section
variable{K:Fr0}{c:Fc}{σ:St}{H H1:Hp}{Q:VK}{QB:Bool->Hp->Prop}{QL:List V->Hp->Prop}{r:R (D×Env)}
theorem Wp.gr:∀{r:R (D×Env)},Wp K c σ H Q r->Gr c.O σ H H1->Wp K c σ H1 Q r
 |.ok (d,Z),h,g=>λv H' hr hi hg=>h v H' hr hi (g.trans hg)
 |.exc x Z,h,g=>λH' hr hg=>h H' hr (g.trans hg)
 |.bad,h,_=>h
theorem WpB.gr:∀{r:R (Bool×Env)},WpB K c σ H QB r->Gr c.O σ H H1->WpB K c σ H1 QB r
 |.ok (d,Z),h,g=>λH' hr hg=>h H' hr (g.trans hg)
 |.exc x Z,h,g=>λH' hr hg=>h H' hr (g.trans hg)
 |.bad,h,_=>h
theorem WpL.gr:∀{r:R (List D×Env)},WpL K c σ H QL r->Gr c.O σ H H1->WpL K c σ H1 QL r
 |.ok (d,Z),h,g=>λv H' hr hi hg=>h v H' hr hi (g.trans hg)
 |.exc x Z,h,g=>λH' hr hg=>h H' hr (g.trans hg)
 |.bad,h,_=>h
theorem Wp.bnd {f:M D} {k:D->M D} {Z:Env} {Q':VK} (h:Wp K c σ H Q (bnd f k Z)) (hQ:∀d Z' v H',Rep K c Z' σ H'->Is K (Cn c σ) H' d v->Gr c.O σ H H'->Wp K c σ H' Q (k d Z')->Q' v H'):Wp K c σ H Q' (f Z):=by
 unfold Sk.bnd at h
 cases e:f Z with
 |ok p=>rw[e]at h;exact λv H' hr hi hg=>hQ p.1 p.2 v H' hr hi hg (h.gr hg)
 |exc x Z'=>rw[e]at h;exact h
 |bad=>rw[e]at h;exact h
theorem Wp.bndB {f:M D} {k:D->M Bool} {Z:Env} {Q':VK} (h:WpB K c σ H QB (Sk.bnd f k Z)) (hQ:∀d Z' v H',Rep K c Z' σ H'->Is K (Cn c σ) H' d v->Gr c.O σ H H'->WpB K c σ H' QB (k d Z')->Q' v H'):Wp K c σ H Q' (f Z):=by
 unfold Sk.bnd at h
 cases e:f Z with
 |ok p=>rw[e]at h;exact λv H' hr hi hg=>hQ p.1 p.2 v H' hr hi hg (h.gr hg)
 |exc x Z'=>rw[e]at h;exact h
 |bad=>rw[e]at h;exact h
theorem Wp.bndL {f:M D} {k:D->M (List D)} {Z:Env} {Q':VK} (h:WpL K c σ H QL (Sk.bnd f k Z)) (hQ:∀d Z' v H',Rep K c Z' σ H'->Is K (Cn c σ) H' d v->Gr c.O σ H H'->WpL K c σ H' QL (k d Z')->Q' v H'):Wp K c σ H Q' (f Z):=by
 unfold Sk.bnd at h
 cases e:f Z with
 |ok p=>rw[e]at h;exact λv H' hr hi hg=>hQ p.1 p.2 v H' hr hi hg (h.gr hg)
 |exc x Z'=>rw[e]at h;exact h
 |bad=>rw[e]at h;exact h
theorem WpB.bndB {f:M Bool} {k:Bool->M Bool} {Z:Env} {Q':Bool->Hp->Prop} (h:WpB K c σ H QB (Sk.bnd f k Z)) (hQ:∀d Z' H',Rep K c Z' σ H'->Gr c.O σ H H'->WpB K c σ H' QB (k d Z')->Q' d H'):WpB K c σ H Q' (f Z):=by
 unfold Sk.bnd at h
 cases e:f Z with
 |ok p=>rw[e]at h;exact λH' hr hg=>hQ p.1 p.2 H' hr hg (h.gr hg)
 |exc x Z'=>rw[e]at h;exact h
 |bad=>rw[e]at h;exact h
theorem WpL.bnd {f:M (List D)} {k:List D->M D} {Z:Env} {Q':List V->Hp->Prop} (h:Wp K c σ H Q (Sk.bnd f k Z)) (hQ:∀d Z' v H',Rep K c Z' σ H'->IsL K (Cn c σ) H' d v->Gr c.O σ H H'->Wp K c σ H' Q (k d Z')->Q' v H'):WpL K c σ H Q' (f Z):=by
 unfold Sk.bnd at h
 cases e:f Z with
 |ok p=>rw[e]at h;exact λv H' hr hi hg=>hQ p.1 p.2 v H' hr hi hg (h.gr hg)
 |exc x Z'=>rw[e]at h;exact h
 |bad=>rw[e]at h;exact h
theorem WpL.bndL {f:M (List D)} {k:List D->M (List D)} {Z:Env} {Q':List V->Hp->Prop} (h:WpL K c σ H QL (Sk.bnd f k Z)) (hQ:∀d Z' v H',Rep K c Z' σ H'->IsL K (Cn c σ) H' d v->Gr c.O σ H H'->WpL K c σ H' QL (k d Z')->Q' v H'):WpL K c σ H Q' (f Z):=by
 unfold Sk.bnd at h
 cases e:f Z with
 |ok p=>rw[e]at h;exact λv H' hr hi hg=>hQ p.1 p.2 v H' hr hi hg (h.gr hg)
 |exc x Z'=>rw[e]at h;exact h
 |bad=>rw[e]at h;exact h
theorem Wp.lift {o:OD} {Z:Env} (h:Wp K c σ H Q (Sk.lift o Z)):∃d,o=some d/\∀v H',Rep K c Z σ H'->Is K (Cn c σ) H' d v->Gr c.O σ H H'->Q v H':=by
 cases o with
 |none=>exact h.elim
 |some d=>exact⟨d,rfl,h⟩
end
section
variable{X:Cx}{c:Fc}{a b e:Expr}{pos:Pos}
theorem qf{i j pos}:DE X c (.Constant (.int i) j pos) (ret (.int i)):=⟨_,qmZ,λ_ _ H Q r h=>h _ H r rfl .refl⟩
theorem vm{i j pos}:DE X c (.Constant (.bool i) j pos) (ret (.bl i)):=⟨_,qpc,λ_ _ H Q r h=>h _ H r rfl .refl⟩
theorem wD{j pos}:DE X c (.Constant .none j pos) (ret .non):=⟨_,qm0,λ_ _ H Q r h=>h _ H r rfl .refl⟩
theorem jY{x j pos}:DE X c (.Constant (.str x) j pos) (ret (.str x)):=⟨_,qm1,λ_ _ H Q r h=>h _ H r rfl .refl⟩
def dv (i:Nat):M D:=λZ=>match Z[i]? with
 |some (some d) => .ok (d,Z)
 |_ => .bad
theorem qc (i:Nat) {x:Str} (ho:i ∉ c.O:=by exact of_decide_eq_false rfl) (hN:X.N[i]? = some x:=by rfl) (hv:Vis X.env.scope x:=by first|exact ya4 rfl|exact yaI (ya4 rfl)|exact yaI (yaI rfl)) (hd:(x==("__debug__":Str))=false:=by decide)
  (hcd:(x==("__classdict__":Str))=false:=by decide):DE X c (.Name x pos) (dv i):=by
 refine⟨_,uH hN hv hd hcd,λZ σ H Q r h=>?_⟩
 unfold dv at h
 split at h
 ·rename_i d e
  obtain⟨v,h1,h2⟩:=r.get ho e
  exact⟨v,h1,h v H r h2 .refl⟩
 ·exact h.elim
theorem qhv {x:Str} {v:V} {u:Value} {d:D} (hg:Gl X x) (hm:X.mg x=some u) (rv:jG v u) (hd:∀H A,Is X.K A H d v) (hdb:(x==("__debug__":Str))=false:=by decide):DE X c (.Name x pos) (ret d) :=
 ⟨_,qcA hg hm rv hdb,λ_ _ H Q r h=>h _ H r (hd _ _) .refl⟩
theorem qd:DA X c [] (ret []):=⟨_,vv,λ_ _ H Q r h=>h _ H r rfl .refl⟩
def qa(f:M D)(g:M (List D)):M (List D):=bnd f λd=>bnd g λds=>ret (d::ds)
theorem qb {es:List Expr} {f:M D} {g:M (List D)} (ha:DE X c e f) (hr:DA X c es g) (hs:yac (e::es) X.env=(false,eval e X.env)::yac es X.env:=by rfl):DA X c (e::es) (qa f g):=by
 obtain⟨ta,pa,wa⟩:=ha
 obtain⟨tr,pr,wr⟩:=hr
 refine⟨_,jH pa pr hs,λZ σ H Q r h=>wa Z σ H _ r (Wp.bndL h λd Z1 v H1 r1 i1 g1 h1=>wr Z1 σ H1 _ r1 (WpL.bndL h1 λds Z2 vs H2 r2 i2 g2 h2=>?_))⟩
 exact h2 _ H2 r2 ⟨v,vs,rfl,g2.is i1,i2⟩ .refl
def zp(n:Nat):Bool:=decide (n<=yat)
def qO(f:M (List D)):M D:=bnd f λds=>lift (if zp ds.length then some (.tup ds)else none)
def jI(f:M (List D)):M D:=bnd f λds=>lift (if zp ds.length then some (.lst ds)else none)
theorem qu{H:Hp}{p:Addr}(h:H p=none)(o:HO):zZ H (upd H p o):=λb u q=>by rw[qw (za q h)];exact q
theorem Rep.laid{K:Fr0}{Z:Env}{σ:St}{H:Hp}(r:Rep K c Z σ H){p:Addr}(h:H p=none)(o:HO):Rep K c Z σ (upd H p o):=r.same (qu h o)
theorem z0 {p:Bool} {d e:D} (h:(if p then some d else none)=some e):p=true/\d=e:=by
 cases p with
 |true=>exact⟨rfl,by simpa using h⟩
 |false=>simp at h
theorem qA {es:List Expr} {x1} {f:M (List D)} (h:DA X c es f):DE X c (.Tuple es x1 pos) (qO f):=by
 obtain⟨t,p,w⟩:=h
 refine⟨_,qnm p,λZ σ H Q r h=>w Z σ H _ r (WpL.bnd h λds Z1 vs H1 r1 i1 g1 h1=>?_)⟩
 obtain⟨d,e,h2⟩:=h1.lift
 obtain⟨e1,e2⟩:=z0 e
 subst e2
 refine⟨by rw[i1.length];exact of_decide_eq_true e1,λp hp=>h2 _ _ (r1.laid hp _) ⟨p,vs,rfl,.inl qv,IsL.ext (Ext.of_same (qu hp _)) (λ_ h _=>h) i1⟩ (.of_same (qu hp _))⟩
theorem jj {es:List Expr} {f:M (List D)} (h:DA X c es f):DE X c (.List es pos) (jI f):=by
 obtain⟨t,p,w⟩:=h
 refine⟨_,qkr p,λZ σ H Q r h=>w Z σ H _ r (WpL.bnd h λds Z1 vs H1 r1 i1 g1 h1=>?_)⟩
 obtain⟨d,e,h2⟩:=h1.lift
 obtain⟨e1,e2⟩:=z0 e
 subst e2
 refine⟨by rw[i1.length];exact of_decide_eq_true e1,λp hp=>h2 _ _ (r1.laid hp _) ⟨p,vs,rfl,r1.new hp,qv,IsL.ext (Ext.of_same (qu hp _)) (λ_ h _=>h) i1⟩ (.of_same (qu hp _))⟩
def OpS (K:Fr0) (F:D->D->OD) (r:R2):Prop:=∀(A:Addr->Prop)(H:Hp)(x y d:D)(v u:V)(Q:VK),(∀a,H a=none->A a)->Is K A H x v->Is K A H y u->F x y=some d ->
 (∀w H',zZ H H'->Is K A H' d w->Q w H')->r v u H Q
def d2(F:D->D->OD)(f g:M D):M D:=bnd f λx=>bnd g λy=>lift (F x y)
theorem op2 {r:R2} {F:D->D->OD} {f g:M D} {ta tb:TE} (hF:OpS X.K F r) (wa:∀Z σ H Q,Rep X.K c Z σ H->Wp X.K c σ H Q (f Z)->ta σ H Q) (wb:∀Z σ H Q,Rep X.K c Z σ H->Wp X.K c σ H Q (g Z)->tb σ H Q) :
  ∀Z σ H Q,Rep X.K c Z σ H->Wp X.K c σ H Q (d2 F f g Z)->tOp r ta tb σ H Q:=λZ σ H Q rp h=>wa Z σ H _ rp (Wp.bnd h λx Z1 v H1 r1 i1 g1 h1=>wb Z1 σ H1 _ r1 (Wp.bnd h1 λy Z2 u H2 r2 i2 g2 h2=>by
 obtain⟨d,e,h3⟩:=h2.lift
 exact hF _ H2 x y d v u Q (λa ha=>r2.new ha) (g2.is i1) i2 e λw H' s i=>h3 w H' (r2.same s) i (.of_same s)))
theorem qt {op:Operator} {r:R2} {F:D->D->OD} {f g:M D} (ho:OpR X (ybq op) r) (hF:OpS X.K F r) (ha:DE X c a f) (hb:DE X c b g):DE X c (.BinOp a op b pos) (d2 F f g):=by
 obtain⟨ta,pa,wa⟩:=ha
 obtain⟨tb,pb,wb⟩:=hb
 exact⟨_,qpo ho pa pb,op2 hF wa wb⟩
theorem vx {op:CmpOp} {r:R2} {F:D->D->OD} {f g:M D} (ho:OpR X (yaP op) r) (hF:OpS X.K F r) (ha:DE X c a f) (hb:DE X c b g) (hm:ybE op b=false):DE X c (.Compare a [op] [b] pos) (d2 F f g):=by
 obtain⟨ta,pa,wa⟩:=ha
 obtain⟨tb,pb,wb⟩:=hb
 exact⟨_,qlq ho pa pb hm,op2 hF wa wb⟩
def asB:D->Option Bool
 |.bl b=>some b
 |_=>none
def tst(f:M D):M Bool:=bnd f λd=>lift (asB d)
theorem qfg {K:Fr0} {σ:St} {H:Hp} {QB:Bool->Hp->Prop} {o:Option Bool} {Z:Env} (h:WpB K c σ H QB (lift o Z)):∃b,o=some b/\∀H',Rep K c Z σ H'->Gr c.O σ H H'->QB b H':=by
 cases o with
 |none=>exact h.elim
 |some d=>exact⟨d,rfl,h⟩
theorem qcF {d:D} {b:Bool} (h:asB d=some b):d=.bl b:=by
 cases d<;>simp[asB]at h
 subst h;rfl
theorem zB {op:CmpOp} {r:R2} {F:D->D->OD} {f g:M D} (ho:OpR X (yaP op) r) (hF:OpS X.K F r) (ha:DE X c a f) (hb:DE X c b g) (hm:ybE op b=false):DT X c (.Compare a [op] [b] pos) (tst (d2 F f g)):=by
 obtain⟨ta,pa,wa⟩:=ha
 obtain⟨tb,pb,wb⟩:=hb
 refine⟨_,qhh ho pa pb hm,λZ σ H Q rp h=>op2 hF wa wb Z σ H _ rp (Wp.bndB h λd Z1 v H1 r1 i1 g1 h1=>?_)⟩
 obtain⟨b,e,h2⟩:=qfg h1
 have:=qcF e
 subst this
 exact⟨b,i1,h2 H1 r1 .refl⟩
theorem vc {f:M D} (h:DE X c e f) (he:∀whole,isTrue e X.env whole=(do let v <-whole;yfp e.pos;ydi [v] (truthy v)):=by intro _;rfl):DT X c e (tst f):=by
 obtain⟨t,p,w⟩:=h
 refine⟨_,qm2 p he,λZ σ H Q rp h=>w Z σ H _ rp (Wp.bndB h λd Z1 v H1 r1 i1 g1 h1=>?_)⟩
 obtain⟨b,e,h2⟩:=qfg h1
 have:=qcF e
 subst this
 exact⟨b,i1,h2 H1 r1 .refl⟩
def wE(f:M Bool):M Bool:=bnd f λb=>ret (!b)
theorem vd {f:M Bool} (h:DT X c a f):DT X c (.UnaryOp .Not a pos) (wE f):=by
 obtain⟨t,p,w⟩:=h
 exact⟨_,qm5 p,λZ σ H Q rp h=>w Z σ H _ rp (WpB.bndB h λd Z1 H1 r1 g1 h1=>h1 H1 r1 .refl)⟩
def DW(X:Cx)(c:Fc)(e:Expr)(f:M Bool):Prop:=∃t,PW X e t/\∀Z σ H Q,Rep X.K c Z σ H->WpB X.K c σ H Q (f Z)->t σ H Q
theorem DW.dt {f:M Bool} (h:DW X c e f):DT X c e f:=by
 obtain⟨t,p,w⟩:=h
 exact⟨t,p.pt,w⟩
def qah(f g:M Bool):M Bool:=bnd f λb=>if b then g else ret false
def tor(f g:M Bool):M Bool:=bnd f λb=>if b then ret true else g
variable{qag:List Expr}
theorem qa7 {f:M Bool} (h:DT X c a f):DW X c (.BoolOp .And [a] pos) f:=by
 obtain⟨t,p,w⟩:=h
 exact⟨t,qli p,w⟩
theorem qaH {f:M Bool} (h:DT X c a f):DW X c (.BoolOp .Or [a] pos) f:=by
 obtain⟨t,p,w⟩:=h
 exact⟨t,qm3 p,w⟩
theorem qcb {f g:M Bool} (ha:DT X c a f) (hb:DW X c (.BoolOp .And (b::qag) pos) g):DW X c (.BoolOp .And (a::b::qag) pos) (qah f g):=by
 obtain⟨ta,pa,wa⟩:=ha
 obtain⟨tb,pb,wb⟩:=hb
 refine⟨_,qm4 pa pb,λZ σ H Q rp h=>wa Z σ H _ rp (WpB.bndB h λd Z1 H1 r1 g1 h1=>?_)⟩
 cases d with
 |true=>exact qnz (wb Z1 σ H1 Q r1 (by simpa using h1))
 |false=>exact qny ((by simpa using h1:WpB X.K c σ H1 Q (ret false Z1)) H1 r1 .refl)
theorem qdE {f g:M Bool} (ha:DT X c a f) (hb:DW X c (.BoolOp .Or (b::qag) pos) g):DW X c (.BoolOp .Or (a::b::qag) pos) (tor f g):=by
 obtain⟨ta,pa,wa⟩:=ha
 obtain⟨tb,pb,wb⟩:=hb
 refine⟨_,qpd pa pb,λZ σ H Q rp h=>wa Z σ H _ rp (WpB.bndB h λd Z1 H1 r1 g1 h1=>?_)⟩
 cases d with
 |true=>exact qnz ((by simpa using h1:WpB X.K c σ H1 Q (ret true Z1)) H1 r1 .refl)
 |false=>exact qny (wb Z1 σ H1 Q r1 (by simpa using h1))
def qo0(f:M D):M D:=bnd f λd=>bnd (lift (asB d)) λb=>ret (.bl (!b))
def qaR(f g:M D):M D:=bnd f λd=>bnd (lift (asB d)) λb=>if b then g else ret (.bl false)
def dor(f g:M D):M D:=bnd f λd=>bnd (lift (asB d)) λb=>if b then ret (.bl true)else g
theorem qhw {K:Fr0} {σ:St} {H:Hp} {Q:VK} {d:D} {k:Bool->M D} {Z:Env} (h:Wp K c σ H Q (bnd (lift (asB d)) k Z)):∃b,d=.bl b/\Wp K c σ H Q (k b Z):=by
 unfold bnd at h
 cases e:asB d with
 |none=>rw[e]at h;exact h.elim
 |some b=>rw[e]at h;exact⟨b,qcF e,h⟩
theorem wF {op} {f:M D} (h:DE X c a f):DE X c (.BoolOp op [a] pos) f:=by
 obtain⟨t,p,w⟩:=h
 exact⟨t,qm6 p,w⟩
theorem qnC {f:M D} (h:DE X c a f):DE X c (.UnaryOp .Not a pos) (qo0 f):=by
 obtain⟨t,p,w⟩:=h
 refine⟨_,qm8 p,λZ σ H Q rp h=>w Z σ H _ rp (Wp.bnd h λd Z1 v H1 r1 i1 g1 h1=>?_)⟩
 obtain⟨b,e,h2⟩:=qhw h1
 subst e
 exact⟨b,i1,h2 _ H1 r1 rfl .refl⟩
theorem wG {f g:M D} (ha:DE X c a f) (hb:DE X c (.BoolOp .And (b::qag) pos) g):DE X c (.BoolOp .And (a::b::qag) pos) (qaR f g):=by
 obtain⟨ta,pa,wa⟩:=ha
 obtain⟨tb,pb,wb⟩:=hb
 refine⟨_,qm7 pa pb,λZ σ H Q rp h=>wa Z σ H _ rp (Wp.bnd h λd Z1 v H1 r1 i1 g1 h1=>?_)⟩
 obtain⟨k,e,h2⟩:=qhw h1
 subst e
 refine⟨k,i1,?_⟩
 cases k with
 |true=>exact qnz (wb Z1 σ H1 Q r1 (by simpa using h2))
 |false=>exact qny ((by simpa using h2:Wp X.K c σ H1 Q (ret (.bl false) Z1)) _ H1 r1 rfl .refl)
theorem qji {f g:M D} (ha:DE X c a f) (hb:DE X c (.BoolOp .Or (b::qag) pos) g):DE X c (.BoolOp .Or (a::b::qag) pos) (dor f g):=by
 obtain⟨ta,pa,wa⟩:=ha
 obtain⟨tb,pb,wb⟩:=hb
 refine⟨_,qpg pa pb,λZ σ H Q rp h=>wa Z σ H _ rp (Wp.bnd h λd Z1 v H1 r1 i1 g1 h1=>?_)⟩
 obtain⟨k,e,h2⟩:=qhw h1
 subst e
 refine⟨k,i1,?_⟩
 cases k with
 |true=>exact qnz ((by simpa using h2:Wp X.K c σ H1 Q (ret (.bl true) Z1)) _ H1 r1 rfl .refl)
 |false=>exact qny (wb Z1 σ H1 Q r1 (by simpa using h2))
def dif(f:M Bool)(g k:M D):M D:=bnd f λb=>if b then g else k
def wH (K:Fr0) (F:List D->OD) (r:List V->Hp->VK->Prop):Prop:=∀(A:Addr->Prop)(H:Hp)(xs:List D)(d:D)(vs:List V)(Q:VK),(∀a,H a=none->A a)->IsL K A H xs vs->F xs=some d ->
 (∀w H',zZ H H'->Is K A H' d w->Q w H')->r vs H Q
def qq(F:List D->OD)(f:M (List D)):M D:=bnd f λds=>lift (F ds)
theorem qnD {r:List V->Hp->VK->Prop} {F:List D->OD} {f:M (List D)} {t:TA} (hF:wH X.K F r) (w:∀Z σ H Q,Rep X.K c Z σ H->WpL X.K c σ H Q (f Z)->t σ H Q) :
  ∀Z σ H Q,Rep X.K c Z σ H->Wp X.K c σ H Q (qq F f Z)->tCB r t σ H Q:=λZ σ H Q rp h=>w Z σ H _ rp (WpL.bnd h λds Z1 vs H1 r1 i1 g1 h1=>by
 obtain⟨d,e,h3⟩:=h1.lift
 exact hF _ H1 ds d vs Q (λa ha=>r1.new ha) i1 e λw H' s i=>h3 w H' (r1.same s) i (.of_same s))
theorem qP {id:String} {x:Str} {p:Pos} {es:List Expr} {r:List V->Hp->VK->Prop} {F:List D->OD} {f:M (List D)} (hc:yK X (.builtin id) r) (hF:wH X.K F r) (hg:Gl X x) (hm:X.mg x=none) (hv:yaB x=some (.builtin id)) (ha:DA X c (e::es) f) (hn:x≠"__name__":=by decide) (hdb:(x==("__debug__":Str))=false:=by decide)
  (he:yac (e::es) X.env=(false,eval e X.env)::yac es X.env:=by rfl) (hpl:(yaN pos (yac es X.env)).any (·.1)=false:=by rfl):DE X c (.Call (.Name x p) (e::es) [] pos) (qq F f):=by
 obtain⟨t,pa,w⟩:=ha
 exact⟨_,vM hc hg hm hv pa hn hdb he hpl,qnD hF w⟩
theorem qa8 {T:String} {x:Str} {p:Pos} {es:List Expr} {r:List V->Hp->VK->Prop} {F:List D->OD} {f:M (List D)} (hc:yK X (.type T) r) (hF:wH X.K F r) (hg:Gl X x) (hm:X.mg x=none) (hv:yaB x=some (.type T)) (ha:DA X c (e::es) f) (hn:x≠"__name__":=by decide) (hdb:(x==("__debug__":Str))=false:=by decide)
  (he:yac (e::es) X.env=(false,eval e X.env)::yac es X.env:=by rfl) (hpl:(yaN pos (yac es X.env)).any (·.1)=false:=by rfl):DE X c (.Call (.Name x p) (e::es) [] pos) (qq F f):=by
 obtain⟨t,pa,w⟩:=ha
 exact⟨_,qdx hc hg hm hv pa hn hdb he hpl,qnD hF w⟩
theorem zl {r:R2} {F:D->D->OD} {f g:M D} (hr:IxR X r) (hF:OpS X.K F r) (ha:DE X c a f) (hb:DE X c b g) (hs:qey b:=by intro _ _;rfl):DE X c (.Subscript a b pos) (d2 F f g):=by
 obtain⟨ta,pa,wa⟩:=ha
 obtain⟨tb,pb,wb⟩:=hb
 exact⟨_,qns hr pa pb hs,op2 hF wa wb⟩
end
inductive Fl where
 |nx (Z:Env)|rt (d:D) (Z:Env)|bk (Z:Env)|ct (Z:Env)
structure GrS (O:List Nat) (σ:St) (H:Hp) (σ':St) (H':Hp):Prop where
 ext:Ext (Cl O σ) H H'
 cl:∀b,Cl O σ b->(H b).isSome=true->Cl O σ' b
 dom:∀b,H' b=none->H b=none
theorem qgp {H H':Hp} {b:Addr} (dom:H' b=none->H b=none) (h:(H b).isSome=true):(H' b).isSome=true:=by
 cases e:H' b with
 |none=>rw[dom e]at h;cases h
 |some o=>rfl
theorem GrS.refl{O:List Nat}{σ:St}{H:Hp}:GrS O σ H σ H:=⟨Ext.refl,λ_ h _=>h,λ_ h=>h⟩
theorem Gr.s{O:List Nat}{σ:St}{H H':Hp}(g:Gr O σ H H'):GrS O σ H σ H':=⟨g.ext,λ_ h _=>h,g.dom⟩
theorem GrS.trans {O:List Nat} {σ σ1 σ2:St} {H H1 H2:Hp} (a:GrS O σ H σ1 H1) (b:GrS O σ1 H1 σ2 H2):GrS O σ H σ2 H2 :=
 ⟨⟨λc xs h=>b.ext.tup c xs (a.ext.tup c xs h),λc o u h=>b.ext.frz c o u (a.ext.frz c o u h),λc o hc h=>b.ext.at_ c o (a.cl c hc (by rw[h];rfl)) (a.ext.at_ c o hc h)⟩,
  λc hc h=>b.cl c (a.cl c hc h) (qgp (a.dom c) h),λc h=>a.dom c (b.dom c h)⟩
theorem GrS.is {K:Fr0} {c:Fc} {σ σ':St} {H H':Hp} {d:D} {v:V} (g:GrS c.O σ H σ' H') (h:Is K (Cn c σ) H d v):Is K (Cn c σ') H' d v :=
 Is.ext ⟨g.ext.tup,g.ext.frz,λb o hb h=>g.ext.at_ b o hb.2 h⟩ (λa ha hs=>⟨ha.1,g.cl a ha.2 hs⟩) h
theorem GrS.isL {K:Fr0} {c:Fc} {σ σ':St} {H H':Hp} {d:List D} {v:List V} (g:GrS c.O σ H σ' H') (h:IsL K (Cn c σ) H d v):IsL K (Cn c σ') H' d v :=
 IsL.ext ⟨g.ext.tup,g.ext.frz,λb o hb h=>g.ext.at_ b o hb.2 h⟩ (λa ha hs=>⟨ha.1,g.cl a ha.2 hs⟩) h
def WpS (K:Fr0) (c:Fc) (σ:St) (H:Hp) (D:qg0):R Fl->Prop
 |.ok (.nx Z)=>∀σ' H',Rep K c Z σ' H'->GrS c.O σ H σ' H'->D.nx σ' H'
 |.ok (.rt d Z)=>∀v σ' H',Rep K c Z σ' H'->Is K c.B H' d v->GrS c.O σ H σ' H'->D.rt v H'
 |.ok (.bk Z)=>∀σ' H',Rep K c Z σ' H'->GrS c.O σ H σ' H'->D.bk σ' H'
 |.ok (.ct Z)=>∀σ' H',Rep K c Z σ' H'->GrS c.O σ H σ' H'->D.ct σ' H'
 |.exc x Z=>∀σ' H',Rep K c Z σ' H'->GrS c.O σ H σ' H'->c.E x H'
 |.bad=>False
abbrev MS:=Env->R Fl
def DS(X:Cx)(c:Fc)(st:Stmt)(f:MS):Prop:=∃t,PS X st t/\∀Z σ H D,Rep X.K c Z σ H->WpS X.K c σ H D (f Z)->t D σ H
def DSs(X:Cx)(c:Fc)(st:List Stmt)(f:MS):Prop:=∃t,PSs X st t/\∀Z σ H D,Rep X.K c Z σ H->WpS X.K c σ H D (f Z)->t D σ H
theorem WpS.gr {K:Fr0} {c:Fc} {σ σ1:St} {H H1:Hp} {D:qg0}:∀{r:R Fl},WpS K c σ H D r->GrS c.O σ H σ1 H1->WpS K c σ1 H1 D r
 |.ok (.nx Z),h,g=>λσ' H' hr hg=>h σ' H' hr (g.trans hg)
 |.ok (.rt d Z),h,g=>λv σ' H' hr hi hg=>h v σ' H' hr hi (g.trans hg)
 |.ok (.bk Z),h,g=>λσ' H' hr hg=>h σ' H' hr (g.trans hg)
 |.ok (.ct Z),h,g=>λσ' H' hr hg=>h σ' H' hr (g.trans hg)
 |.exc x Z,h,g=>λσ' H' hr hg=>h σ' H' hr (g.trans hg)
 |.bad,h,_=>h
def sbnd {α:Type} (f:M α) (k:α->MS):MS:=λZ=>match f Z with
 |.ok (a,Z')=>k a Z'
 |.exc x Z' => .exc x Z'
 |.bad => .bad
section
variable{K:Fr0}{c:Fc}{σ:St}{H:Hp}{D:qg0}
theorem Wp.sbnd {f:M Sk.D} {k:Sk.D->MS} {Z:Env} {Q':VK} (h:WpS K c σ H D (sbnd f k Z)) (hQ:∀d Z' v H',Rep K c Z' σ H'->Is K (Cn c σ) H' d v->Gr c.O σ H H'->WpS K c σ H' D (k d Z')->Q' v H'):Wp K c σ H Q' (f Z):=by
 unfold Sk.sbnd at h
 cases e:f Z with
 |ok p=>rw[e]at h;exact λv H' hr hi hg=>hQ p.1 p.2 v H' hr hi hg (h.gr hg.s)
 |exc x Z'=>rw[e]at h;exact λH' hr hg=>h σ H' hr hg.s
 |bad=>rw[e]at h;exact h
theorem WpB.sbnd {f:M Bool} {k:Bool->MS} {Z:Env} {Q':Bool->Hp->Prop} (h:WpS K c σ H D (sbnd f k Z)) (hQ:∀d Z' H',Rep K c Z' σ H'->Gr c.O σ H H'->WpS K c σ H' D (k d Z')->Q' d H'):WpB K c σ H Q' (f Z):=by
 unfold Sk.sbnd at h
 cases e:f Z with
 |ok p=>rw[e]at h;exact λH' hr hg=>hQ p.1 p.2 H' hr hg (h.gr hg.s)
 |exc x Z'=>rw[e]at h;exact λH' hr hg=>h σ H' hr hg.s
 |bad=>rw[e]at h;exact h
theorem WpL.sbnd {f:M (List Sk.D)} {k:List Sk.D->MS} {Z:Env} {Q':List V->Hp->Prop} (h:WpS K c σ H D (sbnd f k Z)) (hQ:∀d Z' v H',Rep K c Z' σ H'->IsL K (Cn c σ) H' d v->Gr c.O σ H H'->WpS K c σ H' D (k d Z')->Q' v H'):WpL K c σ H Q' (f Z):=by
 unfold Sk.sbnd at h
 cases e:f Z with
 |ok p=>rw[e]at h;exact λv H' hr hi hg=>hQ p.1 p.2 v H' hr hi hg (h.gr hg.s)
 |exc x Z'=>rw[e]at h;exact λH' hr hg=>h σ H' hr hg.s
 |bad=>rw[e]at h;exact h
end
def qH (f g:MS):MS:=λZ=>match f Z with
 |.ok (.nx Z')=>g Z'
 |r=>r
theorem WpS.mono_nx {K:Fr0} {c:Fc} {σ:St} {H:Hp} {D:qg0} {f g:MS} {Z:Env} {N:St->Hp->Prop} (h:WpS K c σ H D (qH f g Z)) (hN:∀Z' σ' H',Rep K c Z' σ' H'->GrS c.O σ H σ' H'->WpS K c σ' H' D (g Z')->N σ' H') :
  WpS K c σ H {D with nx:=N} (f Z):=by
 unfold qH at h
 cases e:f Z with
 |ok fl=>
  rw[e]at h
  cases fl with
  |nx Z'=>exact λσ' H' hr hg=>hN Z' σ' H' hr hg (h.gr hg)
  |rt d Z'=>exact h
  |bk Z'=>exact h
  |ct Z'=>exact h
 |exc x Z'=>rw[e]at h;exact h
 |bad=>rw[e]at h;exact h
section
variable{X:Cx}{c:Fc}{a b e:Expr}{pos:Pos}{st:Stmt}{sts:List Stmt}
theorem qlC:DSs X c [] (λZ => .ok (.nx Z)):=⟨_,qlj,λZ σ H D r h=>h σ H r .refl⟩
theorem qk {f:MS} (h:DS X c st f):DSs X c [st] f:=by
 obtain⟨t,p,w⟩:=h
 exact⟨t,qg6 p,w⟩
theorem qh {f g:MS} (h:DS X c st f) (hr:DSs X c sts g):DSs X c (st::sts) (qH f g):=by
 obtain⟨t,p,w⟩:=h
 obtain⟨t2,p2,w2⟩:=hr
 exact⟨_,qi5 p p2,λZ σ H D r h=>w Z σ H _ r (h.mono_nx λZ' σ' H' r' g' h'=>w2 Z' σ' H' D r' h')⟩
def jd(f:M D):MS:=sbnd f λd Z => .ok (.rt d Z)
theorem Is.cn{K:Fr0}{σ:St}{H:Hp}{d:D}{v:V}(h:Is K (Cn c σ) H d v):Is K c.B H d v:=Is.ext Ext.refl (λ_ h _=>h.1) h
theorem qR {f:M D} (h:DE X c e f):DS X c (.Return (some e) pos) (jd f):=by
 obtain⟨t,p,w⟩:=h
 exact⟨_,qg7 p,λZ σ H D r h=>w Z σ H _ r (Wp.sbnd h λd Z1 v H1 r1 i1 g1 h1=>h1 v σ H1 r1 i1.cn .refl)⟩
def jk(f:M D):MS:=sbnd f λ_ Z => .ok (.nx Z)
theorem yf {f:M D} (h:DE X c e f) (hs:ycA e none pos.line X.env=pure false:=by rfl):DS X c (.Expr e pos) (jk f):=by
 obtain⟨t,p,w⟩:=h
 exact⟨_,qlk p hs,λZ σ H D r h=>w Z σ H _ r (Wp.sbnd h λd Z1 v H1 r1 i1 g1 h1=>h1 σ H1 r1 .refl)⟩
def sif(f:M Bool)(g k:MS):MS:=sbnd f λb=>if b then g else k
theorem jZ {t:Expr} {s1 s2:List Stmt} {f:M Bool} {g k:MS} (ht:DT X c t f) (ha:DSs X c s1 g) (hb:DSs X c s2 k):DS X c (.If t s1 s2 pos) (sif f g k):=by
 obtain⟨tt,pt,wt⟩:=ht
 obtain⟨ta,pa,wa⟩:=ha
 obtain⟨tb,pb,wb⟩:=hb
 refine⟨_,qpj pt pa pb,λZ σ H D rp h=>wt Z σ H _ rp (WpB.sbnd h λd Z1 H1 r1 g1 h1=>?_)⟩
 cases d with
 |true=>exact qnz (wa Z1 σ H1 D r1 (by simpa using h1))
 |false=>exact qny (wb Z1 σ H1 D r1 (by simpa using h1))
theorem zU{α:Type}{l:List α}{i j:Nat}{v:α}(h:j≠i):(l.set i v)[j]? = l[j]? := List.getElem?_set_ne (ybo h)
theorem Cl.set {O:List Nat} {σ:St} {i:Nat} {v:Option V} (hi:i ∉ O) (a:Addr):Cl O (σ.set i v) a ↔ Cl O σ a:=by
 constructor
 ·intro h j hj
  have e:j≠i:=λe=>hi (e▸hj)
  have:=h j hj
  rw[zU e]at this
  exact this
 ·intro h j hj
  have e:j≠i:=λe=>hi (e▸hj)
  rw[zU e]
  exact h j hj
theorem Rep.set {K:Fr0} {Z:Env} {σ:St} {H:Hp} {i:Nat} {d:D} {v:V} (r:Rep K c Z σ H) (hi:i ∉ c.O) (h:Is K (Cn c σ) H d v):Rep K c (Z.set i (some d)) (σ.set i (some v)) H where
 len:=by rw[lS_,lS_];exact r.len
 val := λj e hj=>by
  have up:∀{d':D}{v':V},Is K (Cn c σ) H d' v'->Is K (Cn c (σ.set i (some v))) H d' v':=λh=>Is.ext Ext.refl (λa ha _=>⟨ha.1,(Cl.set hi a).mpr ha.2⟩) h
  by_cases e1:j=i
  ·subst e1
   have hl:j<Z.length:=by
    have:=(gI_.mp hj).1
    rwa [lS_]at this
   rw[List.getElem?_set_self hl]at hj
   cases hj
   refine⟨v,List.getElem?_set_self (by rw[<-r.len];exact hl),.inr ⟨hi,up h⟩⟩
  ·rw[zU e1]at hj
   obtain⟨w,h1,h2⟩:=r.val j e hj
   refine⟨w,by rw[zU e1];exact h1,?_⟩
   rcases h2 with⟨hj2,ds,a,xs,h3,h5,h6,h7⟩|⟨h3,h4⟩
   ·exact .inl ⟨hj2,ds,a,xs,h3,h5,h6,IsL.ext Ext.refl (λa ha _=>⟨ha.1,(Cl.set hi a).mpr ha.2⟩) h7⟩
   ·exact .inr ⟨h3,up h4⟩
 own:=λj hj w h=>by
  have e1:j≠i:=λe=>hi (e▸hj)
  rw[zU e1]at h
  exact r.own j hj w h
 inj:=λj k a hj hk h1 h2=>by
  have e1:j≠i:=λe=>hi (e▸hj)
  have e2:k≠i:=λe=>hi (e▸hk)
  rw[zU e1]at h1
  rw[zU e2]at h2
  exact r.inj j k a hj hk h1 h2
 b0:=r.b0
 kp:=r.kp
 dm:=r.dm
 pO:=r.pO
 ps:=λj hj=>by
  have e:j≠i:=λe=>hi (e▸r.pO j hj)
  rw[zU e];exact r.ps j hj
theorem GrS.set{O:List Nat}{σ:St}{H:Hp}{i:Nat}{v:Option V}(hi:i ∉ O):GrS O σ H (σ.set i v) H:=⟨Ext.refl,λb h _=>(Cl.set hi b).mpr h,λ_ h=>h⟩
def zi(i:Nat)(f:M D):MS:=sbnd f λd Z => .ok (.nx (Z.set i (some d)))
theorem qV {i:Nat} {x:Str} {pos':Pos} {f:M D} (hN:X.N.Nodup) (he:DE X c e f) (ho:i ∉ c.O:=by exact of_decide_eq_false rfl) (hi:X.N[i]? = some x:=by rfl) (hx:Loc X.env.scope x:=by first|exact ya4 rfl|exact yaI rfl) (hs:ycA e (some (.Name x pos')) pos.line X.env=pure false:=by rfl) (hf:X.fn x=true\/X.env.scope.names.lookup x=some .local:=by first|exact .inl rfl|exact .inr rfl|assumption) :
  DS X c (.Assign [.Name x pos'] e pos) (zi i f):=by
 obtain⟨t,p,w⟩:=he
 refine⟨_,qg8 hN hi hx p hs hf,λZ σ H D r h=>w Z σ H _ r (Wp.sbnd h λd Z1 v H1 r1 i1 g1 h1=>?_)⟩
 exact h1 _ H1 (r1.set ho i1) (.set ho)
def DG (X:Cx) (c:Fc) (tg:Expr) (f:D->Env->Option Env):Prop:=∃g,PG X tg g/\∀Z σ H d v Z' (N:St->Hp->Prop),Rep X.K c Z σ H->Is X.K (Cn c σ) H d v->f d Z=some Z' ->
 (∀σ',Rep X.K c Z' σ' H->GrS c.O σ H σ' H->(∀j∈c.O,σ'[j]? = σ[j]?)->N σ' H)->g v σ H N
def ql(i:Nat):D->Env->Option Env:=λd Z=>some (Z.set i (some d))
theorem qC {i:Nat} {x:Str} (hN:X.N.Nodup) (ho:i ∉ c.O:=by exact of_decide_eq_false rfl) (hi:X.N[i]? = some x:=by rfl) (hx:Loc X.env.scope x:=by first|exact ya4 rfl|exact yaI rfl) (hf:X.fn x=true\/X.env.scope.names.lookup x=some .local:=by first|exact .inl rfl|exact .inr rfl|assumption) {p:Pos}:DG X c (.Name x p) (ql i):=by
 refine⟨_,qll hN hi hx hf,λZ σ H d v Z' N r h e k=>?_⟩
 cases e
 exact k _ (r.set ho h) (.set ho) λj hj=>zU λe=>ho (e▸hj)
def DGs (X:Cx) (c:Fc) (tgs:List Expr) (f:List D->Env->Option Env):Prop:=∃g,PGs X tgs g/\∀Z σ H ds vs Z' (N:St->Hp->Prop),Rep X.K c Z σ H->IsL X.K (Cn c σ) H ds vs->f ds Z=some Z' ->
 (∀σ',Rep X.K c Z' σ' H->GrS c.O σ H σ' H->(∀j∈c.O,σ'[j]? = σ[j]?)->N σ' H)->g vs σ H N
def vq:List D->Env->Option Env
 | [],Z=>some Z
 |_,_=>none
def qQ (f:D->Env->Option Env) (g:List D->Env->Option Env):List D->Env->Option Env
 |d::ds,Z=>(f d Z).bind (g ds)
 |_,_=>none
theorem ue:DGs X c [] vq:=by
 refine⟨_,qlm,λZ σ H ds vs Z' N r h e k=>?_⟩
 cases ds with
 |nil=>
  cases e
  exact⟨h,k σ r .refl λ_ _=>rfl⟩
 |cons d ds=>cases e
theorem zc {tg:Expr} {tgs:List Expr} {f:D->Env->Option Env} {g:List D->Env->Option Env} (h1:DG X c tg f) (h2:DGs X c tgs g)
  (hs:(yba (tg::tgs) X.env).map (·.2)=yce tg X.env::(yba tgs X.env).map (·.2):=by rfl):DGs X c (tg::tgs) (qQ f g):=by
 obtain⟨t1,p1,w1⟩:=h1
 obtain⟨t2,p2,w2⟩:=h2
 refine⟨_,qi6 p1 p2 hs,λZ σ H ds vs Z' N r h e k=>?_⟩
 cases ds with
 |nil=>cases e
 | cons d ds=>
  obtain⟨v,ws,rfl,i1,i2⟩:=h
  have e':(f d Z).bind (g ds)=some Z':=e
  cases e1:f d Z with
  |none=>rw[e1]at e';cases e'
  |some Z1=>
   rw[e1]at e'
   exact⟨v,ws,rfl,w1 Z σ H d v Z1 _ r i1 e1 λσ1 r1 g1 o1=>w2 Z1 σ1 H ds ws Z' N r1 (g1.isL i2) e' λσ2 r2 g2 o2=>k σ2 r2 (g1.trans g2) λj hj=>(o2 j hj).trans (o1 j hj)⟩
def vN (n:Nat) (g:List D->Env->Option Env):D->Env->Option Env
 |.tup ds,Z=>if ds.length=n then g ds Z else none
 |_,_=>none
theorem vV {es:List Expr} {k n:Nat} {p:Pos} {g:List D->Env->Option Env} (hc:X.calm=true) (h:DGs X c es g) (hn:(yba es X.env).length=n:=by rfl) (hst:(yba es X.env).findIdx? (·.1)=none:=by rfl):DG X c (.Tuple es k p) (vN n g):=by
 obtain⟨t,p,w⟩:=h
 refine⟨_,qna (n:=n) hc p hn hst,λZ σ H d v Z' N r h e q=>?_⟩
 cases d with
 | tup ds=>
  obtain⟨a,xs,rfl,ta,il⟩:=h
  have e':(if ds.length=n then g ds Z else none)=some Z':=e
  by_cases hl:ds.length=n
  ·rw[if_pos hl]at e'
   exact⟨a,xs,rfl,ta.sq,by rw[il.length];exact hl,w Z σ H ds xs Z' N r il e' q⟩
  ·rw[if_neg hl]at e';cases e'
 |_=>cases e
def qer (f:M D) (g:D->Env->Option Env):MS:=sbnd f λd Z=>match g d Z with
 |some Z' => .ok (.nx Z')
 |none => .bad
theorem qfh {tg:Expr} {f:M D} {g:D->Env->Option Env} (he:DE X c e f) (hg:DG X c tg g) (hs:ycS [tg] e pos.line X.env=pure false:=by rfl) (hw:ycT [tg] e X.env=pure none:=by rfl) (h1:(yba [tg] X.env).map (·.2)=[yce tg X.env]:=by rfl):DS X c (.Assign [tg] e pos) (qer f g):=by
 obtain⟨t,p,w⟩:=he
 obtain⟨t2,p2,w2⟩:=hg
 refine⟨_,qko p p2 hs hw h1,λZ σ H D r h=>w Z σ H _ r (Wp.sbnd h λd Z1 v H1 r1 i1 g1 h1=>?_)⟩
 cases e:g d Z1 with
 |none=>rw[e]at h1;exact h1.elim
 |some Z2=>
  rw[e]at h1
  exact w2 Z1 σ H1 d v Z2 _ r1 i1 e λσ' r2 g2 _=>h1 σ' H1 r2 g2
end
section
variable{K:Fr0}
def iiD (g:Int->Int->D):D->D->OD
 |.int i,.int j=>some (g i j)
 |_,_=>none
def qiY (C:Int->Int->Bool) (g:Int->Int->D):D->D->OD
 |.int i,.int j=>if C i j then some (g i j)else none
 |_,_=>none
theorem qa9 {g:Int->Int->V} {gD:Int->Int->D} (hg:∀A H i j,Is K A H (gD i j) (g i j)):OpS K (iiD gD) (rI0 g):=by
 intro A H x y d v u Q hn ix iy e k
 cases x<;>cases y<;>simp only[iiD]at e<;>try (cases e;done)
 rename_i i j
 cases (yaO e)
 cases (show v=.int i from ix)
 cases (show u=.int j from iy)
 exact⟨i,j,rfl,rfl,k _ H (zZ.refl H) (hg _ _ _ _)⟩
theorem qhx {C:Int->Int->Prop} {CB:Int->Int->Bool} {g:Int->Int->V} {gD:Int->Int->D} (hC:∀i j,CB i j=true->C i j) (hg:∀A H i j,Is K A H (gD i j) (g i j)):OpS K (qiY CB gD) (rI C g):=by
 intro A H x y d v u Q hn ix iy e k
 cases x<;>cases y<;>simp only[qiY]at e<;>try (cases e;done)
 rename_i i j
 obtain⟨e1,e2⟩:=z0 e
 subst e2
 cases (show v=.int i from ix)
 cases (show u=.int j from iy)
 exact⟨i,j,rfl,rfl,hC i j e1,k _ H (zZ.refl H) (hg _ _ _ _)⟩
def qdp:D->D->OD:=iiD λi j => .int (i-j)
theorem qak:OpS K qdp (rI0 λi j => .int (i-j)):=qa9 λ_ _ _ _=>rfl
def uf(i:Int):Bool:=decide (-(2 ^ 64)<i)&&decide (i<2 ^ 64)
theorem qdF {i:Int} (h:uf i=true) : -(2 ^ 64)<i/\i<2 ^ 64:=by
 unfold uf at h
 rw[yag]at h
 exact⟨of_decide_eq_true h.1,of_decide_eq_true h.2⟩
def qeB(i j:Int):Bool:=uf i||uf j
theorem qjj {i j:Int} (h:qeB i j=true):qnh i j:=by
 unfold qeB at h
 rw[ybP]at h
 rcases h with h|h
 ·exact .inl (qdF h)
 ·exact .inr (qdF h)
def qgq(i j:Int):Bool:=decide (0<j)&&decide (j<1606938044258990275541962092341162602522202993782792835301376)
theorem qfi {i j:Int} (h:qgq i j=true):qng i j:=by
 unfold qgq at h
 rw[yag]at h
 exact⟨of_decide_eq_true h.1,of_decide_eq_true h.2⟩
def ux:D->D->OD:=qiY qgq λi j => .int (i/j)
theorem uQ:OpS K ux (rI qng λi j => .int (i/j)):=qhx (λ_ _=>qfi) λ_ _ _ _=>rfl
def qku:D->D->OD:=qiY (λ_ j=>decide (0<j)) λi j => .int (i%j)
theorem qba:OpS K qku (rI (λ_ j=>0<j) λi j => .int (i%j)):=qhx (λ_ _ h=>of_decide_eq_true h) λ_ _ _ _=>rfl
def ltD:D->D->OD:=iiD λi j => .bl (decide (i<j))
def leD:D->D->OD:=iiD λi j => .bl (decide (i<=j))
def gtD:D->D->OD:=iiD λi j => .bl (decide (j<i))
def geD:D->D->OD:=iiD λi j => .bl (decide (j<=i))
theorem qfj:OpS K ltD (rI0 λi j => .bl (decide (i<j))):=qa9 λ_ _ _ _=>rfl
theorem qhy:OpS K leD (rI0 λi j => .bl (decide (i<=j))):=qa9 λ_ _ _ _=>rfl
theorem qfk:OpS K gtD (rI0 λi j => .bl (decide (j<i))):=qa9 λ_ _ _ _=>rfl
theorem qcc:OpS K geD (rI0 λi j => .bl (decide (j<=i))):=qa9 λ_ _ _ _=>rfl
def sc2:D->D->Option Bool
 |.non,.non=>some true|.non,.int _=>some false|.int _,.non=>some false|.non,.bl _=>some false|.bl _,.non=>some false|.non,.str _=>some false|.str _,.non=>some false
 |.int i,.int j=>some (decide (i=j))|.bl i,.bl j=>some (decide (i=j))|.str i,.str j=>some (decide (i=j))
 |.int _,.str _=>some false|.str _,.int _=>some false|.bl _,.str _=>some false|.str _,.bl _=>some false
 |_,_=>none
def eqS(x y:D):OD:=(sc2 x y).map D.bl
def neS(x y:D):OD:=(sc2 x y).map λb=>D.bl (!b)
theorem qkv {A:Addr->Prop} {H:Hp} {x y:D} {v u:V} {b:Bool} (ix:Is K A H x v) (iy:Is K A H y u) (e:sc2 x y=some b):qpq v u=true/\decide (v=u)=b:=by
 cases x<;>cases y<;>simp only[sc2]at e<;>first
  |(cases e;done)
  |(cases ix;cases iy;cases e;exact⟨rfl,rfl⟩)
  |(cases ix;cases iy;cases e;exact⟨rfl,by simp⟩)
  |(cases ix;cases iy;cases e;exact⟨rfl,by rw[yby];simp⟩)
theorem qlD:OpS K eqS rEq:=by
 intro A H x y d v u Q hn ix iy e k
 unfold eqS at e
 cases e1:sc2 x y with
 |none=>rw[e1]at e;cases e
 |some b=>
  rw[e1]at e
  cases e
  obtain⟨h1,h2⟩:=qkv ix iy e1
  exact⟨h1,by rw[h2];exact k _ H (zZ.refl H) rfl⟩
theorem qhz:OpS K neS rNe:=by
 intro A H x y d v u Q hn ix iy e k
 unfold neS at e
 cases e1:sc2 x y with
 |none=>rw[e1]at e;cases e
 |some b=>
  rw[e1]at e
  cases e
  obtain⟨h1,h2⟩:=qkv ix iy e1
  exact⟨h1,by rw[h2];exact k _ H (zZ.refl H) rfl⟩
def ve:D->Bool
 |.non=>true
 |_=>false
theorem qaS {A:Addr->Prop} {H:Hp} {x:D} {v:V} (ix:Is K A H x v):decide (v=V.non)=ve x:=by
 cases x with
 |non=>cases ix;rfl
 |bl b=>cases ix;rfl
 |int i=>cases ix;rfl
 |str s=>cases ix;rfl
 |tup ds=>obtain⟨a,xs,rfl,_⟩:=ix;rfl
 |lst ds=>obtain⟨a,xs,rfl,_⟩:=ix;rfl
 |dic ds=>obtain⟨a,rfl,_⟩:=ix;rfl
 |fz ds=>obtain⟨a,rfl,_⟩:=ix;rfl
 |exc ds=>obtain⟨a,rfl,_⟩:=ix;rfl
def isN(x y:D):OD:=if ve y then some (.bl (ve x))else none
def qjk(x y:D):OD:=if ve y then some (.bl (!ve x))else none
theorem qhA:OpS K isN (λx y H Q=>y=.non/\Q (.bl (decide (x=.non))) H):=by
 intro A H x y d v u Q hn ix iy e k
 obtain⟨e1,e2⟩:=z0 e
 subst e2
 have h:=qaS iy
 rw[e1]at h
 refine⟨of_decide_eq_true h,?_⟩
 rw[qaS ix]
 exact k _ H (zZ.refl H) rfl
theorem qjl:OpS K qjk (λx y H Q=>y=.non/\Q (.bl (!decide (x=.non))) H):=by
 intro A H x y d v u Q hn ix iy e k
 obtain⟨e1,e2⟩:=z0 e
 subst e2
 have h:=qaS iy
 rw[e1]at h
 refine⟨of_decide_eq_true h,?_⟩
 rw[qaS ix]
 exact k _ H (zZ.refl H) rfl
def ixD:D->D->OD
 |.tup ds,.int i=>atI ds i
 |.lst ds,.int i=>atI ds i
 |.fz ns,.int i=>(atI ns i).map D.int
 |_,_=>none
theorem IsL.atI {A:Addr->Prop} {H:Hp} {ds:List D} {xs:List V} {i:Int} {d:D} (h:IsL K A H ds xs) (e:L2.atI ds i=some d):∃v,L2.atI xs i=some v/\Is K A H d v:=by
 unfold L2.atI at e |-
 rw[h.length]
 cases e1:ixN ds.length i with
 |none=>rw[e1]at e;cases e
 |some j=>
  rw[e1]at e
  exact h.get e
theorem qE:OpS K ixD (λx y H Q=>qpx K x y H Q\/qpy K x y H Q):=by
 intro A H x y d v u Q hn ix iy e k
 cases x<;>cases y<;>simp only[ixD]at e<;>try (cases e;done)
 ·rename_i ds i
  cases iy
  obtain⟨a,xs,rfl,ta,il⟩:=ix
  obtain⟨w,h1,h2⟩:=il.atI e
  exact .inr ⟨a,xs,i,w,rfl,rfl,ta.sq,h1,k w H (zZ.refl H) h2⟩
 ·rename_i ds i
  cases iy
  obtain⟨a,xs,rfl,_,ta,il⟩:=ix
  obtain⟨w,h1,h2⟩:=il.atI e
  exact .inl ⟨a,xs,i,w,rfl,rfl,.inl (.inl ta),h1,k w H (zZ.refl H) h2⟩
 ·rename_i ns i
  cases iy
  obtain⟨a,rfl,ta⟩:=ix
  cases e1:L2.atI ns i with
  |none=>rw[e1]at e;cases e
  | some m=>
   rw[e1]at e
   cases e
   have h1:L2.atI (ns.map V.int) i=some (V.int m):=by
    unfold L2.atI at e1 |-
    rw[lM_]
    cases e2:ixN ns.length i with
    |none=>rw[e2]at e1;cases e1
    |some j=>
     rw[e2]at e1
     have e3:ns[j]? = some m:=e1
     show(ns.map V.int)[j]? = some (V.int m)
     rw[gM_,e3];rfl
   exact .inl ⟨a,_,i,.int m,rfl,rfl,ta.sq,h1,k _ H (zZ.refl H) rfl⟩
theorem IsL.inv1 {A:Addr->Prop} {H:Hp} {d:D} {vs:List V} (h:IsL K A H [d] vs):∃v,vs=[v]/\Is K A H d v:=by
 obtain⟨x,ys,e1,e2,e3⟩:=h
 have e3':ys=[]:=e3
 exact⟨x,by rw[e1,e3'],e2⟩
theorem IsL.inv2 {A:Addr->Prop} {H:Hp} {d d':D} {vs:List V} (h:IsL K A H [d,d'] vs):∃v w,vs=[v,w]/\Is K A H d v/\Is K A H d' w:=by
 obtain⟨x,ys,e1,e2,e3⟩:=h
 obtain⟨w,e4,e5⟩:=IsL.inv1 e3
 exact⟨x,w,by rw[e1,e4],e2,e5⟩
def qo1:List D->OD
 | [.int i]=>some (.int (if i<0 then -i else i))
 |_=>none
theorem qhB:wH K qo1 (λxs H Q=>∃i,xs=[.int i]/\Q (.int (if i<0 then -i else i)) H):=by
 intro A H xs d vs Q hn h e k
 unfold qo1 at e
 split at e
 ·rename_i i
  obtain⟨v,rfl,e2⟩:=IsL.inv1 h
  cases e2;cases e
  exact⟨i,rfl,k _ H (zZ.refl H) rfl⟩
 ·cases e
def qlE:List D->OD
 | [.int i,.int j]=>some (.int (if j>i then j else i))
 |_=>none
def v3:List D->OD
 | [.int i,.int j]=>some (.int (if j<i then j else i))
 |_=>none
theorem qhC:wH K qlE (λxs H Q=>∃i j,xs=[.int i,.int j]/\Q (.int (if j>i then j else i)) H):=by
 intro A H xs d vs Q hn h e k
 unfold qlE at e
 split at e
 ·rename_i i j
  obtain⟨v,w,rfl,e2,e3⟩:=IsL.inv2 h
  cases e2;cases e3;cases e
  exact⟨i,j,rfl,k _ H (zZ.refl H) rfl⟩
 ·cases e
theorem qbb:wH K v3 (λxs H Q=>∃i j,xs=[.int i,.int j]/\Q (.int (if j<i then j else i)) H):=by
 intro A H xs d vs Q hn h e k
 unfold v3 at e
 split at e
 ·rename_i i j
  obtain⟨v,w,rfl,e2,e3⟩:=IsL.inv2 h
  cases e2;cases e3;cases e
  exact⟨i,j,rfl,k _ H (zZ.refl H) rfl⟩
 ·cases e
def qbc:List D->OD
 | [.int i,.int j]=>if qgq i j then some (.tup [.int (i/j),.int (i%j)])else none
 |_=>none
theorem qdG:wH K qbc (λxs H Q=>∃i j,xs=[.int i,.int j]/\qng i j/\∀p,H p=none->Q (.ref p) (upd H p (.tup [.int (i/j),.int (i%j)]))):=by
 intro A H xs d vs Q hn h e k
 unfold qbc at e
 split at e
 ·rename_i i j
  obtain⟨v,w,rfl,e2,e3⟩:=IsL.inv2 h
  cases e2;cases e3
  obtain⟨e6,e7⟩:=z0 e
  subst e7
  exact⟨i,j,rfl,qfi e6,λp hp=>k _ _ (qu hp _) ⟨p,_,rfl,.inl qv,_,_,rfl,rfl,_,_,rfl,rfl,rfl⟩⟩
 ·cases e
def qal:List D->OD
 | [.int i]=>some (.int i)
 | [.bl b]=>some (.int (if b then 1 else 0))
 |_=>none
theorem qgr:wH K qal (λxs H Q=>(∃i,xs=[.int i]/\Q (.int i) H)\/∃k,xs=[.bl k]/\Q (.int (if k then 1 else 0)) H):=by
 intro A H xs d vs Q hn h e k
 unfold qal at e
 split at e
 ·rename_i i
  obtain⟨v,rfl,e2⟩:=IsL.inv1 h
  cases e2;cases e
  exact .inl ⟨i,rfl,k _ H (zZ.refl H) rfl⟩
 ·rename_i b
  obtain⟨v,rfl,e2⟩:=IsL.inv1 h
  cases e2;cases e
  exact .inr ⟨b,rfl,k _ H (zZ.refl H) rfl⟩
 ·cases e
def vt:List D->OD
 | [.tup ds]=>some (.int ds.length)
 | [.lst ds]=>some (.int ds.length)
 | [.fz ns]=>some (.int ns.length)
 | [.str x]=>if zp x.length then some (.int x.length)else none
 |_=>none
def qqh(K:Fr0):List V->Hp->VK->Prop:=λxs H Q=>(∃p ys,xs=[.ref p]/\(SqL K H p ys\/SqT K H p ys)/\Q (.int ys.length) H)\/(∃z,xs=[.str z]/\z.length<=yat/\Q (.int z.length) H)
theorem zG{X:Cx}:yK X (.builtin "len") (qqh X.K):=yK.or qdz qdA
theorem zP:wH K vt (qqh K):=by
 intro A H xs d vs Q hn h e k
 unfold vt at e
 split at e
 ·obtain⟨v,rfl,a,zs,rfl,ta,il⟩:=IsL.inv1 h
  cases e
  exact .inl ⟨a,zs,rfl,.inr ta.sq,by rw[il.length];exact k _ H (zZ.refl H) rfl⟩
 ·obtain⟨v,rfl,a,zs,rfl,_,ta,il⟩:=IsL.inv1 h
  cases e
  exact .inl ⟨a,zs,rfl,.inl (.inl (.inl ta)),by rw[il.length];exact k _ H (zZ.refl H) rfl⟩
 ·obtain⟨v,rfl,a,rfl,ta⟩:=IsL.inv1 h
  cases e
  exact .inl ⟨a,_,rfl,.inl ta.sq,by rw[lM_];exact k _ H (zZ.refl H) rfl⟩
 ·rename_i z
  obtain⟨v,rfl,e2⟩:=IsL.inv1 h
  cases e2
  obtain⟨e4,e5⟩:=z0 e
  subst e5
  exact .inr ⟨z,rfl,of_decide_eq_true e4,k _ H (zZ.refl H) rfl⟩
 ·cases e
def qbd:List D->OD
 | [.tup ds]=>some (.tup ds)
 | [.lst ds]=>some (.tup ds)
 |_=>none
theorem qeC:wH K qbd (λxs H Q=>∃p ys,xs=[.ref p]/\((SqL K H p ys/\∀l,H l=none->Q (.ref l) (upd H l (.tup ys)))\/(SqT K H p ys/\Q (.ref p) H))):=by
 intro A H xs d vs Q hn h e k
 unfold qbd at e
 split at e
 ·obtain⟨v,rfl,a,zs,rfl,ta,il⟩:=IsL.inv1 h
  cases e
  exact⟨a,zs,rfl,.inr ⟨ta.sq,k _ H (zZ.refl H) ⟨a,zs,rfl,ta,il⟩⟩⟩
 ·obtain⟨v,rfl,a,zs,rfl,_,ta,il⟩:=IsL.inv1 h
  cases e
  exact⟨a,zs,rfl,.inl ⟨.inl (.inl ta),λl hl=>k _ _ (qu hl _) ⟨l,zs,rfl,.inl qv,IsL.ext (Ext.of_same (qu hl _)) (λ_ h _=>h) il⟩⟩⟩
 ·cases e
def qgs:List D->OD
 | [.tup ds]=>some (.lst ds)
 | [.lst ds]=>some (.lst ds)
 |_=>none
theorem qgt:wH K qgs (λxs H Q=>∃p ys,xs=[.ref p]/\(SqL K H p ys\/SqT K H p ys)/\∀l,H l=none->Q (.ref l) (upd H l (.lst ys))):=by
 intro A H xs d vs Q hn h e k
 unfold qgs at e
 split at e
 ·obtain⟨v,rfl,a,zs,rfl,ta,il⟩:=IsL.inv1 h
  cases e
  exact⟨a,zs,rfl,.inr ta.sq,λl hl=>k _ _ (qu hl _) ⟨l,zs,rfl,hn l hl,qv,IsL.ext (Ext.of_same (qu hl _)) (λ_ h _=>h) il⟩⟩
 ·obtain⟨v,rfl,a,zs,rfl,_,ta,il⟩:=IsL.inv1 h
  cases e
  exact⟨a,zs,rfl,.inl (.inl (.inl ta)),λl hl=>k _ _ (qu hl _) ⟨l,zs,rfl,hn l hl,qv,IsL.ext (Ext.of_same (qu hl _)) (λ_ h _=>h) il⟩⟩
 ·cases e
end
end L2.Sk
namespace L2.Sk
open PySem PySem.Spec PySem.Calls PyProof.Rows PySem.W
def qkw(h:Heap)(a D:Addr):Prop:=∃o,h.get? a=some o/\o.cls=.ref D
theorem qkw.looks {M:Model} {h:Heap} {a D:Addr} (I:qkw h a D):Looks M h (typeOf (.ref a)) (.ref D):=by
 obtain⟨o,h1,h2⟩:=I
 rw[<-h2]
 exact(Looks.ld h1).andThen .now
section
variable{prog:yas}{w:World}{A:yav}{E:Value->yab->Prop}{K:Frag}{h:Heap}{g:Array yfI}{d:Drawn}{t:Nat}{os:OsState}{a D:Addr}
theorem qnE (hm:mroIn K D (.type "object")=some true) {tp:Value} {R:ye6->yab->Prop} (X:K.In h) (I:qkw h a D) (hq:R (.ok (.ret (.ref D))) ⟨h,g,d,t,os⟩) :
  ycf (model prog w) A (.call (.builtin "getset_descriptor.__get__") ⟨[.builtin "object.__class__",.ref a,tp],[]⟩) R ⟨h,g,d,t,os⟩:=by
 have L0:=I.looks (M:=model prog w)
 have L1:=looks_mroIn (M:=model prog w) X hm
 have hT5:(⟨h,g,d,t,os⟩:yab).TypeIs (.builtin "object.__class__") "getset_descriptor":=yc2
 refine yeH F.slot_gs_get.plain F.entry_gs_get (F.slot_gs_get.check _ _ _ _ _ _ _ _ hT5 (F.args_gs_get _ _ _) ?_)
 have eo:".".intercalate ("object.__class__".cutAt '.').dropLast="object":=by decide +kernel
 repeat (any_goals (first|assumption|with_reducible refine L0.at ?_|with_reducible refine L1.at ?_|wp_step))
 rw[eo]
 refine L1.at ?_
 repeat (any_goals (first|assumption|with_reducible refine L0.at ?_|wp_step))
 refine⟨Code.quiet_builtin _ (by decide +kernel),codeAny_builtin F.entry_object_class ?_⟩
 repeat (any_goals (first|assumption|with_reducible refine L0.at ?_|wp_step))
theorem qjm (ha:findIn K (.ref D) "__class__"=some (some (.builtin "object.__class__"))) (hm:mroIn K D (.type "object")=some true) {tk:Tok} {Q:Fin->yab->Prop} (X:K.In h) (I:qkw h a D) (hq:Q (.done (.ret (.ref D))) ⟨h,g,d,t,os⟩) :
  wpAny (model prog w) A (ych.«object.__getattribute__» ⟨[.ref a,.str "__class__" tk],[]⟩) Q E ⟨h,g,d,t,os⟩:=by
 have L0:=I.looks (M:=model prog w)
 have L1:=looks_findIn (M:=model prog w) X ha
 have hT5:(⟨h,g,d,t,os⟩:yab).TypeIs (.builtin "object.__class__") "getset_descriptor":=yc2
 have f5:=yc2
 have f6:=F.slot_gs_get.lookup
 have f7:=F.slot_gs_set.lookup
 repeat (any_goals (first|assumption|with_reducible refine L0.at ?_|with_reducible refine L1.at ?_|wp_step))
 refine qnE hm X I ?_
 repeat (any_goals (first|assumption|wp_step))
theorem qjn (hb:Looks (model prog w) h (isSubtype (.ref D) (.type "BaseException")) true) {nameV:Value} {Q:Unit->yab->Prop} (I:qkw h a D) (hq:Q () ⟨h,g,d,t,os⟩):wpAny (model prog w) A (checkBuiltinCall "BaseException.__getattribute__" ⟨[.ref a,nameV],[]⟩) Q E ⟨h,g,d,t,os⟩:=by
 have hk:builtinKind "BaseException.__getattribute__"=some .slot:=by decide +kernel
 have hsplit:splitId "BaseException.__getattribute__"=some ("BaseException","__getattribute__"):=by decide +kernel
 have L0:=I.looks (M:=model prog w)
 have ha:=F.args_bexc_ga (.ref a) nameV
 simp only[checkBuiltinCall,hk,hsplit]
 refine yaa ?_
 ·unfold isInstance
  repeat (first|with_reducible refine L0.at ?_|with_reducible refine hb.at ?_|wp_step)
  exact hq
theorem qpB (FA:ExcAttrFacts "ValueError") (hga:findIn K (.ref D) "__getattribute__"=some (some (.builtin "BaseException.__getattribute__"))) (hgt:findIn K (.ref D) "__getattr__"=some none) (ha:findIn K (.ref D) "__class__"=some (some (.builtin "object.__class__"))) (hm:mroIn K D (.type "object")=some true)
  (hb:Looks (model prog w) h (isSubtype (.ref D) (.type "BaseException")) true) {tk:Tok} {fill expr:Bool} {Q:Value->yab->Prop} (X:K.In h) (I:qkw h a D) (hq:Q (.ref D) ⟨h,g,d,t,os⟩) :
  wpAny (model prog w) A (getAttrBy (.ref a) (.str "__class__" tk) fill expr) Q E ⟨h,g,d,t,os⟩:=by
 have L0:=I.looks (M:=model prog w)
 have L1:=looks_findIn (M:=model prog w) X hga
 have L2:=looks_findIn (M:=model prog w) X hgt
 have f3:=FA.ga.bind (.ref a)
 have hx0:(expr&&onTheHeap (ycV "BaseException.__getattribute__"))=false:=by cases expr<;>rfl
 have hx2:(ycV "BaseException.__getattribute__"==ycV "object.__getattribute__")=false:=by decide +kernel
 have hx1:(onTheHeap (yaq D)&&ycV "BaseException.__getattribute__"==ycV "object.__getattribute__")=false:=by rw[hx2];rfl
 repeat (any_goals (first|assumption|with_reducible refine L0.at ?_|with_reducible refine L1.at ?_|with_reducible refine L2.at ?_|wp_step))
 refine yeH FA.ga.plain F.entry_bexc_ga (qjn hb I (qjm ha hm X I ?_))
 repeat (any_goals (first|assumption|wp_step))
theorem qlF (FA:ExcAttrFacts "ValueError") (hga:findIn K (.ref D) "__getattribute__"=some (some (.builtin "BaseException.__getattribute__"))) (hgt:findIn K (.ref D) "__getattr__"=some none) (ha:findIn K (.ref D) "__class__"=some (some (.builtin "object.__class__"))) (hm:mroIn K D (.type "object")=some true)
  (hb:Looks (model prog w) h (isSubtype (.ref D) (.type "BaseException")) true) {Q:Option Value->yab->Prop} (X:K.In h) (I:qkw h a D) (hq:Q (some (.ref D)) ⟨h,g,d,t+1,os⟩) :
  wpAny (model prog w) A (getAttr? (.ref a) "__class__") Q E ⟨h,g,d,t,os⟩:=by
 unfold getAttr? getAttrBy?
 repeat (any_goals (first|assumption|with_reducible apply qpB FA hga hgt ha hm hb X I|wp_step))
end
theorem qjo {K:Frag} {a D:Addr} (c:XK6 K D):KitX K (.ref a) (.ref D) (λh=>qkw h a D) where
 ty:=λ_ _ _ I=>I.looks
 it := λ_ _ X _=>by
  obtain⟨cdD,hcD⟩:=Option.isSome_iff_exists.mp c.is
  unfold clsIn at hcD
  split at hcD
  ·rename_i c' d' cd' sl' ho
   intro A' Q' E' s' k q
   unfold isType loadHead
   exact yaa (wpAny_loadPart (k _ _ (X _ _ ho)) (yah q))
  ·cases hcD
 ne := λh tp dd its n sl X htp=>by
  obtain⟨cdD,hcD⟩:=Option.isSome_iff_exists.mp c.is
  refine Bool.eq_false_iff.mpr λq=>?_
  have e:D=tp:=Value.ref.inj (beq_iff_eq.mp q)
  subst e
  unfold clsIn at hcD
  split at hcD
  ·rename_i c' d' cd' sl' ho
   have z:=(X _ _ ho).symm.trans htp
   cases z
  ·cases hcD
 ca:=λ{prog w A E Q s} X p k=>by
  have I:=p
  obtain⟨h,g,d,t,os⟩:=s
  exact qlF PySem.F.attrBase_ValueError.toExcAttrFacts c.ga c.gt c.cl c.ob (looks_subIn X c.be) X I k
theorem qcd {X:Cx} {pins:List (Addr×Obj)} {σ:St} {H:Hp} {s:yab} {A:yav} {E:Value->yab->Prop} {Q:Value->yab->Prop} {a C:Addr} {c:Value} {b:Bool} (I:Inv X pins σ H s) (xc:XK6 X.K C) (hH:∃o vs,H a=some (.frz o (.own a))/\o.cls=.ref C/\o.data=.fields vs)
  (e:kitOne X.K (.ref C) c=some b) (h:∀tk,Q (.bool b) {s with toks:=tk}):wpAny (model X.prog X.w) A (call (.builtin "isinstance") [.ref a,c]) Q E s:=by
 obtain⟨o,vs,h1,h2,_⟩:=hH
 obtain⟨p,_⟩:=(show yU X.prog X.w H s.heap a (.frz o (.own a))from I.hok a _ h1)
 exact kia_one (qjo xc) I.kIn ⟨o,p,h2⟩ e (λz=>nomatch z) h
end L2.Sk
namespace L2.Sk
open PySem PySem.Spec PyProof.Rows
def tyD:D->String
 |.non=>"NoneType"
 |.bl _=>"bool"
 |.int _=>"int"
 |.str _=>"str"
 |.tup _=>"tuple"
 |.lst _=>"list"
 |.dic _=>"dict"
 |.fz _=>"list"
 |.exc _=>"exc"
def qbZ(t T:String):Bool:=t==T||(t=="bool"&&T=="int")
def qgu:List String:=["NoneType","bool","int","str","tuple","list","dict"]
theorem qlG (d:D) (h:∀C,d ≠ .exc C):tyD d∈qgu:=by
 cases d<;>first|(simp[tyD,qgu];done)|exact absurd rfl (h _)
structure qmS (K:Fr0) (T:String):Prop where
 ok:∀t∈qgu,yes K (.type t) (.type T)=some (qbZ t T)
 ex:T∈["int","bool","str","tuple","list","dict"]
 nx:qbZ "exc" T=false
theorem qlH {K:Fr0}:qmS K "int":=⟨λt ht=>by
 simp only[qgu,yax,nN_,or_false]at ht
 rcases ht with rfl|rfl|rfl|rfl|rfl|rfl|rfl<;>kernel_rfl,by decide,by decide⟩
theorem qfl {K:Fr0}:qmS K "bool":=⟨λt ht=>by
 simp only[qgu,yax,nN_,or_false]at ht
 rcases ht with rfl|rfl|rfl|rfl|rfl|rfl|rfl<;>kernel_rfl,by decide,by decide⟩
theorem wJ {K:Fr0}:qmS K "tuple":=⟨λt ht=>by
 simp only[qgu,yax,nN_,or_false]at ht
 rcases ht with rfl|rfl|rfl|rfl|rfl|rfl|rfl<;>kernel_rfl,by decide,by decide⟩
section
variable{X:Cx}{pins:List (Addr×Obj)}{σ:St}{H:Hp}{s:yab}{A:Addr->Prop}{E:Value->yab->Prop}{Q:Value->yab->Prop}
theorem qnF {d:D} {v:V} {u:Value} {T:String} (I:Inv X pins σ H s) (h:Is X.K A H d v) (rv:jG v u) (kt:qmS X.K T) (hQ:∀tk,Q (.bool (qbZ (tyD d) T)) {s with toks:=tk}) :
  wpAny (model X.prog X.w) X.A (call (.builtin "isinstance") [u,.type T]) Q E s:=by
 by_cases hx:∃C,d=.exc C
 ·obtain ⟨C,rfl⟩:=hx
  obtain⟨a,rfl,xa⟩:=h
  cases (show u=yaq a from rv)
  have q:∀tk,Q (.bool false) {s with toks:=tk}:=λtk=>by
   have:=hQ tk
   rw[show tyD (.exc C)="exc" from rfl,kt.nx]at this
   exact this
  obtain⟨D0,h0,h1,h2⟩:=xa
  exact qcd I h1 h2 (h1.no T kt.ex) q
 have e:=kt.ok (tyD d) (qlG d λC hC=>hx ⟨C,hC⟩)
 cases d with
 |exc C=>exact absurd ⟨C,rfl⟩ hx
 |non=>cases h;exact uI I rv .non e hQ
 |bl b=>cases h;exact uI I rv (.bl b) e hQ
 |int i=>cases h;exact uI I rv (.int i) e hQ
 |str x=>cases h;exact uI I rv (.str x) e hQ
 |tup ds=>
  obtain⟨a,xs,rfl,ta,il⟩:=h
  cases (show u=yaq a from rv)
  obtain⟨its,r,p,z⟩:=I.tuple ta.sq
  obtain⟨o,h1,h2,_⟩:=p
  exact yaY ye5 I.kIn ⟨o,h1,h2⟩ e (λz=>nomatch z) hQ
 |lst ds=>
  obtain⟨a,xs,rfl,hA,ta,il⟩:=h
  exact uI I rv (.lst ta) e hQ
 |dic kvs=>
  obtain⟨a,rfl,hA,ta⟩:=h
  exact uI I rv (.dK ta) e hQ
 |fz ns=>
  obtain⟨a,rfl,ta⟩:=h
  cases (show u=yaq a from rv)
  obtain⟨its,r,p,z⟩:=I.list ta.sq
  obtain⟨o,h1,h2,_⟩:=p.isList
  exact yaY ydN I.kIn ⟨o,h1,h2⟩ e (λz=>nomatch z) hQ
end
def qeD(T:String)(f:M D):M D:=bnd f λd=>ret (.bl (qbZ (tyD d) T))
section
variable{X:Cx}{c:Fc}{a b e:Expr}{pos:Pos}
def qqY(K:Fr0)(T:String):List V->Hp->VK->Prop:=λxs H Q=>∃v d A,xs=[v,.ty T]/\Is K A H d v/\Q (.bl (qbZ (tyD d) T)) H
theorem qjp {T:String} (kt:qmS X.K T):yK X (.builtin "isinstance") (qqY X.K T):=by
 intro pins s σ H xs us Q I r h
 obtain⟨v,d,A,rfl,hi,q⟩:=h
 obtain⟨u,w,rfl,r1,r2⟩:=zt.two r
 cases (show w=yeD T from r2)
 exact qnF I hi r1 kt λtk=>⟨.bl _,H,I.tok tk,rfl,q⟩
theorem qbe {T:String} {x:Str} {p p2:Pos} {f:M D} (kt:qmS X.K T) (hg:Gl X "isinstance") (hm:X.mg "isinstance"=none) (hg2:Gl X x) (hm2:X.mg x=none) (hv2:yaB x=some (.type T)) (ha:DE X c a f)
  (hv:yaB "isinstance"=some (.builtin "isinstance"):=by first|rfl|exact PySem.boot_isinstance) (hn2:x≠"__name__":=by decide) (hdb2:(x==("__debug__":Str))=false:=by decide)
  (he:yac [a,.Name x p2] X.env=(false,eval a X.env)::yac [.Name x p2] X.env:=by rfl) (hpl:(yaN pos (yac [.Name x p2] X.env)).any (·.1)=false:=by rfl):DE X c (.Call (.Name "isinstance" p) [a,.Name x p2] [] pos) (qeD T f):=by
 obtain⟨t,pa,w⟩:=ha
 refine⟨_,vM (qjp kt) hg hm hv (jH pa (jH (qg5 (v:=.ty T) hg2 hm2 hv2 rfl hn2 hdb2) vv (by rfl)) he) (by decide) (by decide) he hpl,λZ σ H Q r h=>w Z σ H _ r (Wp.bnd h λd Z1 v H1 r1 i1 g1 h1=>?_)⟩
 exact⟨v,d,_,rfl,i1,h1 _ H1 r1 rfl .refl⟩
end
def ug:List D->Option (List Bool)
 | []=>some []
 |.bl b::r=>(ug r).map (b::·)
 |_=>none
def vy:List D->Option (List Int)
 | []=>some []
 |.int i::r=>(vy r).map (i::·)
 |_=>none
theorem uR {K:Fr0} {A:Addr->Prop} {H:Hp}:∀{ds:List D}{xs:List V}{bs:List Bool},IsL K A H ds xs->ug ds=some bs->xs=bs.map V.bl
 | [],_,_,h,e=>by cases e;exact h
 | .bl b::r,_,bs,⟨x,ys,hx,h1,h2⟩,e=>by
  cases h1
  cases e1:ug r with
  |none=>simp[ug,e1]at e
  |some l=>
   simp[ug,e1]at e
   subst e
   rw[hx,uR h2 e1];rfl
 |.non::_,_,_,_,e=>by cases e
 |.int _::_,_,_,_,e=>by cases e
 |.str _::_,_,_,_,e=>by cases e
 |.tup _::_,_,_,_,e=>by cases e
 |.lst _::_,_,_,_,e=>by cases e
 |.dic _::_,_,_,_,e=>by cases e
 |.fz _::_,_,_,_,e=>by cases e
 |.exc _::_,_,_,_,e=>by cases e
theorem uJ {K:Fr0} {A:Addr->Prop} {H:Hp}:∀{ds:List D}{xs:List V}{bs:List Int},IsL K A H ds xs->vy ds=some bs->xs=bs.map V.int
 | [],_,_,h,e=>by cases e;exact h
 | .int b::r,_,bs,⟨x,ys,hx,h1,h2⟩,e=>by
  cases h1
  cases e1:vy r with
  |none=>simp[vy,e1]at e
  |some l=>
   simp[vy,e1]at e
   subst e
   rw[hx,uJ h2 e1];rfl
 |.non::_,_,_,_,e=>by cases e
 |.bl _::_,_,_,_,e=>by cases e
 |.str _::_,_,_,_,e=>by cases e
 |.tup _::_,_,_,_,e=>by cases e
 |.lst _::_,_,_,_,e=>by cases e
 |.dic _::_,_,_,_,e=>by cases e
 |.fz _::_,_,_,_,e=>by cases e
 |.exc _::_,_,_,_,e=>by cases e
theorem qjq {bs:List Bool}:∀{us:List Value},zt (bs.map V.bl) us->LSm.BoolsAre us bs:=by
 induction bs with
 |nil=>intro us r;rw[ybJ]at r;cases r;exact .nil
 | cons b bs ih=>
  intro us r
  rw[mC_]at r
  cases r with
  |cons r1 r2=>
   cases (show _=ybd b from r1)
   exact .cons b (ih r2)
section
variable{X:Cx}
theorem qcG (hc:X.calm=true):yK X (.builtin "all") (λxs H Q=>∃(p:Addr)(bs:List Bool),xs=[.ref p]/\H p=some (.lst (bs.map V.bl))/\Q (.bl (bs.all id)) H):=by
 intro pins s σ H xs us Q I r h
 obtain⟨p,bs,rfl,hp,q⟩:=h
 obtain⟨u,rfl,ru⟩:=zt.one r
 cases ru
 obtain⟨its,rv,pl,hz⟩:=I.list (SqL.of hp)
 have hl:=pl.isList
 have hb:=qjq rv
 have hlt:p<s.heap.objs.size:=by obtain⟨_,e,_⟩:=hl;exact yai e
 refine call_all_walk (yfx hl ?_)
 refine ⟨s.heap.objs.size,[s.heap.objs.size,p],[s.heap.objs.size],its.toArray.size,_,_,λi=>(bs[i]?).getD true,rfl,Walks.list (A:=X.A.in1) (I.ok.hd hc) _ p (yar hlt) its.toArray,
  ⟨⟨_,Heap.get?_push_size _ rfl,rfl,rfl⟩,hl.push _⟩,λi v s' Q' E' hP hQ=>?_,λh' tk hk=>?_⟩
 ·obtain⟨b,e,rfl⟩:=hb.get i v (by simpa using hP)
  simp only[e,yd4]at hQ
  exact ybB hQ
 ·have e:((yal its.toArray.size).all λi=>(bs[i]?).getD true)=bs.all id:=by
   rw[sT_,hb.length];exact LSm.range_all bs
  rw[e]
  exact⟨.bl _,H,I.kept (LSm.kept_iter hk),rfl,q⟩
theorem qjr (hc:X.calm=true):yK X (.builtin "sum") (λxs H Q=>∃(p:Addr)(ns:List Int),xs=[.ref p]/\H p=some (.lst (ns.map V.int))/\Q (.int ns.sum) H):=by
 intro pins s σ H xs us Q I r h
 obtain⟨p,ns,rfl,hp,q⟩:=h
 obtain⟨u,rfl,ru⟩:=zt.one r
 cases ru
 obtain⟨its,rv,pl,hz⟩:=I.list (SqL.of hp)
 have hl:=pl.isList
 have hi:ybC its ns:=yX rv
 obtain⟨zs,hx⟩:=hi.allInts.items
 have hl':s.heap.IsList p (intItems zs):=hx▸hl
 refine sum_intListG (I.ok.hd hc) hl' λh' tk t' hk=>?_
 have e1:ns=zs.toList.map (·.1):=by
  rw[<-nums_intItems,<-hx]
  exact(show numsOf its.toArray.toList=ns from hi.numsOf).symm
 have e2:preSum (numAt zs) zs.size=ns.sum:=by
  rw[preSum_eq,ybI (by simp),e1]
 rw[e2]
 exact⟨.int _,H,I.kept hk,⟨_,rfl⟩,q⟩
end
def qfm:List D->OD
 | [.lst ds]=>(ug ds).map λbs => .bl (bs.all id)
 |_=>none
def qnG:List D->OD
 | [.lst ds]=>(vy ds).map λbs => .int bs.sum
 |_=>none
section
variable{K:Fr0}
theorem qbf:wH K qfm (λxs H Q=>∃(p:Addr)(bs:List Bool),xs=[.ref p]/\H p=some (.lst (bs.map V.bl))/\Q (.bl (bs.all id)) H):=by
 intro A H xs d vs Q hn h e k
 unfold qfm at e
 split at e
 ·obtain⟨v,rfl,a,zs,rfl,_,ta,il⟩:=IsL.inv1 h
  obtain⟨bs,h1,h2⟩:=Option.map_eq_some_iff.mp e
  subst h2
  rw[uR il h1]at ta
  exact⟨a,bs,rfl,ta,k _ H (zZ.refl H) rfl⟩
 ·cases e
theorem qhD:wH K qnG (λxs H Q=>∃(p:Addr)(ns:List Int),xs=[.ref p]/\H p=some (.lst (ns.map V.int))/\Q (.int ns.sum) H):=by
 intro A H xs d vs Q hn h e k
 unfold qnG at e
 split at e
 ·obtain⟨v,rfl,a,zs,rfl,_,ta,il⟩:=IsL.inv1 h
  obtain⟨bs,h1,h2⟩:=Option.map_eq_some_iff.mp e
  subst h2
  rw[uJ il h1]at ta
  exact⟨a,bs,rfl,ta,k _ H (zZ.refl H) rfl⟩
 ·cases e
end
section
variable{X:Cx}
def qkx(K:Fr0):R2:=λx y H Q=>∃a b ys,x=.ref a/\y=.ref b/\SqT K H a []/\SqT K H b ys/\Q (.ref b) H
theorem qjs:OpR X (ybq .Add) (qkx X.K):=by
 intro pins s σ H x y v u Q I rx ry h
 obtain⟨a,b,ys,rfl,rfl,ha,hb,q⟩:=h
 cases rx
 cases ry
 obtain⟨its,r1,p1,_⟩:=I.tuple ha
 obtain⟨its2,r2,p2,_⟩:=I.tuple hb
 cases r1
 obtain⟨⟨cls,dd,data,sl⟩,ho,hc,n,hd⟩:=id p1
 obtain⟨⟨cls2,dd2,data2,sl2⟩,ho2,hc2,n2,hd2⟩:=id p2
 simp only at hc hd hc2 hd2
 subst hc hd hc2 hd2
 exact yfa ⟨_,ho,rfl⟩ ⟨_,ho2,rfl⟩ yd0 yeN ycP ycI (ycC _ _)
   (tuple_addW0 a b [].toArray its2.toArray n n2 dd dd2 sl sl2 (by simp)) ⟨ho,ho2,⟨.ref b,H,I,rfl,q⟩⟩
def qnH(K:Fr0):R2:=λx y H Q=>(∃i j,x=.int i/\y=.int j/\Q (.int (i+j)) H)\/((∃i j,x=.str i/\y=.str j/\i.length+j.length<=yat/\Q (.str (i++j)) H)\/(qkx K x y H Q\/(qnr K x y H Q\/qqe x y H Q)))
theorem qK:OpR X (ybq .Add) (qnH X.K):=OpR.or qni (OpR.or qgl (OpR.or qjs (OpR.or qlw qnw)))
end
def qU:D->D->OD
 |.int i,.int j=>some (.int (i+j))
 |.str x,.str y=>if zp (x.length+y.length)then some (.str (x++y))else none
 |.tup xs,.tup ys=>if zp (xs.length+ys.length)then some (.tup (xs++ys))else none
 |.lst xs,.lst ys=>if zp (xs.length+ys.length)then some (.lst (xs++ys))else none
 |_,_=>none
theorem qL {K:Fr0}:OpS K qU (qnH K):=by
 intro A H x y d v u Q hn ix iy e k
 cases x<;>cases y<;>simp only[qU]at e<;>try (cases e;done)
 ·rename_i i j
  cases ix;cases iy;cases e
  exact .inl ⟨i,j,rfl,rfl,k _ H (zZ.refl H) rfl⟩
 ·rename_i i j
  cases ix;cases iy
  obtain⟨e1,e2⟩:=z0 e
  subst e2
  exact .inr (.inl ⟨i,j,rfl,rfl,of_decide_eq_true e1,k _ H (zZ.refl H) rfl⟩)
 ·rename_i ds es
  obtain⟨a,xs,rfl,ta,il⟩:=ix
  obtain⟨b,ys,rfl,tb,jl⟩:=iy
  obtain⟨e1,e2⟩:=z0 e
  subst e2
  have hs:xs.length+ys.length<=yat:=by rw[il.length,jl.length];exact of_decide_eq_true e1
  refine .inr (.inr ?_)
  cases ds with
  |nil=>
   have hx:xs=[]:=il
   subst hx
   exact .inl ⟨a,b,ys,rfl,rfl,ta.sq,tb.sq,k _ H (zZ.refl H) ⟨b,ys,rfl,tb,jl⟩⟩
  | cons d0 ds=>
   refine .inr (.inl ⟨a,b,xs,ys,rfl,rfl,ta.sq,tb.sq,?_,hs,λhy=>?_,λhy p hp=>?_⟩)
   ·obtain⟨x,zs,hx,_⟩:=il
    rw[hx];simp
   ·subst hy
    cases es with
    |nil=>rw[yaZ]at k;exact k _ H (zZ.refl H) ⟨a,xs,rfl,ta,il⟩
    |cons e0 es=>obtain⟨_,_,hx,_⟩:=jl;cases hx
   ·exact k _ _ (qu hp _) ⟨p,xs++ys,rfl,.inl qv,IsL.ext (Ext.of_same (qu hp _)) (λ_ h _=>h) (IsL.append il jl)⟩
 ·rename_i ds es
  obtain⟨a,xs,rfl,hA,ta,il⟩:=ix
  obtain⟨b,ys,rfl,hB,tb,jl⟩:=iy
  obtain⟨e1,e2⟩:=z0 e
  subst e2
  have hs:xs.length+ys.length<=yat:=by rw[il.length,jl.length];exact of_decide_eq_true e1
  exact .inr (.inr (.inr (.inr ⟨a,b,xs,ys,rfl,rfl,ta,tb,hs,λp hp=>k _ _ (qu hp _) ⟨p,xs++ys,rfl,hn p hp,qv,IsL.ext (Ext.of_same (qu hp _)) (λ_ h _=>h) (IsL.append il jl)⟩⟩)))
section
variable{X:Cx}
def qqi(K:Fr0):V->Option Int->Option Int->Hp->VK->Prop:=λx lo hi H Q=>∃a xs,x=.ref a/\SqT K H a xs/\(HT.sIx xs.length 0 lo=0/\HT.sIx xs.length xs.length hi=xs.length)/\Q (.ref a) H
theorem v4 {prog:yas} {w:World} {A:yav} {E:Value->yab->Prop} {s:yab} {t sl:Addr} {items:Array Value} {vl vu:Value} {lo hi:Option Int} {Q:Value->yab->Prop} (ht:IsTup s.heap t items) (hs:s.heap.IsSliceOf sl vl vu .none) (pl:ycD vl lo) (pu:ycD vu hi)
  (hw:HT.sIx items.size 0 lo=0/\HT.sIx items.size items.size hi=items.size) (h:Q (.ref t) s):wpAny (model prog w) A (ycu (.ref t) (.ref sl)) Q E s:=by
 obtain⟨os,hos,hcs,hds⟩:=id hs
 have hTs:s.TypeIs (.ref sl) "slice":=⟨os,hos,hcs⟩
 unfold ycu
 try with_reducible refine ybn ?_
 first|refine yaa (yah ?_)|skip
 refine yaa (ydO ht.typeIs (by decide) ?_)
 refine yaa (wpAny_callSpecial?_slot (name:=ybl "__getitem__") ht.typeIs ya3
  (ybv ya3 ht.typeIs ydg ?_ (ydt _ _)))
 show wpAny _ _ (ycq (.ref t) >>= _) _ _ s
 refine yaa (yeO ht ?_)
 refine yaa (yd1 hTs ?_)
 rw[if_pos (by decide)]
 refine yaa (HT.sliceApplied_gen hs pl pu ?_)
 have hyes:(((HT.sIx items.size 0 lo:Nat):Int)==0&&(1:Int)==1&&(HT.sIx items.size items.size hi-HT.sIx items.size 0 lo)==items.size)=true:=by
  rw[hw.1,hw.2];simp
 show wpAny _ _ (if(((HT.sIx items.size 0 lo:Nat):Int)==0&&(1:Int)==1&&(HT.sIx items.size items.size hi-HT.sIx items.size 0 lo)==items.size)=true then _ else _) _ _ s
 rw[if_pos hyes]
 refine yaa (m:=ydF (.ref t)) ?_
 unfold ydF
 refine yaa (yd1 ht.typeIs ?_)
 refine yah ?_
 rw[if_pos (by decide)]
 exact yaa (yc5 (yah ⟨_,rfl,yah h⟩))
theorem qjt:SlR X (qqi X.K):=by
 intro pins s σ H x v vl vu lo hi sl Q I rx hs pl pu h
 obtain⟨a,xs,rfl,hx,hw,q⟩:=h
 cases rx
 obtain⟨its,r,ht,hz⟩:=I.tuple hx
 have hlen:its.toArray.size=xs.length:=by rw[sT_];exact r.length.symm
 refine⟨"tuple",_,PyProof.Rows.slot_tuple_getitem.lookup,ht.typeIs,?_⟩
 exact v4 ht hs pl pu (by rw[hlen];exact hw) ⟨.ref a,H,I,rfl,q⟩
theorem qnI:SlR X (λx lo hi H Q=>qqi X.K x lo hi H Q\/qqd X.K x lo hi H Q):=SlR.or qjt sl_tup
end
def qfn(xs:List D)(lo hi:Option Int):List D:=(xs.drop (HT.sIx xs.length 0 lo)).take (HT.sIx xs.length xs.length hi-HT.sIx xs.length 0 lo)
def slD (x:D) (lo hi:Option Int):OD:=match x with
 |.tup ds=>some (.tup (qfn ds lo hi))
 |_=>none
section
variable{X:Cx}{c:Fc}{a b e:Expr}{pos p2:Pos}
def DO(X:Cx)(c:Fc)(e:Option Expr)(f:M (Option Int)):Prop:=∃t,PO X e t/\∀Z σ H Q,Rep X.K c Z σ H->(∀o Z',f Z=.ok (o,Z')->∀H',Rep X.K c Z' σ H'->Gr c.O σ H H'->Q o H')->(∀x Z',f Z=.exc x Z'->∀H',Rep X.K c Z' σ H'->Gr c.O σ H H'->c.E x H')->f Z ≠ .bad->t σ H Q
theorem v5:DO X c none (ret none):=⟨_,qlv,λZ σ H Q r h _ _=>h none Z rfl H r .refl⟩
def asI:D->Option Int
 |.int i=>some i
 |_=>none
def yA (f:M D):M (Option Int):=bnd f λd=>match d with
 |.int i=>ret (some i)
 |_=>λ_ => .bad
theorem v6 {f:M D} (h:DE X c e f):DO X c (some e) (yA f):=by
 obtain⟨t,p,w⟩:=h
 refine⟨_,qhn p,λZ σ H Q r h1 h2 h3=>w Z σ H _ r ?_⟩
 unfold yA bnd at h1 h2 h3
 cases e1:f Z with
 |ok q=>
  obtain⟨d,Z'⟩:=q
  rw[e1]at h1 h2 h3
  intro v H' r' i' g'
  cases d<;>simp only[ret]at h1 h2 h3<;>try (exact absurd rfl h3)
  rename_i i
  exact⟨i,i',h1 (some i) Z' rfl H' r' g'⟩
 |exc x Z'=>rw[e1]at h2;exact λH' r' g'=>h2 x Z' rfl H' r' g'
 |bad=>rw[e1]at h3;exact absurd rfl h3
def dsl(f:M D)(g k:M (Option Int)):M D:=bnd f λd=>bnd g λl=>bnd k λu=>lift (slD d l u)
end
def z8 (X:Cx) (scope:Scope) (N':List Str) (fp:List Addr) (cl:List (Str×Addr)) (C:Addr) (s₀:yab) (H₀:Hp) (pn:List (Addr×Obj)):Cx where
 prog:=X.prog
 w:=X.w
 K:=X.K
 mg:=X.mg
 base:=X.base
 A:=X.A
 N:=N'
 s₀:=s₀
 H₀:=H₀
 env:=yeI scope cl C X.env
 outer:=X.stack
 stack:=X.stack
 ex:=fp
 fn:=λ_=>false
 calm:=X.calm
 pn:=pn
 xe:=λ_ _=>False
def PF (X:Cx) (ifs:List Expr) (t:TT):Prop:=∀(pins:List (Addr×Obj))(s:yab)(σ:St)(H:Hp)(Q:Bool->Hp->Prop),Inv X pins σ H s->t σ H Q ->
 wpAny (model X.prog X.w) X.A (forIn ifs true λc r=>if r=true then do let ok <-isTrue c X.env (eval c X.env);pure (ybz ok)else pure (ybz r)) (TP X pins σ Q) X.xe s
theorem qnJ{X:Cx}:PF X [] (λ_ H Q=>Q true H):=λpins s σ H Q I h=>wpAny_tests_nil ⟨H,I,h⟩
structure yB (X:Cx) (scope:Scope) (N':List Str) (nt:Nat) (fr:List Nat):Prop where
 kind:scope.kind=.function
 nocell:∀y∈scope.names,y.2 ≠ .cell
 names:∀y∈scope.names,y.2=.local->scope.names.lookup y.1=some .local
 frees:∀y∈scope.names,y.2=.free->X.env.kindOf y.1=some .cell
 len:N'.length=nt+fr.length
 slot:∀i j,fr[i]? = some j->∃x,N'[nt+i]? = some x/\X.N[j]? = some x/\scope.names.lookup x=some .free
theorem qam {env:yaU}:∀(names:List (Str×ycX))(cs:List (Str×Addr)),(∀y∈names,y.2=.free->∃a,env.cells.lookup y.1=some a)->(∀n a,cs.lookup n=some a->env.cells.lookup n=some a) ->
  ∃ cl,(forIn names cs λx r=>match x with|(name,kind)=>if(kind==ya5)=true then do let a <-cellOf env name;pure (ybz ((name,a)::r))else pure (ybz r):Sem (List (Str×Addr)))=pure cl /\
   (∀n a,cl.lookup n=some a->env.cells.lookup n=some a)/\(∀n,(∃a,cs.lookup n=some a)->∃a,cl.lookup n=some a)/\∀y∈names,y.2=.free->∃a,cl.lookup y.1=some a
 | [],cs,_,h=>⟨cs,rfl,h,λ_ h=>h,λy hy=>by cases hy⟩
 | (n,k)::r,cs,hf,h=>by
  have hr:∀y∈r,y.2=.free->∃a,env.cells.lookup y.1=some a:=λy hy=>hf y (mM _ hy)
  rw[yef]
  by_cases hk:k=.free
  ·subst hk
   obtain⟨a,ha⟩:=hf (n,.free) mS_ rfl
   have ha':env.cells.lookup n=some a:=ha
   have hcell:cellOf env n=pure a:=by unfold cellOf;rw[ha']
   obtain ⟨cl,e1,e2,e3,e4⟩:=qam r ((n,a)::cs) hr (λm b hm=>by
    rw[ya8]at hm
    cases e:m==n with
    |true=>rw[e]at hm;cases hm;rw[yc1 e];exact ha'
    |false=>rw[e]at hm;exact h m b hm)
   refine⟨cl,?_,e2,λm ⟨b,hm⟩=>e3 m ?_,λy hy hyf=>?_⟩
   ·show((if(ya5==ya5)=true then _ else _) >>= _)=_
    rw[if_pos (by rfl),hcell]
    exact e1
   ·rw[ya8]
    cases e:m==n with
    |true=>exact⟨a,rfl⟩
    |false=>exact⟨b,hm⟩
   ·rcases List.mem_cons.mp hy with rfl|hy
    ·exact e3 n ⟨a,by rw[ya8];simp⟩
    ·exact e4 y hy hyf
  ·have hb:(k==ya5)=false:=by simpa using hk
   obtain⟨cl,e1,e2,e3,e4⟩:=qam r cs hr h
   refine⟨cl,?_,e2,e3,λy hy hyf=>?_⟩
   ·show((if(k==ya5)=true then _ else _) >>= _)=_
    rw[hb,if_neg yam]
    exact e1
   ·rcases List.mem_cons.mp hy with rfl|hy
    ·exact absurd hyf hk
    ·exact e4 y hy hyf
theorem wK {env:yaU} {scope:Scope} (hf:∀y∈scope.names,y.2=.free->∃a,env.cells.lookup y.1=some a) :
  ∃cl,closureFor scope env=pure cl/\(∀n a,cl.lookup n=some a->env.cells.lookup n=some a)/\∀y∈scope.names,y.2=.free->∃a,cl.lookup y.1=some a:=by
 obtain⟨cl,e1,e2,_,e4⟩:=qam scope.names [] hf (λn a h=>by cases h)
 refine⟨cl,?_,e2,e4⟩
 unfold closureFor
 show(forIn scope.names [] _ >>= _)=_
 have e5:(forIn scope.names [] λx r=>match x with|(name,kind)=>if(kind==ya5)=true then do let a <-cellOf env name;pure (ybz ((name,a)::r))else pure (ybz r):Sem (List (Str×Addr)))=pure cl:=e1
 first
  |(rw[e5];rfl)
  |(simp only[bind_pure_comp,e5];rfl)
theorem uh {env:yaU}:∀{names:List (Str×ycX)}{x:Str},names.lookup x=some .free->env.scope.kind=.function->env.kindOf x=some .cell ->
  (names.map λ(n,k)=>if(k==ya5&&env.scope.kind == .function&&env.kindOf n==some .cell) then(n,ycW) else(n,k)).lookup x=some .cell
 | [],_,h,_,_=>by simp at h
 | (n,k)::r,x,h,hk,hx=>by
  have ih := @uh env r x
  show List.lookup x ((if(k==ya5&&env.scope.kind == .function&&env.kindOf n==some .cell)=true then(n,ycW) else(n,k))::_)=_
  cases hxn:x==n with
  |true=>
   have e:x=n:=yc1 hxn
   subst e
   simp only[ya8,hxn]at h
   cases h
   rw[if_pos (by rw[hk,hx];rfl)]
   simp only[ya8,hxn]
  |false=>
   simp only[ya8,hxn]at h
   by_cases hc:(k==ya5&&env.scope.kind == .function&&env.kindOf n==some .cell)=true
   ·rw[if_pos hc];simp only[ya8,hxn];exact ih h hk hx
   ·rw[if_neg hc];simp only[ya8,hxn];exact ih h hk hx
theorem yg {env:yaU}:∀{names:List (Str×ycX)}{x:Str}{q:ycX},(names.map λ(n,k)=>if(k==ya5&&env.scope.kind == .function&&env.kindOf n==some .cell) then(n,ycW) else(n,k)).lookup x=some q ->
  q=.cell\/q=.free->(∀y∈names,y.2 ≠ .cell)->∃k,(x,k)∈names/\k=.free
 | [],_,_,h,_,_=>by simp at h
 | (n,k)::r,x,q,h,hq,hc=>by
  have ih := @yg env r x q
  have h':List.lookup x ((if(k==ya5&&env.scope.kind == .function&&env.kindOf n==some .cell)=true then(n,ycW) else(n,k))::(r.map λ(n,k)=>if(k==ya5&&env.scope.kind == .function&&env.kindOf n==some .cell) then(n,ycW) else(n,k)))=some q:=h
  have hr:∀y∈r,y.2 ≠ .cell:=λy hy=>hc y (mM _ hy)
  by_cases hcd:(k==ya5&&env.scope.kind == .function&&env.kindOf n==some .cell)=true
  ·rw [if_pos hcd]at h'
   cases hxn:x==n with
   |true=>
    have e:x=n:=yc1 hxn
    subst e
    refine⟨k,mS_,?_⟩
    rw[yag,yag]at hcd
    exact yc1 hcd.1.1
   |false=>
    simp only[ya8,hxn]at h'
    obtain⟨k',m,e⟩:=ih h' hq hr
    exact⟨k',mM _ m,e⟩
  ·rw [if_neg hcd]at h'
   cases hxn:x==n with
   |true=>
    have e:x=n:=yc1 hxn
    subst e
    simp only[ya8,hxn]at h'
    cases h'
    rcases hq with rfl|rfl
    ·exact absurd rfl (hc (x,.cell) mS_)
    ·exact⟨.free,mS_,rfl⟩
   |false=>
    simp only[ya8,hxn]at h'
    obtain⟨k',m,e⟩:=ih h' hq hr
    exact⟨k',mM _ m,e⟩
def ze(nt:Nat)(fr:List Nat)(σ:St):St:=yaw nt none++fr.map λj=>(σ[j]?).join
def qlI (X:Cx) (tg:Expr) (ifs:List Expr) (elt:Expr) (scope:Scope) (N':List Str) (wi:TI) (nt:Nat) (fr:List Nat):TE:=λσ H Q=>wi σ H λJ H1=>∀acc fp cl C s₀ H₀ pn,H1 acc=none ->
 ∃(g:TG)(tt:TT)(te:TE),PG (z8 X scope N' fp cl C s₀ H₀ pn) tg g/\PF (z8 X scope N' fp cl C s₀ H₀ pn) ifs tt/\PE (z8 X scope N' fp cl C s₀ H₀ pn) elt te /\
 ∃W:Nat->Nat->St->Hp->Prop,(∃m,W 0 m (ze nt fr σ) (upd H1 acc (.lst []))) /\
 ∀ i m σ' H',W i m σ' H'->(J.stop i H'/\Q (.ref acc) H')\/(J.go i H'/\∀x H'',J.yld i H' x H''->g x σ' H'' λσ2 H2=>tt σ2 H2 λb H3=>
  if b=true then te σ2 H3 λy H4=>∃ys,H4 acc=some (.lst ys)/\ys.length<yat/\∃m',m'<m/\W (i+1) m' σ2 (upd H4 acc (.lst (ys++[y])))else ∃m',m'<m/\W (i+1) m' σ2 H3)
section
variable{X:Cx}{tg iter elt:Expr}{ifs:List Expr}{scope:Scope}{pos:Pos}{wi:TI}{N':List Str}{nt:Nat}{fr:List Nat}
theorem qbg {prog:yas} {w:World} {A:yav} {R:ye6->yab->Prop} {s:yab} {it acc:Value} {env:yaU} (I:Nat->yab->Prop)
  (turn : ∀n s,I n s->wpAny (model prog w) A (yeq it) (λr sK=>match r with
   |none=>R (.ok .next) sK
   | some v=>wpAny (model prog w) A (ycx tg it v) (λ_ s1'=>wpAny (model prog w) A (yce tg env v) (λ_ sQ=>
     wpAny (model prog w) A (forIn ifs true λc r=>if r=true then do let ok <-isTrue c env (eval c env);pure (ybz ok)else pure (ybz r)) (λok sV=>
      if ok=true then wpAny (model prog w) A (eval elt env) (λx sY=>
       wpAny (model prog w) A (call (.builtin "list.append") [acc,x]) (λ_ sJ=>∃m,m<n/\I m sJ) (λ_ _=>False) sY) (λ_ _=>False) sV
      else ∃m,m<n/\I m sV) (λ_ _=>False) sQ) (λ_ _=>False) s1') (λ_ _=>False) sK) (λ_ _=>False) s)
  (n:Nat) (h:I n s):ycf (model prog w) A (.compLoop (.ListComp elt [⟨tg,iter,ifs,0⟩] scope pos) 0 it acc env) R s:=by
 refine codeAny_loop rfl I (λn s hI=>?_) n h
 show wpAny _ A ((compTurn (.ListComp elt [⟨tg,iter,ifs,0⟩] scope pos) 0 it acc env).onRaise (λx=>do yeg x env;theTreesLotGoes x)) _ _ s
 refine wpAny_noted ?_
 rw[compTurn_list]
 refine yaa (yb1 (yaa (ya1 (turn n s hI) (λr sK h₁=>?_) λ_ _ h'=>h'.elim)))
 cases r with
 |none=>exact yah h₁
 | some v=>
  refine yaa (ya1 h₁ (λ_ s1' hK'=>?_) λ_ _ h'=>h'.elim)
  refine yaa (ya1 hK' (λ_ sQ hX=>yaa (ya1 hX (λok sV hV=>?_) λ_ _ h'=>h'.elim)) λ_ _ h'=>h'.elim)
  cases ok with
  |false=>exact yah ⟨rfl,hV⟩
  |true=>
   exact yaa (yaa (ya1 hV (λx sY hG=>yaa (ya1 hG (λ_ sJ hJ=>yah (yah ⟨rfl,hJ⟩)) λ_ _ h'=>h'.elim)) λ_ _ h'=>h'.elim))
theorem qce {pins:List (Addr×Obj)} {σ:St} {H:Hp} {s:yab} {h₁:Heap} {tk:Nat} {fp:List Addr} {cl:List (Str×Addr)} (S:yB X scope N' nt fr) (I:Inv X pins σ H s) (hfp:∀b∈fp,qeq X pins H b)
  (hex:∀b∈fp,∃o,s.heap.get? b=some o) (cl1:∀n a,cl.lookup n=some a->X.env.cells.lookup n=some a) (cl2:∀y∈scope.names,y.2=.free->∃a,cl.lookup y.1=some a)
  (hns:∃m,h₁.Ns s.heap.objs.size m) (old:∀b o,s.heap.get? b=some o->h₁.get? b=some o) :
  Inv (z8 X scope N' fp cl s.heap.objs.size s H (X.pn++pins)) [] (ze nt fr σ) H {s with heap:=h₁,toks:=tk}:=by
 have stkB:∀b∈frs X.stack,b=X.env.locals\/b∈X.fs:=λb hb=>List.mem_cons.mp (I.stkSub b hb)
 have hC:∀b o,s.heap.get? b=some o->b≠s.heap.objs.size:=λb o e=>yar (yai e)
 obtain⟨m,hn⟩:=hns
 refine ⟨⟨I.ok.mod,S.kind,I.ok.glob,I.ok.blt,yad _,λx y c h1 h2=>I.ok.inj x y c (cl1 x c h1) (cl1 y c h2),λx hx=>?_,λx c hx=>?_,I.ok.hd,I.ok.frames,.inl rfl,λb hb=>⟨?_,λx c hx=>(hfp b hb).2.2.2.2.1 x c (cl1 x c hx)⟩,I.bs,yaA I.ok.bsz I.sz,λb o e hb=>?_,λb hb hb2=>?_,I.stack,I.stkFree⟩,
  rfl,I.bare,Un.kept old,⟨m,hn,λi x v h1 h2 h3=>?_⟩,λx c hx=>?_,I.hok.fresh (yad _),λx c hx=>I.freeC x c (cl1 x c hx),λp hp=>?_,I.hok.kept old,?_⟩
 ·have hx':∃k,(x,k)∈scope.names/\k=.free:=by
   rcases hx with hx|hx
   ·exact yg (env:=X.env) (q:=.cell) hx (.inl rfl) S.nocell
   ·exact yg (env:=X.env) (q:=.free) hx (.inr rfl) S.nocell
  obtain⟨k,m,rfl⟩:=hx'
  exact cl2 (x,.free) m rfl
 ·have hx':false=true:=hx
  cases hx'
 ·obtain⟨o,e⟩:=hex b hb
  exact hC b o e
 ·obtain⟨f0,f1,f2,f3,f4,f5⟩:=hfp b hb
  rcases f3 with z|z
  ·exact I.ok.noex b o e z
  ·exact absurd (yay (yai e) (yaA I.ok.bsz z)) (ybt _)
 ·obtain⟨f0,f1,f2,f3,f4,f5⟩:=hfp b hb
  rcases stkB b hb2 with z|z
  ·exact f1 z
  ·exact f2 z
 ·-- names
  have hi:nt<=i:=by
   apply ycY
   intro hlt
   unfold ze at h2
   rw[List.getElem?_append_left (by simpa using hlt),List.getElem?_replicate]at h2
   split at h2<;>cases h2
  have h2':(fr.map λj=>(σ[j]?).join)[i-nt]? = some (some v):=by
   unfold ze at h2
   rw[List.getElem?_append_right (by simpa using hi),ybk]at h2
   exact h2
  rw[gM_]at h2'
  cases ej:fr[i-nt]? with
  |none=>rw[ej]at h2';cases h2'
  | some j=>
   rw[ej]at h2'
   have hσ:(σ[j]?).join=some v:=by simpa using h2'
   have hσ':σ[j]? = some (some v):=by
    cases e:σ[j]? with
    |none=>rw[e]at hσ;cases hσ
    |some o=>
     rw[e]at hσ
     have:o=some v:=hσ
     rw[this]
   obtain⟨y,hy1,hy2,hy3⟩:=S.slot (i-nt) j ej
   have hii:nt+(i-nt)=i:=by omega
   rw[hii]at hy1
   have exy:y=x:=by
    have h1':N'[i]? = some x:=h1
    rw[h1']at hy1
    exact(yaO hy1).symm
   subst exy
   have hmem:(y,ya5)∈scope.names:=yaW hy3
   have hcellk:X.env.kindOf y=some .cell:=S.frees (y,.free) hmem rfl
   obtain⟨m0,hn0,hl0⟩:=I.loc
   obtain⟨u,ru,lk⟩:=hl0 j y v hy2 hσ' (.inr (.inl hcellk))
   refine⟨u,ru,.inr ⟨.inl (uh hy3 I.ok.kind hcellk),?_⟩⟩
   rcases lk with⟨k1,_⟩|⟨_,c,e,z⟩
   ·rw[hcellk]at k1;cases k1
   ·obtain⟨a,ea⟩:=cl2 (y,.free) hmem rfl
    have ea':=cl1 y a ea
    rw[e]at ea'
    cases ea'
    obtain⟨o,ho,hd⟩:=z
    exact⟨c,ea,o,old _ _ ho,hd⟩
 ·obtain⟨v,o,ho,hd⟩:=I.cell x c (cl1 x c hx)
  exact⟨v,o,old _ _ ho,hd⟩
 ·have hp':p∈X.pn++pins:=by
   rcases mA_.mp (show p∈(X.pn++pins)++[]from hp)with z|z
   ·exact z
   ·cases z
  obtain⟨e,n,ne,nf,d⟩:=I.pin p hp'
  refine⟨old _ _ e,n,hC _ _ e,λz=>?_,d⟩
  rcases stkB p.1 z with z|z
  ·exact ne z
  ·exact nf z
 ·show(ze nt fr σ).length=N'.length
  unfold ze
  rw[lA_,ybk,lM_,S.len]
theorem qfo {pins:List (Addr×Obj)} {σ σ':St} {H H':Hp} {s s':yab} {h':Heap} {fp:List Addr} {cl:List (Str×Addr)} (I:Inv X pins σ H s) (hfp:∀b∈fp,qeq X pins H b)
  (J:Inv (z8 X scope N' fp cl s.heap.objs.size s H (X.pn++pins)) [] σ' H' s') (sb:ycd s.heap.objs.size s'.heap h'):Inv X pins σ H' {s' with heap:=h' }:=by
 have hC:H' s.heap.objs.size=none:=J.free
 have u:=J.base
 have big:∀b o,s.heap.get? b=some o->b≠s.heap.objs.size:=λb o e=>yar (yai e)
 have get':∀b,b≠s.heap.objs.size->h'.get? b=s'.heap.get? b:=λb hb=>sb.2 b hb
 have u2:Un (frs X.stack) fp H H' s.heap h' :=
  ⟨λb o e n hb hx=>(get' b (big b o e)).trans (u.keep b o e n hb hx),λb o e n hb hx=>by
   obtain⟨sl,q⟩:=u.slot b o e n hb hx
   exact⟨sl,(get' b (big b o e)).trans q⟩,u.free,λb o e hx=>by
   obtain⟨o',q⟩:=u.there b o e hx
   exact⟨o',(get' b (big b o e)).trans q⟩,u.tups,u.frzs,u.tbls⟩
 refine I.call' (s':={s' with heap:=h' }) (ch:=fp) J.os u2 (λb o e=>?_) J.bare (λb hb=>?_)
 ·refine(J.hok b o e).stay (λc v hc q=>?_) (λ_ q=>q) λ_ _ q=>q
  refine(get' c ?_).trans q
  rintro rfl
  rcases hc with hc|hc
  ·rw[<-hc,hC]at e;cases e
  ·rw[hC]at hc;cases hc
 ·obtain⟨f0,f1,f2,f3,f4,f5⟩:=hfp b hb
  exact⟨f3,f1,f4,f5⟩
theorem qlJ (hc:X.calm=true) (hi:PI X tg iter wi) (S:yB X scope N' nt fr)
  (hs:∀x,ybS iter X.env x=pure x:=by intro _;rfl):PE X (.ListComp elt [⟨tg,iter,ifs,0⟩] scope pos) (qlI X tg ifs elt scope N' wi nt fr):=by
 intro pins s σ H Q I hw
 obtain⟨cl,hcl,cl1,cl2⟩:=wK (env:=X.env) (scope:=scope) (λy hy hf=>I.ok.has y.1 (.inl (S.frees y hy hf)))
 rw[eval_ListComp]
 refine yd5 (use:=none) rfl hs hcl S.kind S.names (thn (hi pins s σ H _ I hw) λv s1 h1=>thn h1 λitv s2 h2=>?_)
 obtain⟨it,fp,tn,J,H2,e,I2,T,st2,f2,hR⟩:=h2
 subst e
 have hacc:H2 s2.heap.objs.size=none:=I2.hok.fresh (yad _)
 refine yaL (yeJ S.nocell (by intro y hy;simp at hy) (λh₁ hns1 hsb1=>?_) S.kind)
 dsimp only at hns1 hsb1 |-
 have I3:Inv X pins σ (upd H2 s2.heap.objs.size (.lst [])) {s2 with heap:=s2.heap.push {cls:=.type "list",dict:=none,data:=.seq ([]:List Value).toArray} } :=
  I2.lnew (t':=s2.toks) (its:=[]) .nil (yaE _)
 generalize hs3:({s2 with heap:=s2.heap.push {cls:=.type "list",dict:=none,data:=.seq ([]:List Value).toArray} }:yab)=s3 at I3
 have hh3:s2.heap.push {cls:=.type "list",dict:=none,data:=.seq ([]:List Value).toArray}=s3.heap:=by rw[<-hs3]
 rw[hh3]at hns1 hsb1
 have old:∀b o,s3.heap.get? b=some o->h₁.get? b=some o:=λb o q=>hsb1.extBut b o (yar (yai q)) (Heap.get?_push_of_some _ q)
 have objs2:∀b∈fp,∃o,s2.heap.get? b=some o:=λb hb=>by
  obtain⟨o,q,_⟩:=T.obj 0 _ st2 b hb
  exact⟨o,q⟩
 have keep23:∀b o,s2.heap.get? b=some o->s3.heap.get? b=some o:=λb o q=>by rw[<-hh3];exact Heap.get?_push_of_some _ q
 have fpne:∀b∈fp,b≠s2.heap.objs.size:=λb hb=>by
  obtain⟨o,q⟩:=objs2 b hb
  exact yar (yai q)
 have f3:∀b∈fp,qeq X pins (upd H2 s2.heap.objs.size (.lst [])) b:=λb hb=>⟨by rw[qw (fpne b hb)];exact(f2 b hb).1,(f2 b hb).2⟩
 have J0:Inv (z8 X scope N' fp cl s3.heap.objs.size s3 (upd H2 s2.heap.objs.size (.lst [])) (X.pn++pins)) [] (ze nt fr σ) (upd H2 s2.heap.objs.size (.lst [])) {s3 with heap:=h₁,toks:=s3.toks} :=
  qce S I3 f3 (λb hb=>(objs2 b hb).imp λo q=>keep23 b o q) cl1 cl2 ⟨_,hns1⟩ old
 obtain⟨g,tt,te,hg,hf,he,W,⟨m0,w0⟩,turn⟩:=hR s2.heap.objs.size fp cl s3.heap.objs.size s3 (upd H2 s2.heap.objs.size (.lst [])) (X.pn++pins) hacc
 have T0:tn 0 h₁:=T.keep 0 _ _ st2 λb hb o q=>old b o (keep23 b o q)
 have s3e:∀tk:Nat,({s2 with heap:=h₁,toks:=tk}:yab)={s3 with heap:=h₁,toks:=tk}:=λtk=>by rw[<-hs3]
 have loop:∀tk:Nat,ycf (model X.prog X.w) X.A (.compLoop (.ListComp elt [⟨tg,iter,ifs,0⟩] scope pos) 0 (.ref it) (.ref s2.heap.objs.size) (yeI scope cl s3.heap.objs.size X.env))
   (yfK (model X.prog X.w) X.A X.xe none (EP X pins σ Q) (.ref s2.heap.objs.size) s3.heap.objs.size) {s3 with heap:=h₁,toks:=tk}:=λtk=>by
  have stat:∀{H':Hp},(∀b∈fp,H' b=none)->∀b∈fp,qeq (z8 X scope N' fp cl s3.heap.objs.size s3 (upd H2 s2.heap.objs.size (.lst [])) (X.pn++pins)) [] H' b:=λ{H'} hn b hb=>by
   obtain⟨o,q⟩:=objs2 b hb
   have hbC:b≠s3.heap.objs.size:=yar (yai (keep23 b o q))
   refine⟨hn b hb,hbC,λz=>?_,.inl hb,λx c hx=>(f2 b hb).2.2.2.2.1 x c (cl1 x c hx),λp hp=>?_⟩
   ·rcases List.mem_cons.mp (I2.stkSub b z)with z|z
    ·exact(f2 b hb).2.1 z
    ·exact(f2 b hb).2.2.1 z
   ·have hp':p∈X.pn++pins:=by
     rcases mA_.mp (show p∈(X.pn++pins)++[]from hp)with z|z
     ·exact z
     ·cases z
    exact(f2 b hb).2.2.2.2.2 p hp'
  have fr0:∀b∈fp,upd H2 s2.heap.objs.size (.lst []) b=none:=λb hb=>(f3 b hb).1
  refine qbg (λn s'=>∃i σ' H',Inv (z8 X scope N' fp cl s3.heap.objs.size s3 (upd H2 s2.heap.objs.size (.lst [])) (X.pn++pins)) [] σ' H' s'/\tn i s'.heap/\(∀b∈fp,H' b=none)/\W i n σ' H') ?_ m0
   ⟨0,ze nt fr σ,_,J0.tok tk,T0,fr0,w0⟩
  rintro n s4 ⟨i,σ4,H4,J4,st4,fr4,w4⟩
  rcases turn i n σ4 H4 w4 with⟨stop,qn⟩|⟨go,step⟩
  ·refine thn (T.done (z8 X scope N' fp cl s3.heap.objs.size s3 (upd H2 s2.heap.objs.size (.lst [])) (X.pn++pins)) rfl rfl rfl hc i [] s4 σ4 H4 _ J4 (stat fr4) st4 stop) λr s5 ⟨hr,J5⟩=>?_
   subst hr
   obtain⟨m5,n5,_⟩:=J5.loc
   refine⟨m5,n5,λh' sb=>⟨.ref s2.heap.objs.size,H4,qfo I3 f3 J5 sb,rfl,qn⟩⟩
  ·refine thn (T.item (z8 X scope N' fp cl s3.heap.objs.size s3 (upd H2 s2.heap.objs.size (.lst [])) (X.pn++pins)) rfl rfl rfl hc i [] s4 σ4 H4 _ J4 (stat fr4) st4 go) λr s5 ⟨u,hr,h5⟩=>?_
   subst hr
   refine thn h5 λ_ s6 ⟨x,H6,J6,r6,y6,st6,fr6⟩=>?_
   have J6':=J6.pinned (stat fr6) (T.obj _ _ st6)
   have again:∀{σ7:St}{H7:Hp}{s7:yab},Inv (z8 X scope N' fp cl s3.heap.objs.size s3 (upd H2 s2.heap.objs.size (.lst [])) (X.pn++pins)) ([]++qb9 fp s6.heap) σ7 H7 s7->(∃m',m'<n/\W (i+1) m' σ7 H7) ->
     ∃m,m<n/\∃i σ' H',Inv (z8 X scope N' fp cl s3.heap.objs.size s3 (upd H2 s2.heap.objs.size (.lst [])) (X.pn++pins)) [] σ' H' s7/\tn i s7.heap/\(∀b∈fp,H' b=none)/\W i m σ' H':=λ{σ7 H7 s7} I7 hm=>by
    obtain⟨m',hm,w7⟩:=hm
    refine⟨m',hm,i+1,σ7,H7,I7.unpinned,T.keep _ _ _ st6 λb hb o q=>(I7.pin (b,o) (mr_ _ (mr_ _ (yW hb q)))).1,λb hb=>?_,w7⟩
    obtain⟨o,q,d⟩:=T.obj _ _ st6 b hb
    exact(I7.pin (b,o) (mr_ _ (mr_ _ (yW hb q)))).2.1
   refine thn (hg _ s6 σ4 H6 x u _ J6' r6 (step x H6 y6)) λ_ s7 ⟨σ7,H7,J7,q7⟩=>?_
   refine thn (hf _ s7 σ7 H7 _ J7 q7) λok s8 ⟨H8,J8,q8⟩=>?_
   cases ok with
   |false=>
    rw[if_neg yam]at q8 |-
    exact again J8 q8
   |true=>
    rw[if_pos rfl]at q8 |-
    refine thn (he _ s8 σ7 H8 _ J8 q8) λz s9 ⟨y,H9,J9,r9,ys,hys,hz,hm⟩=>?_
    refine thn (qa5 _ s9 σ7 H9 (.ref s2.heap.objs.size) [y] (.ref s2.heap.objs.size) [z] (λ_ H'=>H'=upd H9 s2.heap.objs.size (.lst (ys++[y]))) J9 rfl (.cons r9 .nil) ⟨_,ys,y,rfl,rfl,hys,hz,rfl⟩) λ_ s10 ⟨_,H10,J10,_,e10⟩=>?_
    subst e10
    exact again J10 hm
 have ji:∀tk:Nat,ycf (model X.prog X.w) X.A (.compStart (.ListComp elt [⟨tg,iter,ifs,0⟩] scope pos) 0 (.ref it) (.ref s2.heap.objs.size) (yeI scope cl s3.heap.objs.size X.env))
   (yfK (model X.prog X.w) X.A X.xe none (EP X pins σ Q) (.ref s2.heap.objs.size) s3.heap.objs.size) {s3 with heap:=h₁,toks:=tk}:=λtk=>
  yel (loop tk) (T.self X.A 0 _ _ _ T0 (loop tk))
 have fin:=ji (s2.toks+([]:List (Str×Value)).length)
 rw[<-s3e]at fin
 rw[<-hh3]at fin
 rw[hh3]at fin |-
 exact fin
end
structure qky (K:Fr0) (A:Addr->Prop) (H:Hp) (ds:List D) (J:It):Prop where
 go:∀H' i d,Ext A H H'->ds[i]? = some d->J.go i H'
 yl:∀H' i d x H'',Ext A H H'->ds[i]? = some d->J.yld i H' x H''->zZ H' H''/\Is K A H'' d x
 stop:∀H',Ext A H H'->J.stop ds.length H'
def CnT(c:Fc)(σ:St)(H:Hp)(a:Addr):Prop:=Cn c σ a/\(H a).isSome=true
def WpI (K:Fr0) (c:Fc) (σ:St) (H:Hp) (Q:It->Hp->Prop):R (List D×Env)->Prop
 |.ok (ds,Z)=>∀J H',Rep K c Z σ H'->qky K (CnT c σ H') H' ds J->Gr c.O σ H H'->Q J H'
 |.exc x Z=>∀H',Rep K c Z σ H'->Gr c.O σ H H'->c.E x H'
 |.bad=>False
def DI(X:Cx)(c:Fc)(tg it:Expr)(f:M (List D)):Prop:=∃w,PI X tg it w/\∀Z σ H Q,Rep X.K c Z σ H->WpI X.K c σ H Q (f Z)->w σ H Q
section
variable{X:Cx}{c:Fc}{tg a b e:Expr}{pos:Pos}
def qqZ(K:Fr0)(tl:TE):TI:=λσ H R=>tl σ H λx H1=>(∃a,x=.ref a/\(∃xs,SqL K H1 a xs)/\R (Itl K a) H1)\/(∃a,x=.ref a/\(∃xs,SqT K H1 a xs)/\R (Itt K a) H1)
theorem qnK {tl:TE} (hl:PE X e tl):PI X tg e (qqZ X.K tl):=by
 intro pins s σ H R I h
 refine thn (hl pins s σ H _ I h) λv s1 ⟨x,H1,I1,r1,q1⟩=>?_
 rcases q1 with⟨a,e,⟨xs,hq⟩,q⟩|⟨a,e,⟨xs,hq⟩,q⟩
 ·subst e
  cases r1
  obtain⟨its,rv,p,hz⟩:=I1.list hq
  refine yfx p.isList ?_
  refine⟨s1.heap.objs.size,[s1.heap.objs.size],_,_,H1,rfl,I1.kept (t':=s1.toks) λb o e=>Heap.get?_push_of_some _ e,qg9 a _,⟨_,Heap.get?_push_size _ rfl,rfl,rfl⟩,λb hb=>?_,q⟩
  have e:b=s1.heap.objs.size:=by simpa using hb
  subst e
  exact I1.fpOk (yad _) (I1.hok.fresh (yad _))
 ·subst e
  cases r1
  obtain⟨its,rv,p,hz⟩:=I1.tuple hq
  refine ydu (show s1.heap.IsTuple a its.toArray from p) ?_
  refine⟨s1.heap.objs.size,[s1.heap.objs.size],_,_,H1,rfl,I1.kept (t':=s1.toks) λb o e=>Heap.get?_push_of_some _ e,qgi a _,⟨_,Heap.get?_push_size _ rfl,rfl,rfl⟩,λb hb=>?_,q⟩
  have e:b=s1.heap.objs.size:=by simpa using hb
  subst e
  exact I1.fpOk (yad _) (I1.hok.fresh (yad _))
def qnL:D->Option (List D)
 |.tup ds=>some ds
 |.lst ds=>some ds
 |.fz ns=>some (ns.map .int)
 |_=>none
theorem SqL.inj {K:Fr0} {H:Hp} {a:Addr} {xs ys:List V} (h:H a=some (.lst xs)) (q:SqL K H a ys) (hk:∀o,K.lookup a=some o->False):ys=xs:=by
 rcases q with(q|⟨o,q⟩)|⟨o,_,_,q,_⟩
 ·rw[h]at q;cases q;rfl
 ·rw[h]at q;cases q
 ·exact(hk o q).elim
theorem qcH {K:Fr0} {A:Addr->Prop} {H:Hp}:∀ns:List Int,IsL K A H (ns.map .int) (ns.map V.int)
 | []=>rfl
 |n::ns=>⟨.int n,ns.map V.int,rfl,rfl,qcH ns⟩
theorem qhE {K:Fr0} {A:Addr->Prop} {H:Hp} {ds:List D} {xs:List V} {a:Addr} (hs:∀H',Ext A H H'->SqL K H' a xs) (il:IsL K A H ds xs):qky K A H ds (Itl K a) where
 go:=λH' i d ex hd=>by
  obtain⟨x,h1,h2⟩:=il.get hd
  exact⟨xs,x,hs H' ex,h1⟩
 yl:=λH' i d x H'' ex hd y=>by
  obtain⟨e,y⟩:=y
  subst e
  obtain⟨x',h1,h2⟩:=il.get hd
  have h3:=y xs (hs _ ex)
  rw[h1]at h3
  cases h3
  exact⟨zZ.refl _,Is.ext ex (λ_ h _=>h) h2⟩
 stop:=λH' ex=>⟨xs,hs H' ex,by rw[il.length];exact yad _⟩
theorem qnM {K:Fr0} {A:Addr->Prop} {H:Hp} {ds:List D} {xs:List V} {a:Addr} (hs:TupAt K H a xs) (il:IsL K A H ds xs):qky K A H ds (Itt K a) where
 go:=λH' i d ex hd=>by
  obtain⟨x,h1,h2⟩:=il.get hd
  exact⟨xs,x,(hs.elim (λh => .inl (ex.tup _ _ h)) .inr:TupAt K H' a xs).sq,h1⟩
 yl:=λH' i d x H'' ex hd y=>by
  obtain⟨e,y⟩:=y
  subst e
  obtain⟨x',h1,h2⟩:=il.get hd
  have h3:=y xs (hs.elim (λh => .inl (ex.tup _ _ h)) .inr:TupAt K _ a xs).sq
  rw[h1]at h3
  cases h3
  exact⟨zZ.refl _,Is.ext ex (λ_ h _=>h) h2⟩
 stop:=λH' ex=>⟨xs,(hs.elim (λh => .inl (ex.tup _ _ h)) .inr:TupAt K H' a xs).sq,by rw[il.length];exact yad _⟩
def yt(f:M D):M (List D):=bnd f λd=>lift (qnL d)
theorem qcI {K:Fr0} {σ:St} {H:Hp} {Q:It->Hp->Prop} {o:Option (List D)} {Z:Env} (h:WpI K c σ H Q (lift o Z)):∃ds,o=some ds/\∀J H',Rep K c Z σ H'->qky K (CnT c σ H') H' ds J->Gr c.O σ H H'->Q J H':=by
 cases o with
 |none=>exact h.elim
 |some d=>exact⟨d,rfl,h⟩
theorem WpI.gr {K:Fr0} {σ:St} {H H1:Hp} {Q:It->Hp->Prop}:∀{r:R (List D×Env)},WpI K c σ H Q r->Gr c.O σ H H1->WpI K c σ H1 Q r
 |.ok (d,Z),h,g=>λv H' hr hi hg=>h v H' hr hi (g.trans hg)
 |.exc x Z,h,g=>λH' hr hg=>h H' hr (g.trans hg)
 |.bad,h,_=>h
theorem Wp.bndI {K:Fr0} {σ:St} {H:Hp} {Q:It->Hp->Prop} {f:M D} {k:D->M (List D)} {Z:Env} {Q':VK} (h:WpI K c σ H Q (Sk.bnd f k Z)) (hQ:∀d Z' v H',Rep K c Z' σ H'->Is K (Cn c σ) H' d v->Gr c.O σ H H'->WpI K c σ H' Q (k d Z')->Q' v H'):Wp K c σ H Q' (f Z):=by
 unfold Sk.bnd at h
 cases e:f Z with
 |ok p=>rw[e]at h;exact λv H' hr hi hg=>hQ p.1 p.2 v H' hr hi hg (h.gr hg)
 |exc x Z'=>rw[e]at h;exact h
 |bad=>rw[e]at h;exact h
theorem WpL.bndI {K:Fr0} {σ:St} {H:Hp} {Q:It->Hp->Prop} {f:M (List D)} {k:List D->M (List D)} {Z:Env} {Q':List V->Hp->Prop} (h:WpI K c σ H Q (Sk.bnd f k Z)) (hQ:∀d Z' v H',Rep K c Z' σ H'->IsL K (Cn c σ) H' d v->Gr c.O σ H H'->WpI K c σ H' Q (k d Z')->Q' v H'):WpL K c σ H Q' (f Z):=by
 unfold Sk.bnd at h
 cases e:f Z with
 |ok p=>rw[e]at h;exact λv H' hr hi hg=>hQ p.1 p.2 v H' hr hi hg (h.gr hg)
 |exc x Z'=>rw[e]at h;exact h
 |bad=>rw[e]at h;exact h
theorem Is.tr{K:Fr0}{A:Addr->Prop}{H:Hp}{d:D}{v:V}(h:Is K A H d v):Is K (λa=>A a/\(H a).isSome=true) H d v:=Is.ext Ext.refl (λa h1 h2=>⟨h1,h2⟩) h
theorem yd {f:M D} (h:DE X c e f):DI X c tg e (yt f):=by
 obtain⟨t,p,w⟩:=h
 refine⟨_,qnK p,λZ σ H Q r h=>w Z σ H _ r (Wp.bndI h λd Z1 v H1 r1 i1 g1 h1=>?_)⟩
 obtain⟨ds,e,h2⟩:=qcI h1
 have i2:Is X.K (CnT c σ H1) H1 d v:=i1.tr
 cases d<;>simp only[qnL]at e<;>try (cases e;done)
 ·cases e
  obtain⟨a,xs,rfl,ta,il⟩:=i2
  exact .inr ⟨a,rfl,⟨xs,ta.sq⟩,h2 _ H1 r1 (qnM ta il) .refl⟩
 ·cases e
  obtain⟨a,xs,rfl,hA,ta,il⟩:=i2
  exact .inl ⟨a,rfl,⟨xs,.inl (.inl ta)⟩,h2 _ H1 r1 (qhE (λH' ex => .inl (.inl (ex.at_ _ _ hA ta))) il) .refl⟩
 ·cases e
  obtain⟨a,rfl,ta⟩:=i2
  exact .inl ⟨a,rfl,⟨_,ta.sq⟩,h2 _ H1 r1 (qhE (λH' ex=>(ta.elim (λ⟨o,h⟩ => .inl ⟨o,ex.frz _ _ _ h⟩) .inr:qnB X.K H' a _).sq) (qcH _)) .refl⟩
def qcJ(lo:Int)(n:Nat):List D:=(yal n).map λi => .int (lo+(i:Nat))
theorem qnN {K:Fr0} {A:Addr->Prop} {H:Hp} (lo:Int) (n:Nat):qky K A H (qcJ lo n) (Itr lo n) where
 go:=λH' i d ex hd=>by
  have:i<(qcJ lo n).length:=(gI_.mp hd).1
  show i<n
  simpa [qcJ] using this
 yl := λH' i d x H'' ex hd y=>by
  obtain⟨e,y⟩:=y
  subst e
  subst y
  refine⟨zZ.refl _,?_⟩
  unfold qcJ at hd
  rw[gM_]at hd
  cases e2:(yal n)[i]? with
  |none=>rw[e2]at hd;cases hd
  | some j=>
   rw[e2]at hd
   have hj:j=i:=by
    have:=(gI_.mp e2).2
    simpa using this.symm
   subst hj
   cases hd
   rfl
 stop:=λH' ex=>by show n<=(qcJ lo n).length;simp[qcJ]
def qkz:List D->Option (List D)
 | [.int j]=>if decide (-(2 ^ 62)<=j)&&decide (j<2 ^ 62)then some (qcJ 0 j.toNat)else none
 |_=>none
def jC(f:M (List D)):M (List D):=bnd f λds=>lift (qkz ds)
theorem ui {f:M (List D)} {p:Pos} (hg:Gl X "range") (hm:X.mg "range"=none) (ha:DA X c [a] f) (hs:yac [a] X.env=[(false,eval a X.env)]:=by rfl):DI X c tg (.Call (.Name "range" p) [a] [] pos) (jC f):=by
 obtain⟨t,p,w⟩:=ha
 refine⟨_,qha hg hm p hs,λZ σ H Q r h=>w Z σ H _ r (WpL.bndI h λds Z1 vs H1 r1 i1 g1 h1=>?_)⟩
 obtain⟨es,e,h2⟩:=qcI h1
 unfold qkz at e
 split at e
 ·rename_i j
  obtain⟨v,rfl,e2⟩:=IsL.inv1 i1
  cases e2
  by_cases hb:(decide (-(2 ^ 62)<=j)&&decide (j<2 ^ 62))=true
  ·rw[if_pos hb]at e
   cases e
   rw[yag]at hb
   exact⟨j,rfl,of_decide_eq_true hb.1,of_decide_eq_true hb.2,h2 _ H1 r1 (qnN 0 _) .refl⟩
  ·rw[if_neg hb]at e
   cases e
 ·cases e
def uS (g:D->Env->Option Env) (b:MS):List D->MS
 | [],Z => .ok (.nx Z)
 | d::ds,Z=>match g d Z with
  |none => .bad
  |some Z1=>match b Z1 with
   |.ok (.nx Z2)=>uS g b ds Z2
   |.ok (.ct Z2)=>uS g b ds Z2
   |.ok (.bk Z2) => .ok (.nx Z2)
   |.ok (.rt r Z2) => .ok (.rt r Z2)
   |.exc x Z2 => .exc x Z2
   |.bad => .bad
def wy(f:M (List D))(g:D->Env->Option Env)(b:MS):MS:=sbnd f λds=>uS g b ds
theorem WpI.sbnd {K:Fr0} {σ:St} {H:Hp} {D':qg0} {f:M (List D)} {k:List D->MS} {Z:Env} {Q':It->Hp->Prop} (h:WpS K c σ H D' (Sk.sbnd f k Z))
  (hQ:∀ds Z' J H',Rep K c Z' σ H'->qky K (CnT c σ H') H' ds J->Gr c.O σ H H'->WpS K c σ H' D' (k ds Z')->Q' J H'):WpI K c σ H Q' (f Z):=by
 unfold Sk.sbnd at h
 cases e:f Z with
 |ok p=>rw[e]at h;exact λv H' hr hi hg=>hQ p.1 p.2 v H' hr hi hg (h.gr hg.s)
 |exc x Z'=>rw[e]at h;exact λH' hr hg=>h σ H' hr hg.s
 |bad=>rw[e]at h;exact h
theorem GrS.extT{σ σ':St}{H H':Hp}(g:GrS c.O σ H σ' H'):Ext (CnT c σ H) H H':=⟨g.ext.tup,g.ext.frz,λb o hb h=>g.ext.at_ b o hb.1.2 h⟩
theorem GrS.cnT{σ σ':St}{H H':Hp}(g:GrS c.O σ H σ' H'){a:Addr}(h:CnT c σ H a):Cn c σ' a:=⟨h.1.1,g.cl a h.1.2 h.2⟩
theorem qan{α:Type}{l:List α}{i:Nat}(h:i<l.length):l.drop i=l[i]::l.drop (i+1):=List.drop_eq_getElem_cons h
theorem uA {it:Expr} {body:List Stmt} {f:M (List D)} {g:D->Env->Option Env} {b:MS} (hp:ye3 (model X.prog X.w) X.A X.env X.xe) (hc:X.calm=true) (hi:DI X c tg it f) (hg:DG X c tg g) (hb:DSs X c body b)
  (hs:∀x,ybS it X.env x=pure x:=by intro _;rfl):DS X c (.For tg it body [] pos) (wy f g b):=by
 obtain⟨wi,pi,wI⟩:=hi
 obtain⟨tg',pg,wg⟩:=hg
 obtain⟨tb,pb,wb⟩:=hb
 refine⟨_,qnf hp hc pi pg pb hs,λZ σ H D' r h=>wI Z σ H _ r (WpI.sbnd h λds Z1 J H1 r1 iok g1 h1=>?_)⟩
 refine⟨λi m σ' H'=>m=ds.length-i/\i<=ds.length/\∃Z',Rep X.K c Z' σ' H'/\GrS c.O σ H1 σ' H'/\WpS X.K c σ' H' D' (uS g b (ds.drop i) Z'),⟨ds.length,by simp,yaE _,Z1,r1,.refl,by simpa using h1⟩,?_⟩
 rintro i m σ' H' ⟨rfl,hi,Z',r',gs,w⟩
 by_cases hlt:i<ds.length
 ·refine .inr ⟨iok.go H' i ds[i] gs.extT (by simp[hlt]),λσ2 H2=>∃Z2,Rep X.K c Z2 σ2 H2/\GrS c.O σ H1 σ2 H2/\WpS X.K c σ2 H2 D' (uS g b (ds.drop (i+1)) Z2),λσ2 H2 n=>⟨ds.length-(i+1),by omega,rfl,hlt,n⟩,λx H'' y=>?_⟩
  obtain⟨sm,ix⟩:=iok.yl H' i ds[i] x H'' gs.extT (by simp[hlt]) y
  rw[qan hlt]at w
  unfold uS at w
  have gs2:GrS c.O σ H1 σ' H'':=gs.trans (Gr.of_same sm).s
  have ix2:Is X.K (Cn c σ') H'' ds[i] x:=Is.ext Ext.refl (λa ha _=>gs2.cnT ha) ix
  cases e1:g ds[i] Z' with
  |none=>simp only[e1]at w;exact w.elim
  | some Z2=>
   simp only[e1]at w
   refine wg Z' σ' H'' ds[i] x Z2 _ (r'.same sm) ix2 e1 λσ2 r2 g2 _=>wb Z2 σ2 H'' _ r2 ?_
   have w2:=w.gr ((Gr.of_same sm).s.trans g2)
   have gs3:GrS c.O σ H1 σ2 H'':=gs2.trans g2
   cases e2:b Z2 with
   |ok fl=>
    cases fl with
    |nx Z3=>simp only[e2]at w2;exact λσ3 H3 r3 g3=>⟨Z3,r3,gs3.trans g3,w2.gr g3⟩
    |ct Z3=>simp only[e2]at w2;exact λσ3 H3 r3 g3=>⟨Z3,r3,gs3.trans g3,w2.gr g3⟩
    |bk Z3=>simp only[e2]at w2;exact w2
    |rt d Z3=>simp only[e2]at w2;exact w2
   |exc x Z3=>simp only[e2]at w2;exact w2
   |bad=>simp only[e2]at w2;exact w2
 ·have hie:i=ds.length:=by omega
  subst hie
  rw[ycQ (yad _)]at w
  exact .inl ⟨iok.stop H' gs.extT,w σ' H' r' .refl⟩
end
def cin (B0:Addr->Prop) (H1:Hp) (O':List Nat) (Io':Addr->Prop) (acc:Addr) (S':Nat->Option (Option V)):Fc where
 O:=O'
 P:=O'
 B:=λa=>B0 a/\a≠acc
 H0:=upd H1 acc (.lst [])
 Io:=λa=>Io' a\/a=acc
 E:=λ_ _=>False
 S:=S'
def zC (g:D->Env->Option Env) (t:M Bool) (e:M D):List D->List D->Env->R (List D×Env)
 | [],acc,Z => .ok (acc,Z)
 | d :: ds,acc,Z=>match g d Z with
  |none => .bad
  | some Z1=>match t Z1 with
   |.ok (true,Z2)=>match e Z2 with
    |.ok (y,Z3)=>if zp (acc.length+1)then zC g t e ds (acc++[y]) Z3 else .bad
    |_ => .bad
   |.ok (false,Z2)=>zC g t e ds acc Z2
   |_ => .bad
def yR(nt:Nat)(fr:List Nat)(Z:Env):Env:=yaw nt none++fr.map λj=>(Z[j]?).join
def qkA (fo:Option (Nat×Nat)) (Ze Z:Env):Env:=match fo with
 |none=>Z
 |some (i,j)=>Z.set j (Ze[i]?).join
def zE (nt:Nat) (fr:List Nat) (fo:Option (Nat×Nat)) (f:M (List D)) (g:D->Env->Option Env) (t:M Bool) (e:M D):M D:=bnd f λds Z=>match zC g t e ds [] (yR nt fr Z) with
 |.ok (ys,Ze) => .ok (.lst ys,qkA fo Ze Z)
 |_ => .bad
def DF(X:Cx)(c:Fc)(ifs:List Expr)(f:M Bool):Prop:=∃t,PF X ifs t/\∀Z σ H Q,Rep X.K c Z σ H->WpB X.K c σ H Q (f Z)->t σ H Q
def foO (fo:Option (Nat×Nat)):List Nat:=match fo with
 |none=>[]
 |some (i,_)=>[i]
section
variable{X:Cx}{c:Fc}{tg a b e:Expr}{pos:Pos}
theorem vf:DF X c [] (ret true):=⟨_,qnJ,λZ σ H Q r h=>h H r .refl⟩
theorem WpI.bnd {K:Fr0} {σ:St} {H:Hp} {Q:VK} {f:M (List D)} {k:List D->M D} {Z:Env} {Q':It->Hp->Prop} (h:Wp K c σ H Q (Sk.bnd f k Z))
  (hQ:∀ds Z' J H',Rep K c Z' σ H'->qky K (CnT c σ H') H' ds J->Gr c.O σ H H'->Wp K c σ H' Q (k ds Z')->Q' J H'):WpI K c σ H Q' (f Z):=by
 unfold Sk.bnd at h
 cases e:f Z with
 |ok p=>rw[e]at h;exact λv H' hr hi hg=>hQ p.1 p.2 v H' hr hi hg (h.gr hg)
 |exc x Z'=>rw[e]at h;exact h
 |bad=>rw[e]at h;exact h
theorem Rep.grow {K:Fr0} {B0:Addr->Prop} {H1:Hp} {O':List Nat} {Io':Addr->Prop} {acc:Addr} {S':Nat->Option (Option V)} {Z:Env} {σ:St} {H:Hp} {xs ys:List V} (r:Rep K (cin B0 H1 O' Io' acc S') Z σ H) (h:H acc=some (.lst xs)) (ho:∀j∈O',σ[j]? ≠ some (some (.ref acc))) :
  Rep K (cin B0 H1 O' Io' acc S') Z σ (upd H acc (.lst ys)):=by
 have ext:Ext (λa=>a≠acc) H (upd H acc (.lst ys)):=⟨λb zs hb=>by rw[qw (wA hb h (by intro z;cases z))];exact hb,λb o u hb=>by rw[qw (wA hb h (by intro z;cases z))];exact hb,λb o hb hq=>by rw[qw hb];exact hq⟩
 have cnext:Ext (Cn (cin B0 H1 O' Io' acc S') σ) H (upd H acc (.lst ys)):=⟨ext.tup,ext.frz,λb o hb hq=>ext.at_ b o hb.1.2 hq⟩
 refine⟨r.len,λi d hd=>?_,λj hj v hv=>?_,r.inj,r.b0,λb o hb hio=>?_,λb hb=>?_,r.pO,r.ps⟩
 ·obtain ⟨v,h1,h2⟩:=r.val i d hd
  refine⟨v,h1,?_⟩
  rcases h2 with⟨hi,ds,a,zs,h3,h5,h6,h7⟩|⟨hi,h3⟩
  ·subst h5
   have ne:a≠acc:=λe=>ho i hi (by rw[h1,e])
   exact .inl ⟨hi,ds,a,zs,h3,rfl,by rw[qw ne];exact h6,IsL.ext cnext (λ_ h _=>h) h7⟩
  ·exact .inr ⟨hi,Is.ext cnext (λ_ h _=>h) h3⟩
 ·obtain⟨a,zs,h1,h2,h3⟩:=r.own j hj v hv
  subst h1
  have ne:a≠acc:=λe=>ho j hj (by rw[hv,e])
  exact⟨a,zs,rfl,by rw[qw ne];exact h2,h3⟩
 ·have ne:b≠acc:=λe=>hio (.inr e)
  rw[qw ne]
  exact r.kp b o hb hio
 ·by_cases e:b=acc
  ·subst e;rw[qv]at hb;cases hb
  ·rw[qw e]at hb;exact r.dm b hb
theorem qbh {α:Type} {o:Option (Option α)} {a:α} (h:o.join=some a):o=some (some a):=by
 cases o with
 |none=>cases h
 |some x=>have:x=some a:=h;rw[this]
def qlK (c:Fc) (nt:Nat) (fr:List Nat) (fo:Option (Nat×Nat)):Prop:=match fo with
 |none=>∀j∈fr,j ∉ c.O
 |some (i,j)=>j∈c.O/\nt<=i/\fr[i-nt]? = some j/\∀k j',fr[k]? = some j'->nt+k≠i->j' ∉ c.O
def qdq (σ:St) (fo:Option (Nat×Nat)) (a:Addr):Prop:=match fo with
 |none=>False
 |some (_,j)=>σ[j]? = some (some (.ref a))
theorem qao {nt:Nat} {fr:List Nat} {σ:St} {k j:Nat} (h:fr[k]? = some j):(ze nt fr σ)[nt+k]? = some (σ[j]?).join:=by
 unfold ze
 rw[List.getElem?_append_right (by simp),ybk,gM_,show nt+k-nt=k by omega,h]
 rfl
theorem qgv {nt:Nat} {fr:List Nat} {Z:Env} {i:Nat} {d:D} (hd:(yR nt fr Z)[i]? = some (some d)):∃k j,i=nt+k/\fr[k]? = some j/\Z[j]? = some (some d):=by
 have hi:nt<=i:=by
  apply ycY
  intro hlt
  unfold yR at hd
  rw[List.getElem?_append_left (by simpa using hlt),List.getElem?_replicate]at hd
  split at hd<;>cases hd
 unfold yR at hd
 rw[List.getElem?_append_right (by simpa using hi),ybk,gM_]at hd
 cases ej:fr[i-nt]? with
 |none=>rw[ej]at hd;cases hd
 |some j=>
  rw[ej]at hd
  exact⟨i-nt,j,by omega,ej,qbh (by simpa using hd)⟩
theorem yY {nt:Nat} {fr:List Nat} {σ:St} {i:Nat} {d:V} (hd:(ze nt fr σ)[i]? = some (some d)):∃k j,i=nt+k/\fr[k]? = some j/\σ[j]? = some (some d):=by
 have hi:nt<=i:=by
  apply ycY
  intro hlt
  unfold ze at hd
  rw[List.getElem?_append_left (by simpa using hlt),List.getElem?_replicate]at hd
  split at hd<;>cases hd
 unfold ze at hd
 rw[List.getElem?_append_right (by simpa using hi),ybk,gM_]at hd
 cases ej:fr[i-nt]? with
 |none=>rw[ej]at hd;cases hd
 |some j=>
  rw[ej]at hd
  exact⟨i-nt,j,by omega,ej,qbh (by simpa using hd)⟩
theorem Rep.entry {K:Fr0} {nt:Nat} {fr:List Nat} {fo:Option (Nat×Nat)} {acc:Addr} {Z:Env} {σ:St} {H:Hp} (r:Rep K c Z σ H) (hn:H acc=none) (hfo:qlK c nt fr fo) :
  Rep K (cin (Cn c σ) H (foO fo) (qdq σ fo) acc λj=>(ze nt fr σ)[j]?) (yR nt fr Z) (ze nt fr σ) (upd H acc (.lst [])):=by
 have sm:zZ H (upd H acc (.lst [])):=qu hn _
 have ownI:∀i∈foO fo,∀v,(ze nt fr σ)[i]? = some (some v)->∃j,fo=some (i,j)/\j∈c.O/\σ[j]? = some (some v):=λi hi v hv=>by
  cases fo with
  |none=>cases hi
  |some p=>
   obtain⟨i',j'⟩:=p
   have e:i=i':=by simpa [foO] using hi
   subst e
   obtain⟨h1,h2,h3,h4⟩:=hfo
   obtain⟨k,j,e1,e2,e3⟩:=yY hv
   have hk:k=i-nt:=by omega
   subst hk
   rw[h3]at e2
   cases e2
   exact⟨j',rfl,h1,e3⟩
 have clI:∀a,Cl c.O σ a->Cl (foO fo) (ze nt fr σ) a:=λa ha i hi e=>by
  obtain⟨j,_,hj,e2⟩:=ownI i hi _ e
  exact ha j hj e2
 refine⟨by simp[yR,ze],λi d hd=>?_,λi hi v hv=>?_,λi j a hi hj h1 h2=>?_,⟨λa ha=>?_,λq P pos eP=>?_⟩,λb o hb hio=>?_,λb hb=>?_,λ_ h=>h,λ_ _=>rfl⟩
 ·obtain ⟨k,j,e1,e2,e3⟩:=qgv hd
  subst e1
  by_cases hO:nt+k∈foO fo
  ·obtain ⟨v,hv⟩:∃v,σ[j]? = some (some v):=by
    obtain⟨v,h1,_⟩:=r.val j d e3
    exact⟨v,h1⟩
   have hc:(ze nt fr σ)[nt+k]? = some (some v):=by rw[qao e2,hv];rfl
   obtain⟨j',f1,f2,f3⟩:=ownI _ hO v hc
   subst f1
   obtain⟨g1,g2,g3,g4⟩:=hfo
   rw[show nt+k-nt=k by omega,e2]at g3
   cases g3
   obtain⟨ds,a,xs,h1,h3,h4,h5⟩:=r.getO g1 e3
   rw[hv]at h3
   cases h3
   exact⟨.ref a,hc,.inl ⟨hO,ds,a,xs,h1,rfl,sm _ _ h4,IsL.ext (Ext.of_same sm) (λb hb hs=>⟨⟨hb,λe=>by subst e;rw[hn]at hs;cases hs⟩,clI b hb.2⟩) h5⟩⟩
  ·have hj:j ∉ c.O:=by
    cases fo with
    |none=>exact hfo j (ycl e2)
    |some p=>
     obtain⟨i',j'⟩:=p
     exact hfo.2.2.2 k j e2 (λe=>hO (by simp[foO,e]))
   obtain⟨v,h1,h2⟩:=r.get hj e3
   refine⟨v,by rw[qao e2,h1];rfl,.inr ⟨hO,?_⟩⟩
   refine Is.ext (Ext.of_same sm) (λa ha hs=>⟨⟨ha,λe=>?_⟩,clI a ha.2⟩) h2
   subst e;rw[hn]at hs;cases hs
 ·obtain⟨j,f1,f2,f3⟩:=ownI i hi v hv
  obtain⟨a,xs,h1,h2,h3⟩:=r.own j f2 v f3
  subst h1 f1
  exact⟨a,xs,rfl,sm _ _ h2,.inr ⟨hi,.inl f3⟩⟩
 ·cases fo with
  |none=>cases hi
  |some p=>
   obtain⟨i',j'⟩:=p
   have e:i=i':=by simpa [foO,cin] using hi
   have e2:j=i':=by simpa [foO,cin] using hj
   rw[e,e2]
 ·have ha':upd H acc (.lst []) a=none:=ha
  by_cases e:a=acc
  ·subst e;rw[qv]at ha';cases ha'
  ·rw[qw e]at ha';exact⟨r.new ha',e⟩
 ·have hP:=(r.tb q P pos eP).1
  refine⟨sm _ _ hP,λz=>?_⟩
  rcases z with z|z
  ·cases fo with
   |none=>exact z
   |some p=>
    obtain⟨b,xs,e1,e2,_⟩:=r.own _ hfo.1 _ z
    cases e1
    rw[hP]at e2;cases e2
  ·rw[z,hn]at hP;cases hP
 ·exact hb
 ·exact hb
theorem Rep.leave {K:Fr0} {nt:Nat} {fr:List Nat} {fo:Option (Nat×Nat)} {acc:Addr} {Z Ze:Env} {σ σe:St} {H H':Hp} (r:Rep K c Z σ H) (hn:H acc=none) (hfo:qlK c nt fr fo) (hf:∀i j,fo=some (i,j)->σe[i]? = (ze nt fr σ)[i]?)
  (q:Rep K (cin (Cn c σ) H (foO fo) (qdq σ fo) acc λj=>(ze nt fr σ)[j]?) Ze σe H'):Rep K c (qkA fo Ze Z) σ H'/\Gr c.O σ H H':=by
 have kp:∀b o,H b=some o->¬qdq σ fo b->H' b=some o:=λb o hb hio=>q.kp b o (by show upd H acc (.lst []) b=some o;rw[qw (za hb hn)];exact hb) λz=>z.elim hio λe=>absurd e (za hb hn)
 have clean:∀b,Cl c.O σ b->¬qdq σ fo b:=λb hb hio=>by
  cases fo with
  |none=>exact hio
  |some p=>exact hb p.2 hfo.1 hio
 have dom:∀b,H' b=none->H b=none:=λb hb=>by
  have:=q.dm b hb
  by_cases e:b=acc
  ·subst e;exact hn
  ·have this:upd H acc (.lst []) b=none:=this
   rw[qw e]at this;exact this
 have notT:∀b xs,H b=some (.tup xs)->¬qdq σ fo b:=λb xs hb hio=>by
  cases fo with
  |none=>exact hio
  |some p=>
   obtain⟨a,ys,e1,e2,_⟩:=r.own p.2 hfo.1 _ hio
   cases e1;rw[hb]at e2;cases e2
 have notF:∀b o u,H b=some (.frz o u)->¬qdq σ fo b:=λb o u hb hio=>by
  cases fo with
  |none=>exact hio
  |some p=>
   obtain⟨a,ys,e1,e2,_⟩:=r.own p.2 hfo.1 _ hio
   cases e1;rw[hb]at e2;cases e2
 have gr:Gr c.O σ H H':=⟨⟨λb xs hb=>kp b _ hb (notT b xs hb),λb o u hb=>kp b _ hb (notF b o u hb),λb o hc hb=>kp b o hb (clean b hc)⟩,dom⟩
 refine⟨⟨?_,λk d hd=>?_,λj hj v hv=>?_,r.inj,r.b0,λb o hb hio=>?_,λb hb=>r.dm b (dom b hb),r.pO,r.ps⟩,gr⟩
 ·cases fo with
  |none=>exact r.len
  |some p=>show(Z.set _ _).length=_;rw[lS_];exact r.len
 ·-- an old slot,or the one that came qkA
  have oldSlot:Z[k]? = some (some d)->(∀i,fo≠some (i,k))->∃v,σ[k]? = some (some v)/\((k∈c.O/\∃ds a xs,d=.lst ds/\v=.ref a/\H' a=some (.lst xs)/\IsL K (Cn c σ) H' ds xs)\/(k ∉ c.O/\Is K (Cn c σ) H' d v)):=λhk hne=>by
   obtain⟨v,h1,h2⟩:=r.val k d hk
   refine⟨v,h1,?_⟩
   rcases h2 with⟨hi,ds,a,xs,h3,h5,h6,h7⟩|⟨hi,h3⟩
   ·subst h5
    refine .inl ⟨hi,ds,a,xs,h3,rfl,kp a _ h6 (λhio=>?_),gr.isL h7⟩
    cases fo with
    |none=>exact hio
    |some p=>
     obtain⟨i',j'⟩:=p
     have e:=r.inj k j' a hi hfo.1 h1 hio
     exact hne i' (by rw[e])
   ·exact .inr ⟨hi,gr.is h3⟩
  cases fo with
  |none=>exact oldSlot hd (λi e=>by cases e)
  | some p=>
   obtain⟨i',j'⟩:=p
   have hd':(Z.set j' (Ze[i']?).join)[k]? = some (some d):=hd
   by_cases e:k=j'
   ·subst e
    have hl:k<Z.length:=by
     have:=(gI_.mp hd').1
     rwa [lS_]at this
    rw[List.getElem?_set_self hl]at hd'
    have he:Ze[i']? = some (some d):=qbh (yaO hd')
    obtain⟨ds,a,xs,h1,h3,h4,h5⟩:=q.getO (show i'∈foO (some (i',k)) by simp[foO]) he
    have h3':=hf i' k rfl
    rw[h3]at h3'
    obtain⟨k2,j2,e1,e2,e3⟩:=yY h3'.symm
    have hk2:k2=i'-nt:=by omega
    subst hk2
    rw[hfo.2.2.1]at e2
    cases e2
    exact⟨.ref a,e3,.inl ⟨hfo.1,ds,a,xs,h1,rfl,h4,IsL.ext Ext.refl (λb hb _=>hb.1.1) h5⟩⟩
   ·rw[zU e]at hd'
    exact oldSlot hd' (λi e2=>e (by cases e2;rfl))
 ·obtain ⟨a,xs,h1,h2,h3⟩:=r.own j hj v hv
  subst h1
  by_cases hio:qdq σ fo a
  ·cases fo with
   |none=>exact hio.elim
   | some p=>
    obtain⟨i',j'⟩:=p
    have hc:(ze nt fr σ)[i']? = some (some (.ref a)):=by
     have:=qao (σ:=σ) (nt:=nt) hfo.2.2.1
     rw[show nt+(i'-nt)=i' by have:=hfo.2.1;omega]at this
     rw[this]
     have hio':σ[j']? = some (some (.ref a)):=hio
     rw[hio'];rfl
    have h3':=hf i' j' rfl
    rw[hc]at h3'
    obtain⟨a',ys,e1,e2,_⟩:=q.own i' (by simp[foO,cin]) _ h3'
    cases e1
    exact⟨a,ys,rfl,e2,h3⟩
  ·exact⟨a,xs,rfl,kp a _ h2 hio,h3⟩
 ·by_cases hio2:qdq σ fo b
  ·cases fo with
   |none=>exact hio2.elim
   |some p=>
    obtain⟨a,ys,e1,e2,e3⟩:=r.own p.2 hfo.1 _ hio2
    cases e1
    rcases e3 with e3|e3
    ·rw[hb]at e3;cases e3
    ·exact absurd e3.2 hio
  ·exact kp b o (r.kp b o hb hio) hio2
theorem uj {it elt:Expr} {ifs:List Expr} {scope:Scope} {N':List Str} {nt:Nat} {fr:List Nat} {fo:Option (Nat×Nat)} {f:M (List D)} {g:D->Env->Option Env} {t:M Bool} {k:M D} (hc:X.calm=true) (hi:DI X c tg it f) (S:yB X scope N' nt fr)
  (hfo:qlK c nt fr fo)
  (hb:∀fp cl C s₀ H₀ pn B0 H1 Io' acc S',DG (z8 X scope N' fp cl C s₀ H₀ pn) (cin B0 H1 (foO fo) Io' acc S') tg g/\DF (z8 X scope N' fp cl C s₀ H₀ pn) (cin B0 H1 (foO fo) Io' acc S') ifs t/\DE (z8 X scope N' fp cl C s₀ H₀ pn) (cin B0 H1 (foO fo) Io' acc S') elt k)
  (hs:∀x,ybS it X.env x=pure x:=by intro _;rfl):DE X c (.ListComp elt [⟨tg,it,ifs,0⟩] scope pos) (zE nt fr fo f g t k):=by
 obtain⟨wi,pi,wI⟩:=hi
 refine⟨_,qlJ hc pi S hs,λZ σ H Q r h=>wI Z σ H _ r (WpI.bnd h λds Z1 J H1 r1 iok g1 h1=>?_)⟩
 intro acc fp cl C s₀ H₀ pn hn
 obtain⟨⟨tg',pg,wg⟩,⟨tt,pt,wt⟩,⟨te,pe,we⟩⟩:=hb fp cl C s₀ H₀ pn (Cn c σ) H1 (qdq σ fo) acc λj=>(ze nt fr σ)[j]?
 refine⟨tg',tt,te,pg,pt,pe,?_⟩
 cases ew:zC g t k ds [] (yR nt fr Z1) with
 |exc x Z'=>rw[ew]at h1;exact h1.elim
 |bad=>rw[ew]at h1;exact h1.elim
 | ok p =>
  rw[ew]at h1
  obtain⟨ys,Ze⟩:=p
  have h1:∀v H',Rep X.K c (qkA fo Ze Z1) σ H'->Is X.K (Cn c σ) H' (.lst ys) v->Gr c.O σ H1 H'->Q v H':=h1
  have accO:∀j∈foO fo,(ze nt fr σ)[j]? ≠ some (some (.ref acc)):=λj hj e=>by
   have r0:=r1.entry (acc:=acc) hn hfo
   cases fo with
   |none=>cases hj
   |some p=>
    obtain⟨i',j'⟩:=p
    have e2:j=i':=by simpa [foO] using hj
    subst e2
    obtain⟨k2,j2,e1,e2,e3⟩:=yY e
    have hk2:k2=j-nt:=by omega
    subst hk2
    rw[hfo.2.2.1]at e2
    cases e2
    obtain⟨a,us,e4,e5,_⟩:=r1.own j' hfo.1 _ e3
    cases e4;rw[hn]at e5;cases e5
  refine ⟨λi m σ' H'=>m=ds.length-i/\i<=ds.length/\∃Z' zs xs,Rep X.K (cin (Cn c σ) H1 (foO fo) (qdq σ fo) acc λj=>(ze nt fr σ)[j]?) Z' σ' H'/\(∀j∈foO fo,σ'[j]? = (ze nt fr σ)[j]?)/\H' acc=some (.lst xs)/\IsL X.K (Cn (cin (Cn c σ) H1 (foO fo) (qdq σ fo) acc λj=>(ze nt fr σ)[j]?) σ') H' zs xs/\zC g t k (ds.drop i) zs Z'=.ok (ys,Ze),
   ⟨ds.length,by simp,yaE _,yR nt fr Z1,[],[],r1.entry hn hfo,λ_ _=>rfl,qv,rfl,by simpa using ew⟩,?_⟩
  rintro i m σ' H' ⟨rfl,hi,Z',zs,xs,r',so,ha,iz,w⟩
  obtain⟨_,gr⟩:=r1.leave hn hfo (λi j e=>so i (by rw[e];simp[foO])) r'
  have ex:Ext (CnT c σ H1) H1 H':=⟨gr.ext.tup,gr.ext.frz,λb o hb hq=>gr.ext.at_ b o hb.1.2 hq⟩
  have accC:∀τ:St,(∀j∈foO fo,τ[j]? = (ze nt fr σ)[j]?)->Cl (foO fo) τ acc:=λτ hτ j hj e=>accO j hj (by rw[<-hτ j hj];exact e)
  by_cases hlt:i<ds.length
  ·refine .inr ⟨iok.go H' i ds[i] ex (by simp[hlt]),λx H'' y=>?_⟩
   obtain⟨sm,ix⟩:=iok.yl H' i ds[i] x H'' ex (by simp[hlt]) y
   rw[qan hlt]at w
   unfold zC at w
   have ix2:Is X.K (Cn (cin (Cn c σ) H1 (foO fo) (qdq σ fo) acc λj=>(ze nt fr σ)[j]?) σ') H'' ds[i] x:=Is.ext Ext.refl (λa ha _=>⟨⟨ha.1,λe=>by
    have:=ha.2
    rw [e,hn]at this;cases this⟩,λj hj e=>by
     rw[so j hj]at e
     cases fo with
     |none=>cases hj
     |some p=>
      obtain⟨i',j'⟩:=p
      have e2:j=i':=by simpa [foO,cin] using hj
      subst e2
      obtain⟨k2,j2,e1,e2,e3⟩:=yY e
      have hk2:k2=j-nt:=by omega
      subst hk2
      rw[hfo.2.2.1]at e2
      cases e2
      exact ha.1.2 j' hfo.1 e3⟩) ix
   cases e1:g ds[i] Z' with
   |none=>simp only[e1]at w;cases w
   | some Z2=>
    simp only[e1]at w
    refine wg Z' σ' H'' ds[i] x Z2 _ (r'.same sm) ix2 e1 λσ2 r2 g2 o2=>?_
    have so2:∀j∈foO fo,σ2[j]? = (ze nt fr σ)[j]? := λj hj=>(o2 j hj).trans (so j hj)
    have ha2:H'' acc=some (.lst xs):=sm _ _ ha
    have iz2:=g2.isL (IsL.ext (Ext.of_same sm) (λ_ h _=>h) iz)
    cases e2:t Z2 with
    |exc x Z3=>simp only[e2]at w;cases w
    |bad=>simp only[e2]at w;cases w
    | ok p2=>
     obtain⟨bb,Z3⟩:=p2
     refine wt Z2 σ2 H'' _ r2 ?_
     rw[e2]
     intro H3 r3 g3
     have ha3:H3 acc=some (.lst xs):=g3.ext.at_ _ _ (accC σ2 so2) ha2
     have iz3:=g3.isL iz2
     cases bb with
     |false=>
      rw[if_neg yam]
      simp only[e2]at w
      exact⟨ds.length-(i+1),by omega,rfl,hlt,Z3,zs,xs,r3,so2,ha3,iz3,w⟩
     | true=>
      rw[if_pos rfl]
      simp only[e2]at w
      cases e3:k Z3 with
      |exc x Z4=>simp only[e3]at w;cases w
      |bad=>simp only[e3]at w;cases w
      | ok p3=>
       obtain⟨d4,Z4⟩:=p3
       simp only[e3]at w
       refine we Z3 σ2 H3 _ r3 ?_
       rw[e3]
       intro y4 H4 r4 i4 g4
       have ha4:H4 acc=some (.lst xs):=g4.ext.at_ _ _ (accC σ2 so2) ha3
       have hsz:zp (zs.length+1)=true:=by
        cases e5:zp (zs.length+1) with
        |true=>rfl
        |false=>rw[e5]at w;simp at w
       rw[if_pos hsz]at w
       have hsz':zs.length+1<=yat:=of_decide_eq_true hsz
       have r5:=r4.grow (ys:=xs++[y4]) ha4 (λj hj e=>accC σ2 so2 j hj e)
       have ext5:Ext (Cn (cin (Cn c σ) H1 (foO fo) (qdq σ fo) acc λj=>(ze nt fr σ)[j]?) σ2) H4 (upd H4 acc (.lst (xs++[y4]))):=⟨λb us hb=>by rw[qw (wA hb ha4 (by intro z;cases z))];exact hb,λb o u hb=>by rw[qw (wA hb ha4 (by intro z;cases z))];exact hb,λb o hb hq=>by rw[qw hb.1.2];exact hq⟩
       refine⟨xs,ha4,by rw[iz3.length];omega,ds.length-(i+1),by omega,rfl,hlt,Z4,zs++[d4],xs++[y4],r5,so2,qv,?_,w⟩
       exact IsL.append (IsL.ext ext5 (λ_ h _=>h) (g4.isL iz3)) (IsL.one (Is.ext ext5 (λ_ h _=>h) i4))
  ·have hie:i=ds.length:=by omega
   subst hie
   rw[ycQ (yad _)]at w
   unfold zC at w
   cases w
   obtain⟨r6,g6⟩:=r1.leave hn hfo (λi j e=>so i (by rw[e];simp[foO])) r'
   exact .inl ⟨iok.stop H' ex,h1 _ H' r6 ⟨acc,xs,rfl,r1.new hn,ha,IsL.ext Ext.refl (λa ha hs=>ha.1.1) iz⟩ g6⟩
end
theorem Rep.io {K:Fr0} {c:Fc} {Z:Env} {σ:St} {H H':Hp} {i:Nat} {a:Addr} {bs:List D} {xs:List V} (r:Rep K c Z σ H) (hi:i∈c.O) (hs:σ[i]? = some (some (.ref a))) (kp:∀b o,b≠a->H b=some o->H' b=some o)
  (ha:H' a=some (.lst xs)) (him:True) (il:IsL K (Cn c σ) H' bs xs) (dm:∀b,H' b=none->H b=none):Rep K c (Z.set i (some (.lst bs))) σ H'/\Gr c.O σ H H':=by
 obtain⟨a',xs0,e0,h0,hown⟩:=r.own i hi _ hs
 cases e0
 have gr:Gr c.O σ H H':=⟨⟨λb us hb=>kp b _ (wA hb h0 (by intro z;cases z)) hb,λb o u hb=>kp b _ (wA hb h0 (by intro z;cases z)) hb,λb o hc hb=>kp b o (λe=>hc i hi (by rw[hs,e])) hb⟩,dm⟩
 refine⟨⟨by rw[lS_];exact r.len,λk d hk=>?_,λj hj v hv=>?_,r.inj,r.b0,λb o hb hio=>?_,λb hb=>r.dm b (dm b hb),r.pO,r.ps⟩,gr⟩
 ·by_cases e:k=i
  ·subst e
   have hl:k<Z.length:=by
    have:=(gI_.mp hk).1
    rwa [lS_]at this
   rw[List.getElem?_set_self hl]at hk
   cases hk
   exact⟨.ref a,hs,.inl ⟨hi,bs,a,xs,rfl,rfl,ha,il⟩⟩
  ·rw [zU e]at hk
   obtain⟨v,h1,h2⟩:=r.val k d hk
   refine⟨v,h1,?_⟩
   rcases h2 with⟨hk2,ds,b,ys,h3,h5,h6,h7⟩|⟨hk2,h3⟩
   ·subst h5
    have ne:b≠a:=λe2=>e (r.inj k i a hk2 hi (by rw[h1,e2]) hs)
    exact .inl ⟨hk2,ds,b,ys,h3,rfl,kp b _ ne h6,gr.isL h7⟩
   ·exact .inr ⟨hk2,gr.is h3⟩
 ·obtain⟨b,ys,h1,h2,h3⟩:=r.own j hj v hv
  subst h1
  by_cases e:b=a
  ·subst e;exact⟨b,xs,rfl,ha,h3⟩
  ·exact⟨b,ys,rfl,kp b _ e h2,h3⟩
 ·have ne:b≠a:=λe=>by
   subst e
   rcases hown with z|z
   ·rw[hb]at z;cases z
   ·exact hio z.2
  exact kp b o ne (r.kp b o hb hio)
def zM (i:Nat) (Z:Env):Option (List D):=match Z[i]? with
 |some (some (.lst ds))=>some ds
 |_=>none
theorem qhF {i:Nat} {Z:Env} {ds:List D} (h:zM i Z=some ds):Z[i]? = some (some (.lst ds)):=by
 unfold zM at h
 split at h
 ·rename_i e;cases h;exact e
 ·cases h
theorem Rep.getLO {K:Fr0} {c:Fc} {Z:Env} {σ:St} {H:Hp} (r:Rep K c Z σ H) {i:Nat} {ds:List D} (hi:i∈c.O) (h:zM i Z=some ds) :
  ∃a xs,True/\σ[i]? = some (some (.ref a))/\H a=some (.lst xs)/\IsL K (Cn c σ) H ds xs:=by
 obtain⟨ds',a,xs,h1,h3,h4,h5⟩:=r.getO hi (qhF h)
 cases h1
 exact⟨a,xs,trivial,h3,h4,h5⟩
theorem z9{H:Hp}{a b:Addr}{o u:HO}(h:b≠a)(hb:H b=some o):upd H a u b=some o:=by rw[qw h];exact hb
theorem qeE {H:Hp} {a b:Addr} {u:HO} (h:upd H a u b=none):H b=none:=by
 by_cases e:b=a
 ·subst e;rw[qv]at h;cases h
 ·rw[qw e]at h;exact h
section
variable{X:Cx}{c:Fc}{a b e:Expr}{pos:Pos}
def zH (i:Nat) (f:M D):M D:=λZ=>match zM i Z with
 |none => .bad
 |some _=>(bnd f λd Z=>match zM i Z with
  |some ds=>if imm d&&zp (ds.length+1)then .ok (.non,Z.set i (some (.lst (ds++[d]))))else .bad
  |none => .bad) Z
theorem uK {i:Nat} {x:Str} {p1 apos:Pos} {f:M D} (he:DE X c e f) (ho:i∈c.O:=by exact of_decide_eq_true rfl) (hN:X.N[i]? = some x:=by rfl) (hv:Vis X.env.scope x:=by first|exact ya4 rfl|exact yaI (ya4 rfl)|exact yaI (yaI rfl)) (hd:(x==("__debug__":Str))=false:=by decide) (hcd:(x==("__classdict__":Str))=false:=by decide)
  (hbase:ydE (.Name x p1) "append" X.env (eval (.Name x p1) X.env)=eval (.Name x p1) X.env:=by rfl)
  (hfew:((yaN pos (yac [e] X.env)).all (λx => !x.1)&&(yck pos (ybH [] X.env)).all (λx=>x.1.isSome)
   && decide ([e].length+([]:List yct).length+(if([]:List yct).isEmpty then 0 else 1)<30))=true:=by rfl)
  (hline:(apos.endLine==pos.line)=true:=by rfl) (hs:yac [e] X.env=(false,eval e X.env)::yac [] X.env:=by rfl) (hplain:(yaN pos (yac [] X.env)).any (·.1)=false:=by rfl) :
  DE X c (.Call (.Attribute (.Name x p1) "append" apos) [e] [] pos) (zH i f):=by
 obtain⟨t,p,w⟩:=he
 refine⟨_,qly ycJ PySem.F.slot_list_append PySem.F.type_list_append qa5 (uH hN hv hd hcd) (jH p vv hs) hbase hfew hline hs hplain,λZ σ H Q r h=>?_⟩
 unfold zH at h
 cases e0:zM i Z with
 |none=>rw[e0]at h;exact h.elim
 | some ds0=>
  simp only[e0]at h
  obtain⟨l,xs0,_,hl,hH,_⟩:=r.getLO ho e0
  refine⟨.ref l,hl,.inl ⟨rfl,xs0,.inl (.inl hH)⟩,w Z σ H _ r (Wp.bnd h λd Z1 v H1 r1 i1 g1 h1=>?_)⟩
  cases e1:zM i Z1 with
  |none=>simp only[e1]at h1;exact h1.elim
  | some ds=>
   simp only[e1]at h1
   by_cases hb:(imm d&&zp (ds.length+1))=true
   ·rw [if_pos hb]at h1
    rw[yag]at hb
    obtain⟨l',xs,him,hl',hH',il⟩:=r1.getLO ho e1
    rw[hl]at hl'
    cases hl'
    have hsz:ds.length+1<=yat:=of_decide_eq_true hb.2
    have ext:Ext (Cn c σ) H1 (upd H1 l (.lst (xs++[v]))):=⟨λb us hb=>z9 (wA hb hH' (by intro z;cases z)) hb,λb o u hb=>z9 (wA hb hH' (by intro z;cases z)) hb,λb o hb hq=>z9 (λe=>hb.2 i ho (by rw[hl,e])) hq⟩
    obtain ⟨r2,g2⟩:=r1.io (H':=upd H1 l (.lst (xs++[v]))) (bs:=ds++[d]) ho hl (λb o hb ho=>z9 hb ho) qv trivial
     (IsL.append (IsL.ext ext (λ_ h _=>h) il) (IsL.one (Is.ext ext (λ_ h _=>h) i1))) (λb hb=>qeE hb)
    exact⟨l,xs,v,rfl,rfl,hH',by rw[il.length];omega,h1 _ _ r2 rfl g2⟩
   ·rw[if_neg hb]at h1;exact h1.elim
def qju (i:Nat) (k f:M D):MS:=sbnd f λd Z=>match zM i Z with
 |none => .bad
 | some _=>(sbnd k λj Z=>match j,zM i Z with
  |.int n,some ds=>match ixN ds.length n with
   |some q=>if imm d then .ok (.nx (Z.set i (some (.lst (ds.set q d)))))else .bad
   |none => .bad
  |_,_ => .bad) Z
theorem qlL {i:Nat} {x:Str} {p1 p2:Pos} {ke:Expr} {f k:M D} (he:DE X c e f) (hk:DE X c ke k) (ho:i∈c.O:=by exact of_decide_eq_true rfl) (hN:X.N[i]? = some x:=by rfl) (hv:Vis X.env.scope x:=by first|exact ya4 rfl|exact yaI (ya4 rfl)|exact yaI (yaI rfl)) (hd:(x==("__debug__":Str))=false:=by decide) (hcd:(x==("__classdict__":Str))=false:=by decide)
  (ha:∀v,yce (.Subscript (.Name x p1) ke p2) X.env v=(do
   let ov <-ydi [v] (eval (.Name x p1) X.env)
   let iv <-ydi [v,ov] (eval ke X.env)
   yfp p2
   ydi [v,ov,iv] (setItem ov iv v)
   release [v,ov,iv] []):=by intro _;rfl)
  (hs:ycS [.Subscript (.Name x p1) ke p2] e pos.line X.env=pure false:=by rfl) (hw:ycT [.Subscript (.Name x p1) ke p2] e X.env=pure none:=by rfl) (h1:(yba [.Subscript (.Name x p1) ke p2] X.env).map (·.2)=[yce (.Subscript (.Name x p1) ke p2) X.env]:=by rfl) :
  DS X c (.Assign [.Subscript (.Name x p1) ke p2] e pos) (qju i k f):=by
 obtain⟨t,p,w⟩:=he
 obtain⟨tk,pk,wk⟩:=hk
 refine⟨_,qko p (qnb (uH hN hv hd hcd) pk qjg ha) hs hw h1,λZ σ H D r h=>w Z σ H _ r (Wp.sbnd h λd Z1 v H1 r1 i1 g1 h1=>?_)⟩
 cases e0:zM i Z1 with
 |none=>simp only[e0]at h1;exact h1.elim
 | some ds0=>
  simp only[e0]at h1
  obtain⟨l,xs0,_,hl,hH,_⟩:=r1.getLO ho e0
  refine⟨.ref l,hl,wk Z1 σ H1 _ r1 (Wp.sbnd h1 λj Z2 u H2 r2 i2 g2 h2=>?_)⟩
  cases j with
  | int n=>
   cases e1:zM i Z2 with
   |none=>simp only[e1]at h2;exact h2.elim
   | some ds=>
    simp only[e1]at h2
    cases e2:ixN ds.length n with
    |none=>simp only[e2]at h2;exact h2.elim
    | some q=>
     simp only[e2]at h2
     by_cases hb:imm d=true
     ·rw [if_pos hb]at h2
      obtain⟨l',xs,him,hl',hH',il⟩:=r2.getLO ho e1
      rw[hl]at hl'
      cases hl'
      cases i2
      have i3:=g2.is i1
      have ext:Ext (Cn c σ) H2 (upd H2 l (.lst (xs.set q v))):=⟨λb us hb=>z9 (wA hb hH' (by intro z;cases z)) hb,λb o u hb=>z9 (wA hb hH' (by intro z;cases z)) hb,λb o hb hq=>z9 (λe=>hb.2 i ho (by rw[hl,e])) hq⟩
      obtain ⟨r3,g3⟩:=r2.io (H':=upd H2 l (.lst (xs.set q v))) (bs:=ds.set q d) ho hl (λb o hb ho=>z9 hb ho) qv trivial
       (IsL.set (Is.ext ext (λ_ h _=>h) i3) q (IsL.ext ext (λ_ h _=>h) il)) (λb hb=>qeE hb)
      exact⟨l,xs,n,q,rfl,rfl,hH',by rw[il.length];exact e2,h2 σ _ r3 g3.s⟩
     ·rw[if_neg hb]at h2;exact h2.elim
  |_=>exact h2.elim
structure qjv (K:Fr0) (c:Fc) (Z:Env) (σ:St) (H:Hp) (a:Addr):Prop where
 val:∀i d v,Z[i]? = some (some d)->i ∉ c.O->σ[i]? = some (some v)->Is K (λb=>Cn c σ b/\b≠a) H d v
 cont:∀i ds b xs,Z[i]? = some (some (.lst ds))->i∈c.O->σ[i]? = some (some (.ref b))->H b=some (.lst xs)->IsL K (Cn c σ) H ds xs->IsL K (λb=>Cn c σ b/\b≠a) H ds xs
 own:∀j∈c.O,σ[j]? ≠ some (some (.ref a))
 new:c.H0 a=none
theorem Is.fresh{K:Fr0}{A:Addr->Prop}{H:Hp}{d:D}{v:V}{a:Addr}(h:Is K A H d v)(hn:H a=none):Is K (λb=>A b/\b≠a) H d v:=Is.ext Ext.refl (λb h1 h2=>⟨h1,λe=>by rw[e,hn]at h2;cases h2⟩) h
theorem Rep.apart {K:Fr0} {Z:Env} {σ:St} {H:Hp} {a:Addr} {o:HO} (r:Rep K c Z σ H) (hn:H a=none):qjv K c Z σ (upd H a o) a where
 val:=λi d v h1 h2 h3=>by
  obtain⟨w,h4,h5⟩:=r.get h2 h1
  rw[h3]at h4
  cases h4
  exact Is.ext (Ext.of_same (qu hn _)) (λ_ h _=>h) (h5.fresh hn)
 cont:=λi ds b xs h1 h2 h3 h4 _=>by
  obtain⟨ds',a',ys,e1,e2,e3,e4⟩:=r.getO h2 h1
  cases e1
  rw[h3]at e2
  cases e2
  have:=qu hn o _ _ e3
  rw[h4]at this
  cases this
  exact IsL.ext (Ext.of_same (qu hn _)) (λb hb hs=>⟨hb,λe=>by rw[e,hn]at hs;cases hs⟩) e4
 own:=λj hj e=>(r.new hn).2 j hj e
 new:=r.dm a hn
theorem Rep.apart_same {K:Fr0} {Z:Env} {σ:St} {H H':Hp} {a:Addr} (r:Rep K c Z σ H) (hn:H a=none) (sm:zZ H H'):qjv K c Z σ H' a where
 val:=λi d v h1 h2 h3=>by
  obtain⟨w,h4,h5⟩:=r.get h2 h1
  rw[h3]at h4
  cases h4
  exact Is.ext (Ext.of_same sm) (λ_ h _=>h) (h5.fresh hn)
 cont:=λi ds b xs h1 h2 h3 h4 _=>by
  obtain⟨ds',a',ys,e1,e2,e3,e4⟩:=r.getO h2 h1
  cases e1
  rw[h3]at e2
  cases e2
  have:=sm _ _ e3
  rw[h4]at this
  cases this
  exact IsL.ext (Ext.of_same sm) (λb hb hs=>⟨hb,λe=>by rw[e,hn]at hs;cases hs⟩) e4
 own:=λj hj e=>(r.new hn).2 j hj e
 new:=r.dm a hn
def WpN (K:Fr0) (c:Fc) (σ:St) (H:Hp) (Q:VK):R (List D×Env)->Prop
 |.ok (ds,Z)=>∀a xs H',H a=none->Rep K c Z σ H'->qjv K c Z σ H' a->H' a=some (.lst xs)->True->IsL K (λb=>Cn c σ b/\b≠a) H' ds xs->Gr c.O σ H H'->Q (.ref a) H'
 |.exc x Z=>∀H',Rep K c Z σ H'->Gr c.O σ H H'->c.E x H'
 |.bad=>False
def DN(X:Cx)(c:Fc)(e:Expr)(f:M (List D)):Prop:=∃t,PE X e t/\∀Z σ H Q,Rep X.K c Z σ H->WpN X.K c σ H Q (f Z)->t σ H Q
theorem WpN.gr {K:Fr0} {σ:St} {H H1:Hp} {Q:VK}:∀{r:R (List D×Env)},WpN K c σ H Q r->Gr c.O σ H H1->WpN K c σ H1 Q r
 |.ok (d,Z),h,g=>λa xs H' hn h1 h2 h3 h4 h5 hg=>h a xs H' (g.dom a hn) h1 h2 h3 h4 h5 (g.trans hg)
 |.exc x Z,h,g=>λH' hr hg=>h H' hr (g.trans hg)
 |.bad,h,_=>h
theorem WpL.bndN {K:Fr0} {σ:St} {H:Hp} {Q:VK} {f:M (List D)} {k:List D->M (List D)} {Z:Env} {Q':List V->Hp->Prop} (h:WpN K c σ H Q (Sk.bnd f k Z)) (hQ:∀d Z' v H',Rep K c Z' σ H'->IsL K (Cn c σ) H' d v->Gr c.O σ H H'->WpN K c σ H' Q (k d Z')->Q' v H'):WpL K c σ H Q' (f Z):=by
 unfold Sk.bnd at h
 cases e:f Z with
 |ok p=>rw[e]at h;exact λv H' hr hi hg=>hQ p.1 p.2 v H' hr hi hg (h.gr hg)
 |exc x Z'=>rw[e]at h;exact h
 |bad=>rw[e]at h;exact h
def qgw(f:M (List D)):M (List D):=bnd f λds=>lift (if immL ds&&zp ds.length then some ds else none)
theorem qbi {es:List Expr} {f:M (List D)} (h:DA X c es f):DN X c (.List es pos) (qgw f):=by
 obtain⟨t,p,w⟩:=h
 refine⟨_,qkr p,λZ σ H Q r h=>w Z σ H _ r (WpL.bndN h λds Z1 vs H1 r1 i1 g1 h1=>?_)⟩
 by_cases hb:(immL ds&&zp ds.length)=true
 ·rw[if_pos hb]at h1
  rw[yag]at hb
  refine⟨by rw[i1.length];exact of_decide_eq_true hb.2,λp hp=>?_⟩
  exact h1 p vs _ hp (r1.laid hp _) (r1.apart hp) qv trivial (IsL.ext (Ext.of_same (qu hp _)) (λb h hs=>⟨h,λe=>by rw[e,hp]at hs;cases hs⟩) i1) (.of_same (qu hp _))
 ·rw[if_neg hb]at h1;exact h1.elim
theorem Cl.setO {O:List Nat} {σ:St} {i:Nat} {a b:Addr} (h:Cl O σ b) (hb:b≠a):Cl O (σ.set i (some (.ref a))) b:=λj hj e=>by
 by_cases hji:j=i
 ·subst hji
  have hl:j<σ.length:=by
   have:=(gI_.mp e).1
   rwa [lS_]at this
  rw[List.getElem?_set_self hl]at e
  cases e
  exact hb rfl
 ·rw[zU hji]at e
  exact h j hj e
theorem Rep.setO {K:Fr0} {Z:Env} {σ:St} {H:Hp} {i:Nat} {a:Addr} {ds:List D} {xs:List V} (r:Rep K c Z σ H) (hi:i∈c.O) (hP:i ∉ c.P) (ap:qjv K c Z σ H a) (ha:H a=some (.lst xs)) (him:True) (il:IsL K (λb=>Cn c σ b/\b≠a) H ds xs) :
  Rep K c (Z.set i (some (.lst ds))) (σ.set i (some (.ref a))) H where
 len:=by rw[lS_,lS_];exact r.len
 val := λj e hj=>by
  by_cases e1:j=i
  ·subst e1
   have hl:j<Z.length:=by
    have:=(gI_.mp hj).1
    rwa [lS_]at this
   rw[List.getElem?_set_self hl]at hj
   cases hj
   exact⟨.ref a,List.getElem?_set_self (by rw[<-r.len];exact hl),.inl ⟨hi,ds,a,xs,rfl,rfl,ha,IsL.ext Ext.refl (λb hb _=>⟨hb.1.1,hb.1.2.setO hb.2⟩) il⟩⟩
  ·rw [zU e1]at hj
   obtain⟨w,h1,h2⟩:=r.val j e hj
   refine⟨w,by rw[zU e1];exact h1,?_⟩
   rcases h2 with⟨g1,ds',b',xs',g3,g5,g6,g7⟩|⟨h3,h4⟩
   ·subst g3 g5
    exact .inl ⟨g1,ds',b',xs',rfl,rfl,g6,IsL.ext Ext.refl (λb hb _=>⟨hb.1.1,hb.1.2.setO hb.2⟩) (ap.cont j ds' b' xs' hj g1 h1 g6 g7)⟩
   ·exact .inr ⟨h3,Is.ext Ext.refl (λb hb _=>⟨hb.1.1,hb.1.2.setO hb.2⟩) (ap.val j e w hj h3 h1)⟩
 own := λj hj w h=>by
  by_cases e1:j=i
  ·subst e1
   have hl:j<σ.length:=by
    have:=(gI_.mp h).1
    rwa [lS_]at this
   rw[List.getElem?_set_self hl]at h
   cases h
   exact⟨a,xs,rfl,ha,.inl ap.new⟩
  ·rw[zU e1]at h
   exact r.own j hj w h
 inj := λj k b hj hk h1 h2=>by
  by_cases e1:j=i
  ·by_cases e2:k=i
   ·rw[e1,e2]
   ·subst e1
    have hl:j<σ.length:=by
     have:=(gI_.mp h1).1
     rwa [lS_]at this
    rw[List.getElem?_set_self hl]at h1
    cases h1
    rw[zU e2]at h2
    exact absurd h2 (ap.own k hk)
  ·by_cases e2:k=i
   ·subst e2
    have hl:k<σ.length:=by
     have:=(gI_.mp h2).1
     rwa [lS_]at this
    rw[List.getElem?_set_self hl]at h2
    cases h2
    rw[zU e1]at h1
    exact absurd h1 (ap.own j hj)
   ·rw[zU e1]at h1
    rw[zU e2]at h2
    exact r.inj j k b hj hk h1 h2
 b0:=r.b0
 kp:=r.kp
 dm:=r.dm
 pO:=r.pO
 ps:=λj hj=>by
  have e:j≠i:=λe=>hP (e▸hj)
  rw[zU e];exact r.ps j hj
def vn(i:Nat)(f:M (List D)):MS:=sbnd f λds Z => .ok (.nx (Z.set i (some (.lst ds))))
theorem vz {i:Nat} {x:Str} {pos':Pos} {f:M (List D)} (hN:X.N.Nodup) (he:DN X c e f) (ho:i∈c.O:=by exact of_decide_eq_true rfl) (hP:i ∉ c.P:=by exact of_decide_eq_false rfl) (hi:X.N[i]? = some x:=by rfl) (hx:Loc X.env.scope x:=by first|exact ya4 rfl|exact yaI rfl) (hs:ycA e (some (.Name x pos')) pos.line X.env=pure false:=by rfl) (hf:X.fn x=true\/X.env.scope.names.lookup x=some .local:=by first|exact .inl rfl|exact .inr rfl|assumption) :
  DS X c (.Assign [.Name x pos'] e pos) (vn i f):=by
 obtain⟨t,p,w⟩:=he
 refine⟨_,qg8 hN hi hx p hs hf,λZ σ H D r h=>w Z σ H _ r ?_⟩
 unfold vn sbnd at h
 cases ef:f Z with
 |bad=>rw[ef]at h;exact h
 |exc z Z'=>rw[ef]at h;exact λH' hr hg=>h σ H' hr hg.s
 |ok q=>
  rw[ef]at h
  intro a xs H' hn r' ap ha him il g'
  exact h _ H' (r'.setO ho hP ap ha him il) ⟨g'.ext,λb hb hs=>hb.setO (λe=>by rw[e,hn]at hs;exact absurd hs (by simp)),g'.dom⟩
def qdH (i:Nat):M D:=λZ=>match zM i Z with
 |some ds => .ok (.int ds.length,Z)
 |none => .bad
theorem qlM {i:Nat} {x:Str} {p p1:Pos} (hg:Gl X "len") (hm:X.mg "len"=none) (ho:i∈c.O:=by exact of_decide_eq_true rfl) (hN:X.N[i]? = some x:=by rfl) (hv:Vis X.env.scope x:=by first|exact ya4 rfl|exact yaI (ya4 rfl)|exact yaI (yaI rfl)) (hd:(x==("__debug__":Str))=false:=by decide) (hcd:(x==("__classdict__":Str))=false:=by decide) :
  DE X c (.Call (.Name "len" p) [.Name x p1] [] pos) (qdH i):=by
 refine⟨_,vM zG hg hm PySem.boot_len (jH (uH hN hv hd hcd) vv),λZ σ H Q r h=>?_⟩
 unfold qdH at h
 cases e0:zM i Z with
 |none=>simp only[e0]at h;exact h.elim
 |some ds=>
  simp only[e0]at h
  obtain⟨l,xs,him,hl,hH,il⟩:=r.getLO ho e0
  exact⟨.ref l,hl,.inl ⟨l,xs,rfl,.inl (.inl (.inl hH)),by rw[il.length];exact h _ H r rfl .refl⟩⟩
def qb0 (i:Nat):M D:=λZ=>match zM i Z with
 |some ds => .ok (.tup ds,Z)
 |none => .bad
theorem qbj {i:Nat} {x:Str} {p p1:Pos} (hg:Gl X "tuple") (hm:X.mg "tuple"=none) (hb:yaB "tuple"=some (.type "tuple"):=by first|rfl|exact PySem.boot_tuple) (ho:i∈c.O:=by exact of_decide_eq_true rfl) (hN:X.N[i]? = some x:=by rfl) (hv:Vis X.env.scope x:=by first|exact ya4 rfl|exact yaI (ya4 rfl)|exact yaI (yaI rfl)) (hd:(x==("__debug__":Str))=false:=by decide) (hcd:(x==("__classdict__":Str))=false:=by decide) :
  DE X c (.Call (.Name "tuple" p) [.Name x p1] [] pos) (qb0 i):=by
 refine⟨_,qdx wC hg hm hb (jH (uH hN hv hd hcd) vv),λZ σ H Q r h=>?_⟩
 unfold qb0 at h
 cases e0:zM i Z with
 |none=>simp only[e0]at h;exact h.elim
 |some ds=>
  simp only[e0]at h
  obtain⟨l,xs,him,hl,hH,il⟩:=r.getLO ho e0
  refine⟨.ref l,hl,l,xs,rfl,.inl ⟨.inl (.inl hH),λp hp=>h _ _ (r.laid hp _) ⟨p,xs,rfl,.inl qv,?_⟩ (.of_same (qu hp _))⟩⟩
  exact IsL.ext (Ext.of_same (qu hp _)) (λ_ h _=>h) il
def qeF (i:Nat) (g:M D):M D:=λZ=>match zM i Z with
 |none => .bad
 | some _=>(bnd g λk Z=>match k,zM i Z with
  |.int n,some ds=>match atI ds n with
   |some d => .ok (d,Z)
   |none => .bad
  |_,_ => .bad) Z
theorem qhG {i:Nat} {x:Str} {p1:Pos} {g:M D} (hb:DE X c b g) (hs:qey b:=by intro _ _;rfl) (ho:i∈c.O:=by exact of_decide_eq_true rfl) (hN:X.N[i]? = some x:=by rfl) (hv:Vis X.env.scope x:=by first|exact ya4 rfl|exact yaI (ya4 rfl)|exact yaI (yaI rfl)) (hd:(x==("__debug__":Str))=false:=by decide) (hcd:(x==("__classdict__":Str))=false:=by decide) :
  DE X c (.Subscript (.Name x p1) b pos) (qeF i g):=by
 obtain⟨tb,pb,wb⟩:=hb
 refine⟨_,qns qhq (uH hN hv hd hcd) pb hs,λZ σ H Q r h=>?_⟩
 unfold qeF at h
 cases e0:zM i Z with
 |none=>simp only[e0]at h;exact h.elim
 | some ds0=>
  simp only[e0]at h
  obtain⟨l,xs0,_,hl,hH,_⟩:=r.getLO ho e0
  refine⟨.ref l,hl,wb Z σ H _ r (Wp.bnd h λk Z1 v H1 r1 i1 g1 h1=>?_)⟩
  cases k with
  | int n=>
   cases e1:zM i Z1 with
   |none=>simp only[e1]at h1;exact h1.elim
   | some ds=>
    simp only[e1]at h1
    cases e2:atI ds n with
    |none=>simp only[e2]at h1;exact h1.elim
    |some d=>
     simp only[e2]at h1
     obtain⟨l',xs,him,hl',hH',il⟩:=r1.getLO ho e1
     rw[hl]at hl'
     cases hl'
     cases i1
     obtain⟨w,h3,h4⟩:=il.atI e2
     exact⟨l,xs,n,w,rfl,rfl,.inl (.inl hH'),h3,h1 w H1 r1 h4 .refl⟩
  |_=>exact h1.elim
def qlN (i:Nat):MS:=λZ=>match zM i Z with
 |some ds => .ok (.rt (.lst ds) Z)
 |none => .bad
theorem qlO {i:Nat} {x:Str} {p1:Pos} (ho:i∈c.O:=by exact of_decide_eq_true rfl) (hP:i ∉ c.P:=by exact of_decide_eq_false rfl) (hN:X.N[i]? = some x:=by rfl) (hv:Vis X.env.scope x:=by first|exact ya4 rfl|exact yaI (ya4 rfl)|exact yaI (yaI rfl)) (hd:(x==("__debug__":Str))=false:=by decide) (hcd:(x==("__classdict__":Str))=false:=by decide) :
  DS X c (.Return (some (.Name x p1)) pos) (qlN i):=by
 refine⟨_,qg7 (uH hN hv hd hcd),λZ σ H D r h=>?_⟩
 unfold qlN at h
 cases e0:zM i Z with
 |none=>simp only[e0]at h;exact h.elim
 | some ds=>
  simp only[e0]at h
  obtain⟨l,xs,him,hl,hH,il⟩:=r.getLO ho e0
  obtain⟨a,ys,e1,e2,e3⟩:=r.own i ho _ hl
  cases e1
  have hB:c.B l:=by
   rcases e3 with z|z
   ·exact r.b0.1 l z
   ·exact absurd z.1 hP
  exact⟨.ref l,hl,h (.ref l) σ H r ⟨l,xs,rfl,hB,hH,IsL.ext Ext.refl (λ_ h _=>h.1) il⟩ .refl⟩
end
def cfn (O P:List Nat) (A:Addr->Prop) (H:Hp) (Io:Addr->Prop) (E:Exn->Hp->Prop) (S:Nat->Option (Option V)):Fc where
 O:=O
 P:=P
 B:=λa=>A a\/H a=none
 H0:=H
 Io:=Io
 E:=E
 S:=S
def yL(n:Nat)(ds:List D):Env:=ds.map some++yaw (n-ds.length) none
def spD (K:Fr0) (F:List D->R D):Sp:=λvs H Q _=>∃ds A,IsL K A H ds vs/\qdD K H/\match F ds with
 |.ok d=>∀v H',zZ H H'->Is K (λa=>A a\/H a=none) H' d v->Q v H'
 |_=>False
def qes (K:Fr0) (F:List D->List D->R (D×List D)):Sp:=λvs H Q _=>∃(bs ds:List D)(A:Addr->Prop)(a:Addr)(xs vs':List V),vs=.ref a::vs'/\H a=some (.lst xs)/\qdD K H/\IsL K A H bs xs/\¬A a/\IsL K A H ds vs'/\match F bs ds with
 |.ok (d,bs')=>∀v H' xs',(∀b o,b≠a->H b=some o->H' b=some o)->(∀b,H' b=none->H b=none)->H' a=some (.lst xs')->True->IsL K (λb=>A b\/H b=none) H' bs' xs'->Is K (λb=>A b\/H b=none) H' d v->Q v H'
 |_=>False
def dfn (n p:Nat) (body:MS) (ds:List D):R D:=if ds.length=p then match body (yL n ds) with
 |.ok (.rt d _) => .ok d
 |.ok (.nx _) => .ok .non
 |_ => .bad else .bad
def vA (n p:Nat) (body:MS) (bs ds:List D):R (D×List D):=if ds.length+1=p then match body (yL n (.lst bs::ds)) with
 |.ok (.rt d Z)=>match zM 0 Z with
  |some bs' => .ok (d,bs')
  |none => .bad
 |.ok (.nx Z)=>match zM 0 Z with
  |some bs' => .ok (.non,bs')
  |none => .bad
 |_ => .bad else .bad
theorem wL {N:List Str} {vs:List V} {i:Nat} {v:V} (h:(ji N vs)[i]? = some (some v)):vs[i]? = some v:=by
 unfold ji at h
 by_cases hi:i<vs.length
 ·rw[List.getElem?_append_left (by simpa using hi),gM_]at h
  cases e:vs[i]? with
  |none=>rw[e]at h;cases h
  |some w=>rw[e]at h;cases h;rfl
 ·rw[List.getElem?_append_right (by simpa using hi),List.getElem?_replicate]at h
  split at h<;>cases h
theorem qaT {N:List Str} {vs:List V} {i:Nat} {v:V} (h:vs[i]? = some v):(ji N vs)[i]? = some (some v):=by
 unfold ji
 have hi:i<vs.length:=(gI_.mp h).1
 rw[List.getElem?_append_left (by simpa using hi),gM_,h];rfl
theorem qdI {n:Nat} {ds:List D} {i:Nat} {d:D} (h:(yL n ds)[i]? = some (some d)):ds[i]? = some d:=by
 unfold yL at h
 by_cases hi:i<ds.length
 ·rw[List.getElem?_append_left (by simpa using hi),gM_]at h
  cases e:ds[i]? with
  |none=>rw[e]at h;cases h
  |some w=>rw[e]at h;cases h;rfl
 ·rw[List.getElem?_append_right (by simpa using hi),List.getElem?_replicate]at h
  split at h<;>cases h
theorem qbk {K:Fr0} {N:List Str} {O:List Nat} {A:Addr->Prop} {H:Hp} {E:Exn->Hp->Prop} {ds:List D} {vs:List V} (il:IsL K A H ds vs) (tb:qdD K H) (hO:∀i∈O,ds.length<=i) :
  Rep K (cfn O [] A H (λ_=>False) E λ_=>none) (yL N.length ds) (ji N vs) H where
 len:=by unfold yL ji;simp[il.length]
 val:=λi d h=>by
  have h1:=qdI h
  obtain⟨v,h2,h3⟩:=il.get h1
  have hi:i ∉ O:=λz=>by
   have:=(gI_.mp h1).1
   have:=hO i z
   omega
  refine⟨v,qaT h2,.inr ⟨hi,Is.ext Ext.refl (λa ha _=>⟨.inl ha,λj hj e=>?_⟩) h3⟩⟩
  have:=(gI_.mp (wL e)).1
  have:=hO j hj
  rw[il.length]at *
  omega
 own:=λj hj v h=>by
  have:=(gI_.mp (wL h)).1
  have:=hO j hj
  rw[il.length]at *
  omega
 inj:=λi j a hi hj h1 h2=>by
  have:=(gI_.mp (wL h1)).1
  have:=hO i hi
  rw[il.length]at *
  omega
 b0:=⟨λa h => .inr h,tb⟩
 kp:=λb o h _=>h
 dm:=λb h=>h
 pO:=λj hj=>by cases hj
 ps:=λj hj=>by cases hj
section
variable{P:yas}{w:World}{K:yaf}{mg:Str->Option Value}{base:Heap}
theorem zJ {x qual:Str} {st:Stmt} {f:Addr} {fd:yaS} {N ps:List Str} {k:Nat} {O:List Nat} {body:MS} (F:Fun K x qual st f fd) (S:qz N ps (qe st)) (hO:∀i∈O,ps.length<=i)
  (hb:∀(cdv:Value)(A:yav)(outer:List yaU)(s:yab)(H:Hp)(E:XK)(B:Addr->Prop),yz k (A.deeper (ybj qual (qe st) s.heap.objs.size f cdv)) ->
   DSs (qiW CX0 P w K mg base N qual (qe st) f cdv A outer s H E).nox (cfn O [] B H (λ_=>False) (λ_ _=>False) λ_=>none) (qy st) body) :
  vp P w K mg base CX0 (k+1) f fd ps (spD K (dfn N.length ps.length body)):=by
 refine F.ok S (λvs H Q E h=>?_) (λcdv A outer s H vs Q E hr h=>?_)
 ·obtain⟨ds,B,il,_,h⟩:=h
  unfold dfn at h
  by_cases e:ds.length=ps.length
  ·rw[il.length];exact e
  ·rw[if_neg e]at h;exact h.elim
 ·obtain ⟨ds,B,il,tb,h⟩:=h
  obtain⟨t,p,wt⟩:=hb cdv A outer s H E B hr
  refine⟨t,p,?_⟩
  unfold dfn at h
  by_cases e:ds.length=ps.length
  ·rw [if_pos e]at h
   refine wt (yL N.length ds) (ji N vs) H _ (qbk il tb (λi hi=>by rw[e];exact hO i hi)) ?_
   have same:∀{Z:Env}{σ:St}{H':Hp},Rep K (cfn O [] B H (λ_=>False) (λ_ _=>False) λ_=>none) Z σ H'->zZ H H':=λr b o hb=>r.kp b o hb λz=>z
   cases eb:body (yL N.length ds) with
   |bad=>rw[eb]at h;exact h.elim
   |exc z Z=>rw[eb]at h;exact h.elim
   |ok fl=>
    rw[eb]at h
    cases fl with
    |nx Z=>exact λσ' H' r' _=>h .non H' (same r') rfl
    |rt d Z=>exact λv σ' H' r' i' _=>h v H' (same r') i'
    |bk Z=>exact h.elim
    |ct Z=>exact h.elim
  ·rw[if_neg e]at h;exact h.elim
theorem qgx {x qual:Str} {st:Stmt} {f:Addr} {fd:yaS} {N ps:List Str} {k:Nat} {O:List Nat} {body:MS} (F:Fun K x qual st f fd) (S:qz N ps (qe st)) (hO:∀i∈O,i=0\/ps.length<=i) (h0:0∈O)
  (hb:∀(cdv:Value)(A:yav)(outer:List yaU)(s:yab)(H:Hp)(E:XK)(B Io:Addr->Prop)(S:Nat->Option (Option V)),yz k (A.deeper (ybj qual (qe st) s.heap.objs.size f cdv)) ->
   DSs (qiW CX0 P w K mg base N qual (qe st) f cdv A outer s H E).nox (cfn O [0] B H Io (λ_ _=>False) S) (qy st) body) :
  vp P w K mg base CX0 (k+1) f fd ps (qes K (vA N.length ps.length body)):=by
 refine F.ok S (λvs H Q E h=>?_) (λcdv A outer s H vs Q E hr h=>?_)
 ·obtain⟨bs,ds,B,a,xs,vs',rfl,ha,him,ib,nA,il,h⟩:=h
  unfold vA at h
  by_cases e:ds.length+1=ps.length
  ·rw[lC_,il.length];exact e
  ·rw[if_neg e]at h;exact h.elim
 ·obtain ⟨bs,ds,B,a,xs,vs',rfl,ha,him,ib,nA,il,h⟩:=h
  obtain⟨t,p,wt⟩:=hb cdv A outer s H E B (λb=>b=a) (λj=>(ji N (.ref a::vs'))[j]?) hr
  refine⟨t,p,?_⟩
  unfold vA at h
  by_cases e:ds.length+1=ps.length
  ·rw [if_pos e]at h
   have only:∀j∈O,∀v,(ji N (.ref a::vs'))[j]? = some (some v)->j=0/\v=.ref a:=λj hj v hv=>by
    have h1:=wL hv
    rcases hO j hj with z|z
    ·subst z;cases h1;exact⟨rfl,rfl⟩
    ·have:=(gI_.mp h1).1
     rw[lC_,il.length]at this
     omega
   have r0:Rep K (cfn O [0] B H (λb=>b=a) (λ_ _=>False) λj=>(ji N (.ref a::vs'))[j]?) (yL N.length (.lst bs::ds)) (ji N (.ref a::vs')) H:=by
    refine⟨by unfold yL ji;simp[il.length],λi d hd=>?_,λj hj v hv=>?_,λi j b hi hj h1 h2=>?_,⟨λb hb => .inr hb,λq P pos eP=>⟨(him q P pos eP).1,λz=>by have:=(him q P pos eP).1;rw[z,ha]at this;cases this⟩⟩,λb o hb _=>hb,λb hb=>hb,λj hj=>?_,λ_ _=>rfl⟩
    ·have h1:=qdI hd
     cases i with
     |zero=>
      cases h1
      exact⟨.ref a,qaT rfl,.inl ⟨h0,bs,a,xs,rfl,rfl,ha,IsL.ext Ext.refl (λb hb _=>⟨.inl hb,λj hj e2=>by obtain⟨_,e3⟩:=only j hj _ e2;cases e3;exact nA hb⟩) ib⟩⟩
     | succ i=>
      have h1':ds[i]? = some d:=by simpa using h1
      obtain⟨v,h2,h3⟩:=il.get h1'
      have hi:i+1 ∉ O:=λz=>by
       have h4:=(gI_.mp h1').1
       rcases hO _ z with q|q
       ·cases q
       ·omega
      refine⟨v,qaT (by simpa using h2),.inr ⟨hi,Is.ext Ext.refl (λb hb _=>⟨.inl hb,λj hj e2=>?_⟩) h3⟩⟩
      obtain⟨_,e3⟩:=only j hj _ e2
      cases e3
      exact nA hb
    ·obtain⟨rfl,rfl⟩:=only j hj v hv
     exact⟨a,xs,rfl,ha,.inr ⟨by simp[cfn],rfl⟩⟩
    ·rw[(only i hi _ h1).1,(only j hj _ h2).1]
    ·have:j=0:=by simpa [cfn] using hj
     rw[this];exact h0
   refine wt _ _ H _ r0 ?_
   have fin:∀{Z:Env}{σ:St}{H':Hp}{bs':List D},Rep K (cfn O [0] B H (λb=>b=a) (λ_ _=>False) λj=>(ji N (.ref a::vs'))[j]?) Z σ H'->zM 0 Z=some bs' ->
     ∃xs',H' a=some (.lst xs')/\True/\IsL K (λb=>B b\/H b=none) H' bs' xs':=λ{Z σ H' bs'} r e1=>by
    obtain⟨l,ys,h1,h2,h3,h4⟩:=r.getLO h0 e1
    have h5:=r.ps 0 (by simp[cfn])
    have h6:(cfn O [0] B H (λb=>b=a) (λ_ _=>False) λj=>(ji N (.ref a::vs'))[j]?).S 0=some (some (.ref a)):=qaT rfl
    rw[h2,h6]at h5
    cases h5
    exact⟨ys,h3,h1,IsL.ext Ext.refl (λb hb _=>hb.1) h4⟩
   have kps:∀{Z:Env}{σ:St}{H':Hp},Rep K (cfn O [0] B H (λb=>b=a) (λ_ _=>False) λj=>(ji N (.ref a::vs'))[j]?) Z σ H'->∀b o,b≠a->H b=some o->H' b=some o:=λr b o hb ho=>r.kp b o ho hb
   cases eb:body (yL N.length (.lst bs::ds)) with
   |bad=>rw[eb]at h;exact h.elim
   |exc z Z=>rw[eb]at h;exact h.elim
   | ok fl=>
    rw[eb]at h
    cases fl with
    | nx Z=>
     cases eg:zM 0 Z with
     |none=>simp only[eg]at h
     | some bs'=>
      simp only[eg]at h
      exact λσ' H' r' _=>by
       obtain⟨xs',h1,h2,h3⟩:=fin r' eg
       exact h .non H' xs' (kps r') (λb hb=>r'.dm b hb) h1 h2 h3 rfl
    | rt d Z=>
     cases eg:zM 0 Z with
     |none=>simp only[eg]at h
     | some bs'=>
      simp only[eg]at h
      exact λv σ' H' r' i' _=>by
       obtain⟨xs',h1,h2,h3⟩:=fin r' eg
       exact h v H' xs' (kps r') (λb hb=>r'.dm b hb) h1 h2 h3 i'
    |bk Z=>exact h.elim
    |ct Z=>exact h.elim
  ·rw[if_neg e]at h;exact h.elim
end
section
variable{X:Cx}{c:Fc}{a b e:Expr}{pos:Pos}
def qp (F:List D->R D) (g:M (List D)):M D:=bnd g λds Z=>match F ds with
 |.ok d => .ok (d,Z)
 |_ => .bad
theorem qlP {k:Nat} {f:Addr} {fd:yaS} {ps:List Str} {F:List D->R D} {x:Str} {p:Pos} {es:List Expr} {g:M (List D)} (G:vp X.prog X.w X.K X.mg X.base CX0 k f fd ps (spD X.K F)) (hr:yz k X.A) (hg:Gl X x) (hm:X.mg x=some (.ref f)) (hk:yaj X.K (.ref f)=true) (hb:vj X.K fd ps [])
  (ha:DA X c (e::es) g) (hd:(x==("__debug__":Str))=false:=by decide) (he:yac (e::es) X.env=(false,eval e X.env)::yac es X.env:=by rfl) (hpl:(yaN pos (yac es X.env)).any (·.1)=false:=by rfl):DE X c (.Call (.Name x p) (e::es) [] pos) (qp F g):=by
 obtain⟨t,pa,w⟩:=ha
 refine⟨_,qa0 G hr hg hm hk hb .nil qlB pa hd he hpl,λZ σ H Q r h=>w Z σ H _ r (WpL.bnd h λds Z1 vs H1 r1 i1 g1 h1=>?_)⟩
 rw[yaZ]
 refine⟨ds,Cn c σ,i1,r1.tb,?_⟩
 cases ef:F ds with
 |bad=>simp only[ef]at h1;exact h1.elim
 |exc z Z'=>simp only[ef]at h1;exact h1.elim
 |ok d=>
  simp only[ef]at h1
  exact λv H' sm i=>h1 v H' (r1.same sm) (Is.ext Ext.refl (λa ha _=>ha.elim id r1.new) i) (.of_same sm)
def qj (F:List D->List D->R (D×List D)) (i:Nat) (g:M (List D)):M D:=λZ=>match zM i Z with
 |none => .bad
 | some _=>(bnd g λds Z=>match zM i Z with
  |none => .bad
  |some bs=>match F bs ds with
   |.ok (d,bs') => .ok (d,Z.set i (some (.lst bs')))
   |_ => .bad) Z
theorem qhH {k i:Nat} {f:Addr} {fd:yaS} {ps:List Str} {F:List D->List D->R (D×List D)} {x y:Str} {p p1:Pos} {es:List Expr} {g:M (List D)} (G:vp X.prog X.w X.K X.mg X.base CX0 k f fd ps (qes X.K F)) (hr:yz k X.A) (hg:Gl X x) (hm:X.mg x=some (.ref f)) (hk:yaj X.K (.ref f)=true) (hb:vj X.K fd ps [])
  (ha:DA X c es g) (ho:i∈c.O:=by exact of_decide_eq_true rfl) (hN:X.N[i]? = some y:=by rfl) (hv:Vis X.env.scope y:=by first|exact ya4 rfl|exact yaI (ya4 rfl)|exact yaI (yaI rfl)) (hdy:(y==("__debug__":Str))=false:=by decide) (hcd:(y==("__classdict__":Str))=false:=by decide)
  (hd:(x==("__debug__":Str))=false:=by decide) (he:yac (.Name y p1::es) X.env=(false,eval (.Name y p1) X.env)::yac es X.env:=by rfl) (hpl:(yaN pos (yac es X.env)).any (·.1)=false:=by rfl):DE X c (.Call (.Name x p) (.Name y p1::es) [] pos) (qj F i g):=by
 obtain⟨t,pa,w⟩:=ha
 refine⟨_,qa0 G hr hg hm hk hb .nil qlB (jH (uH hN hv hdy hcd) pa he) hd he hpl,λZ σ H Q r h=>?_⟩
 unfold qj at h
 cases e0:zM i Z with
 |none=>simp only[e0]at h;exact h.elim
 | some ds0=>
  simp only[e0]at h
  obtain⟨l,xs0,_,hl,hH,_⟩:=r.getLO ho e0
  refine⟨.ref l,hl,w Z σ H _ r (WpL.bnd h λds Z1 vs H1 r1 i1 g1 h1=>?_)⟩
  show qes X.K F (.ref l::vs++[]) H1 Q E0
  rw[yaZ]
  cases e1:zM i Z1 with
  |none=>simp only[e1]at h1;exact h1.elim
  | some bs=>
   simp only[e1]at h1
   obtain⟨l',xs,him,hl',hH',il⟩:=r1.getLO ho e1
   rw[hl]at hl'
   cases hl'
   refine⟨bs,ds,Cn c σ,l,xs,vs,rfl,hH',r1.tb,il,λhc=>hc.2 i ho hl,i1,?_⟩
   cases ef:F bs ds with
   |bad=>simp only[ef]at h1;exact h1.elim
   |exc z Z'=>simp only[ef]at h1;exact h1.elim
   |ok q=>
    obtain⟨d,bs'⟩:=q
    simp only[ef]at h1
    intro v H' xs' kp dm ha2 him2 il2 i2
    obtain⟨r2,g2⟩:=r1.io (bs:=bs') ho hl kp ha2 him2 (IsL.ext Ext.refl (λa ha _=>ha.elim id r1.new) il2) dm
    exact h1 v H' r2 (Is.ext Ext.refl (λa ha _=>ha.elim id r1.new) i2) g2
end
def qjw:Key->PyData
 |.inl i => .int i
 |.inr x => .str x
mutual
def zF:D->PyData
 |.non => .none
 |.bl b => .bool b
 |.int i => .int i
 |.str x => .str x
 |.tup ds => .tuple (toPDs ds)
 |.lst ds => .list (toPDs ds)
 |.dic kvs => .dict (kvs.map λp=>(qjw p.1,.int p.2))
 |.fz ns => .list (ns.map .int)
 |.exc _ => .dict [(.int (2 ^ 2000),.none)]
def toPDs:List D->List PyData
 | []=>[]
 |d::ds=>zF d::toPDs ds
end
mutual
def noL:D->Bool
 |.tup ds=>noLs ds
 |.lst _=>false
 |.fz _=>false
 |_=>true
def noLs:List D->Bool
 | []=>true
 |d::ds=>noL d&&noLs ds
end
mutual
def noX:D->Bool
 |.tup ds=>noXs ds
 |.lst ds=>noXs ds
 |.exc _=>false
 |_=>true
def noXs:List D->Bool
 | []=>true
 |d::ds=>noX d&&noXs ds
end
mutual
theorem qkB:∀{d:D},(zF d).showable=true->noX d=true
 |.non,_=>rfl
 |.bl _,_=>rfl
 |.int _,_=>rfl
 |.str _,_=>rfl
 |.tup ds,h=>by unfold noX;exact noXs_sh (by simpa [zF,yc9] using h)
 |.lst ds,h=>by unfold noX;exact noXs_sh (by simpa [zF,yc9] using h)
 |.dic _,_=>rfl
 |.fz _,_=>rfl
 |.exc _,h=>by
  have e:(PyData.dict [(.int (2 ^ 2000),.none)]).showable=false:=by decide +kernel
  rw[show zF (.exc _)=PyData.dict [(.int (2 ^ 2000),.none)]from rfl,e]at h
  cases h
theorem noXs_sh:∀{ds:List D},yb8 (toPDs ds)=true->noXs ds=true
 | [],_=>rfl
 |d::ds,h=>by
  have h':(zF d).showable=true/\yb8 (toPDs ds)=true:=by simpa [toPDs,yb8] using h
  unfold noXs
  rw[qkB h'.1,noXs_sh h'.2];rfl
end
mutual
theorem qhI:∀{d:D},(zF d).canLay0=true->noX d=true
 |.non,_=>rfl
 |.bl _,_=>rfl
 |.int _,_=>rfl
 |.str _,_=>rfl
 |.tup ds,h=>by unfold noX;exact noXs_lay (by simpa [zF,ya6] using h)
 |.lst ds,h=>by unfold noX;exact noXs_lay (by simpa [zF,ya6] using h)
 |.dic _,_=>rfl
 |.fz _,_=>rfl
 |.exc _,h=>by simp[zF,ya6]at h
theorem noXs_lay:∀{ds:List D},yaM (toPDs ds)=true->noXs ds=true
 | [],_=>rfl
 |d::ds,h=>by
  have h':(zF d).canLay0=true/\yaM (toPDs ds)=true:=by simpa [toPDs,yaM] using h
  unfold noXs
  rw[qhI h'.1,noXs_lay h'.2];rfl
end
theorem wM {h:Heap}:∀{ns:List Int}{us:List Value},zt (ns.map V.int) us->∃as,yfL h us (ns.map .int) as
 | [],us,r=>by
  rw[ybJ]at r;cases r;exact⟨[],.nil⟩
 | n::ns,us,r=>by
  rw[mC_]at r
  cases r with
  |cons r1 r2=>
   obtain⟨t,e⟩:=r1
   subst e
   obtain⟨as,q⟩:=wM (ns:=ns) r2
   exact⟨[]++as,.cons (.int n t) q⟩
theorem qeG{α:Type}{x:α}{l l':List α}(h1:x ∉ l)(h2:x ∉ l'):x ∉ l++l':=λh=>(mA_.mp h).elim h1 h2
theorem qbl {P:yas} {w:World} {h:Heap}:∀{kvs:List (Key×Int)}{es:List DictEntry}{vs:List (Key×Value)},KV (kvs.map λp=>(p.1,V.int p.2)) vs->Pairs (qaX P w) es vs ->
  yfL h (es.map (·.key)) ((kvs.map λp=>(qjw p.1,PyData.int p.2)).map (·.1)) []/\yfL h (es.map (·.val)) ((kvs.map λp=>(qjw p.1,PyData.int p.2)).map (·.2)) []
 | [],es,vs,r,p=>by
  have r':KV ([]:List (Key×V)) vs:=r
  unfold KV at r'
  cases r'
  cases p
  exact⟨.nil,.nil⟩
 | (k,i)::kvs,es,vs,r,p=>by
  have r':KV ((k,V.int i)::kvs.map λp=>(p.1,V.int p.2)) vs:=r
  unfold KV at r'
  cases r' with
  | cons r1 r2=>
   cases p with
   | cons p1 p2 p3=>
    obtain⟨q1,q2⟩:=qbl (h:=h) (kvs:=kvs) r2 p3
    obtain⟨e1,t,e2⟩:=r1
    have hk:∀{e:DictEntry}{kv:Key×Value},k=kv.1->(qaX P w).is kv.1 e.key=true->Reads h e.key (qjw k) []:=λ{e kv} hk hi=>by
     subst hk
     rcases zR hi with⟨i,t,e1,e2⟩|⟨x,t,e1,e2⟩
     ·rw[e1,e2];exact .int i t
     ·rw[e1,e2];exact .str x t
    refine⟨.cons (as:=[]) (bs:=[]) (hk e1 p1) q1,.cons (as:=[]) (bs:=[]) ?_ q2⟩
    show Reads h _ (.int i) []
    dsimp only
    rw[p2,e2]
    exact .int i t
section
variable{X:Cx}{pins:List (Addr×Obj)}{σ:St}{H:Hp}{s:yab}{A:Addr->Prop}
mutual
theorem uB (I:Inv X pins σ H s):∀{d:D}{v:V}{u:Value},noX d=true->Is X.K A H d v->jG v u->∃as,Reads s.heap u (zF d) as/\(noL d=true->ycj ∉ as)
 |.non,_,_,_,h,r=>by cases h;cases r;exact⟨[],.none,by simp⟩
 |.bl b,_,_,_,h,r=>by cases h;cases r;exact⟨[],.bool b,by simp⟩
 |.int i,_,_,_,h,r=>by cases h;obtain⟨t,rfl⟩:=r;exact⟨[],.int i t,by simp⟩
 |.str x,_,_,_,h,r=>by cases h;obtain⟨t,rfl⟩:=r;exact⟨[],.str x t,by simp⟩
 |.tup ds,_,_,nx,⟨a,xs,hv,ta,il⟩,r=>by
  subst hv
  cases r
  obtain⟨its,rv,p,_⟩:=I.tuple ta.sq
  obtain⟨o,h1,h2,n,h3⟩:=p
  obtain⟨as,q,nl⟩:=readsL_of I (by simpa [noX] using nx) il rv
  exact⟨as,.tuple h1 h2 h3 (by simpa using q),λz=>nl (by simpa [noL] using z)⟩
 |.lst ds,_,_,nx,⟨a,xs,hv,_,ta,il⟩,r=>by
  subst hv
  cases r
  obtain⟨its,rv,p,_⟩:=I.list (SqL.of ta)
  obtain⟨o,h1,h2,n,h3⟩:=p.isList
  obtain⟨as,q,nl⟩:=readsL_of I (by simpa [noX] using nx) il rv
  exact⟨a::as,.list h1 h2 h3 (by simpa using q),λz=>by simp[noL]at z⟩
 |.dic kvs,_,_,_,⟨a,hv,_,ta⟩,r=>by
  subst hv
  cases r
  obtain⟨hz,hS,vs,rk,o,es,ep,h1,h2,h3,h4,h5,h6⟩:=(show yU X.prog X.w H s.heap a (.dK _)from I.hok a _ ta)
  obtain⟨q1,q2⟩:=qbl (h:=s.heap) rk h5
  refine⟨_,Reads.dict (as:=[]) (bs:=[]) h1 h2.1 h3 q1 q2,λ_ hm=>?_⟩
  have:ycj=a:=by simpa using hm
  rw[<-this]at hS
  simp at hS
 |.exc _,_,_,nx,_,_=>by simp[noX]at nx
 |.fz ns,_,_,_,⟨a,hv,ta⟩,r=>by
  subst hv
  cases r
  obtain⟨its,rv,p,_⟩:=I.list ta.sq
  obtain⟨o,h1,h2,n,h3⟩:=p.isList
  obtain⟨as,q⟩:=wM rv
  exact⟨a::as,.list h1 h2 h3 (by simpa using q),λz=>by simp[noL]at z⟩
theorem readsL_of (I:Inv X pins σ H s):∀{ds:List D}{xs:List V}{us:List Value},noXs ds=true->IsL X.K A H ds xs->zt xs us->∃as,yfL s.heap us (toPDs ds) as/\(noLs ds=true->ycj ∉ as)
 | [],_,_,_,h,r=>by cases h;cases r;exact⟨[],.nil,by simp⟩
 | d :: ds,_,_,nx,⟨x,ys,hx,h1,h2⟩,r=>by
  subst hx
  cases r with
  | cons r1 r2=>
   have nx':noX d=true/\noXs ds=true:=by simpa [noXs] using nx
   obtain⟨as,q1,n1⟩:=uB I nx'.1 h1 r1
   obtain⟨bs,q2,n2⟩:=readsL_of I nx'.2 h2 r2
   exact ⟨as++bs,.cons q1 q2,λz=>by
    have z':noL d=true/\noLs ds=true:=by simpa [noLs] using z
    exact qeG (n1 z'.1) (n2 z'.2)⟩
end
end
def qcf(d:D):Bool:=(zF d).showable&&decide ((zF d).shown.length<=yat)&&decide ((zF d).depth<=50)&&(!(zF d).hasDict||noL d)
def qnO(K:Fr0):List V->Hp->VK->Prop:=λxs H Q=>∃v d A,xs=[v]/\Is K A H d v/\qcf d=true/\Q (.str (zF d).shown) H
section
variable{X:Cx}
theorem yZ {k:Nat} (hr:yz k X.A):yK X (.builtin "repr") (qnO X.K):=by
 intro pins s σ H xs us Q I r h
 obtain⟨v,d,A,rfl,hi,ok,q⟩:=h
 obtain⟨u,rfl,ru⟩:=zt.one r
 unfold qcf at ok
 simp only[yag,decide_eq_true_eq]at ok
 obtain⟨⟨⟨o1,o2⟩,o3⟩,o4⟩:=ok
 obtain⟨as,rd,nl⟩:=uB I (qkB o1) hi ru
 have hun:=hr.un
 have big:∀a,u=.ref a->wpAny (model X.prog X.w) X.A (call (.builtin "repr") [u]) (EP X pins σ Q) X.xe s:=λa e=>by
  subst e
  refine repr_of_reads' rd o1 (λhd=>nl ?_) hr.gd (by omega) (λ_ _ e=>e) (λh' u tk hk=>⟨.str _,H,I.kept hk,⟨_,rfl⟩,q⟩) o2
  rw[hd]at o4
  simpa using o4
 cases d with
 |non=>cases hi;cases ru;exact PySem.P.repr_of_none ⟨.str _,H,I.tok _,⟨_,rfl⟩,q⟩
 |bl b=>cases hi;cases ru;exact PySem.P.repr_of_bool ⟨.str _,H,I.tok _,⟨s.toks,by cases b<;>rfl⟩,q⟩
 |int i=>
  cases hi;obtain⟨t,rfl⟩:=ru
  exact PySem.P.repr_of_int (of_decide_eq_true o1) ⟨.str _,H,I.tok _,⟨_,rfl⟩,q⟩
 |str x=>cases hi;obtain⟨t,rfl⟩:=ru;exact PySem.P.repr_of_str ⟨.str _,H,I.tok _,⟨_,rfl⟩,q⟩ o2
 |tup ds=>obtain⟨a,zs,rfl,_⟩:=hi;exact big a ru
 |lst ds=>obtain⟨a,zs,rfl,_⟩:=hi;exact big a ru
 |dic kvs=>obtain⟨a,rfl,_⟩:=hi;exact big a ru
 |fz ns=>obtain⟨a,rfl,_⟩:=hi;exact big a ru
 |exc C=>obtain⟨a,rfl,_⟩:=hi;exact big a ru
end
def zj:List D->OD
 | [d]=>if qcf d then some (.str (zF d).shown)else none
 |_=>none
theorem y7 {K:Fr0}:wH K zj (qnO K):=by
 intro A H xs d vs Q hn h e k
 unfold zj at e
 split at e
 ·rename_i d0
  obtain⟨v,rfl,e2⟩:=IsL.inv1 h
  obtain⟨e6,e7⟩:=z0 e
  subst e7
  exact⟨v,d0,A,rfl,e2,e6,k _ H (zZ.refl H) rfl⟩
 ·cases e
def v7(d:D):Bool:=(zF d).canLay0&&decide ((zF d).depth<=50)
def qkC(K:Fr0)(neg:Bool):R2:=λx y H Q=>∃d e A,Is K A H d x/\Is K A H e y/\v7 d=true/\v7 e=true/\Q (.bl (if neg then !ybf (zF d) (zF e)else ybf (zF d) (zF e))) H
section
variable{X:Cx}
theorem qcK {d:D} (h:v7 d=true):SeqAt.shaped (zF d)=true:=by
 unfold v7 at h
 unfold SeqAt.shaped
 simp only[yag,decide_eq_true_eq]at h |-
 exact⟨h.1,by omega⟩
theorem qcg {d:D} (h:v7 d=true):noX d=true:=by
 unfold v7 at h
 rw[yag]at h
 exact qhI h.1
theorem qnP {k:Nat} (hr:yz k X.A):OpR X (yaP .Eq) (qkC X.K false):=by
 intro pins s σ H x y v u Q I rx ry h
 obtain⟨d,e,A,h1,h2,o1,o2,q⟩:=h
 obtain⟨as,r1,_⟩:=uB I (qcg o1) h1 rx
 obtain⟨bs,r2,_⟩:=uB I (qcg o2) h2 ry
 exact SeqAt.compareEq_shaped r1 r2 (qcK o1) (qcK o2) hr.units ⟨.bl _,H,I,rfl,by simpa using q⟩
theorem qkD {k:Nat} (hr:yz k X.A):OpR X (yaP .NotEq) (qkC X.K true):=by
 intro pins s σ H x y v u Q I rx ry h
 obtain⟨d,e,A,h1,h2,o1,o2,q⟩:=h
 obtain⟨as,r1,_⟩:=uB I (qcg o1) h1 rx
 obtain⟨bs,r2,_⟩:=uB I (qcg o2) h2 ry
 exact SeqAt.compareNe_shaped r1 r2 (qcK o1) (qcK o2) hr.units ⟨.bl _,H,I,rfl,by simpa using q⟩
end
def eqA(x y:D):OD:=if v7 x&&v7 y then some (.bl (ybf (zF x) (zF y)))else none
def neA(x y:D):OD:=if v7 x&&v7 y then some (.bl (!ybf (zF x) (zF y)))else none
theorem qlQ {K:Fr0}:OpS K eqA (qkC K false):=by
 intro A H x y d v u Q hn ix iy e k
 obtain⟨e1,e2⟩:=z0 e
 rw[yag]at e1
 subst e2
 exact⟨x,y,A,ix,iy,e1.1,e1.2,k _ H (zZ.refl H) rfl⟩
theorem qlR {K:Fr0}:OpS K neA (qkC K true):=by
 intro A H x y d v u Q hn ix iy e k
 obtain⟨e1,e2⟩:=z0 e
 rw[yag]at e1
 subst e2
 exact⟨x,y,A,ix,iy,e1.1,e1.2,k _ H (zZ.refl H) rfl⟩
section
variable{X:Cx}{c:Fc}{a b e:Expr}{pos:Pos}
def qkE (i:Nat) (g:M D):M D:=λZ=>match zM i Z with
 |none => .bad
 |some _=>(bnd g λy Z=>match zM i Z with
  |none => .bad
  |some ds=>lift (neA (.lst ds) y) Z) Z
theorem qnQ {i k:Nat} {x:Str} {p1:Pos} {g:M D} (hr:yz k X.A) (hb:DE X c b g) (ho:i∈c.O:=by exact of_decide_eq_true rfl) (hN:X.N[i]? = some x:=by rfl) (hv:Vis X.env.scope x:=by first|exact ya4 rfl|exact yaI (ya4 rfl)|exact yaI (yaI rfl)) (hd:(x==("__debug__":Str))=false:=by decide) (hcd:(x==("__classdict__":Str))=false:=by decide) :
  DT X c (.Compare (.Name x p1) [.NotEq] [b] pos) (tst (qkE i g)):=by
 obtain⟨tb,pb,wb⟩:=hb
 refine⟨_,qhh (qkD hr) (uH hN hv hd hcd) pb (zb _),λZ σ H Q r h=>?_⟩
 unfold tst qkE bnd at h
 cases e0:zM i Z with
 |none=>simp only[e0]at h;exact h.elim
 | some ds0=>
  simp only[e0]at h
  obtain⟨l,xs0,_,hl,hH,_⟩:=r.getLO ho e0
  refine⟨.ref l,hl,wb Z σ H _ r ?_⟩
  cases eg:g Z with
  |bad=>simp only[eg]at h;exact h
  |exc z Z'=>simp only[eg]at h;exact h
  | ok q=>
   obtain⟨y,Z1⟩:=q
   simp only[eg]at h
   intro u H1 r1 i1 g1
   cases e1:zM i Z1 with
   |none=>simp only[e1]at h;exact h.elim
   | some ds=>
    simp only[e1]at h
    cases en:neA (.lst ds) y with
    |none=>simp only[en,lift]at h;exact h.elim
    |some d=>
     simp only[en,lift,ret]at h
     obtain⟨e3,e4⟩:=z0 en
     rw[yag]at e3
     subst e4
     obtain⟨l',xs,him,hl',hH',il⟩:=r1.getLO ho e1
     rw[hl]at hl'
     cases hl'
     refine⟨.lst ds,y,λ_=>True,⟨l,xs,rfl,trivial,hH',IsL.ext Ext.refl (λ_ h _=>trivial) il⟩,Is.ext Ext.refl (λ_ _ _=>trivial) i1,e3.1,e3.2,_,rfl,?_⟩
     exact h H1 r1 g1
end
section
variable{prog:yas}{w:World}{A:yav}{E:Value->yab->Prop}{s:yab}
theorem qlS {it tu:Addr} {k:Nat} {arr:Array Value} {x:Value} {Q:Value->yab->Prop} (hI:s.heap.IsTupleIter it tu k) (hT:s.heap.IsTuple tu arr) (hx:arr[k]? = some x)
  (q:∀h',h'.IsTupleIter it tu (k+1)->ycd it s.heap h'->Q x {s with heap:=h' }):wpAny (model prog w) A (yaX (.ref it)) Q E s:=by
 obtain⟨ob,e1,e2,e3⟩:=id hI
 obtain⟨ot,f1,_,m,f2⟩:=hT
 unfold yaX
 refine yaa (wpAny_callSpecial?_slot (name:=ybl "__next__") hI.typeIs ybR (ybv ybR hI.typeIs ydv ?_ (ydn _)))
 show wpAny (model prog w) _ (field (yaq it) 0 >>= _) _ _ s
 refine yaa (yaJ e1 e3 (x:=yaq tu) rfl ?_)
 show wpAny (model prog w) _ (if(yaq tu==yaG)=true then _ else _) _ _ s
 rw[if_neg (show ¬((yaq tu==yaG)=true)from yam)]
 show wpAny (model prog w) _ (field (yaq it) 1 >>= _) _ _ s
 refine yaa (yaJ e1 e3 (x:=yb2 k 0) rfl ?_)
 show wpAny (model prog w) _ (seqItems? (yaq tu) >>= _) _ _ s
 refine yaa (ybG f1 f2 ?_)
 simp only[ybD,hx]
 refine yaa (ycG e1 e3 (by simp) (yah ⟨x,rfl,yah (q _ ?_ (ybi ..))⟩))
 exact⟨_,Heap.get?_update_self _ e1 (yc3 (ybK e3 _)),(yfy ..).trans e2,by rw[ybK e3];simp[ycp]⟩
theorem qlT {it tu:Addr} {k:Nat} {arr:Array Value} {Q:Value->yab->Prop} (hh:A.handled=none) (hI:s.heap.IsTupleIter it tu k) (hT:s.heap.IsTuple tu arr) (hx:arr[k]? = none)
  (q:∀h' e,Heap.ExtBut it s.heap h'->(∃o,h'.get? e=some o/\o.cls=.type "StopIteration")->E (.ref e) {s with heap:=h' }):wpAny (model prog w) A (yaX (.ref it)) Q E s:=by
 obtain⟨ob,e1,e2,e3⟩:=id hI
 obtain⟨ot,f1,_,m,f2⟩:=hT
 unfold yaX
 refine yaa (wpAny_callSpecial?_slot (name:=ybl "__next__") hI.typeIs ybR (ybv ybR hI.typeIs ydv ?_ (ydn _)))
 show wpAny (model prog w) _ (field (yaq it) 0 >>= _) _ _ s
 refine yaa (yaJ e1 e3 (x:=yaq tu) rfl ?_)
 show wpAny (model prog w) _ (if(yaq tu==yaG)=true then _ else _) _ _ s
 rw[if_neg (show ¬((yaq tu==yaG)=true)from yam)]
 show wpAny (model prog w) _ (field (yaq it) 1 >>= _) _ _ s
 refine yaa (yaJ e1 e3 (x:=yb2 k 0) rfl ?_)
 show wpAny (model prog w) _ (seqItems? (yaq tu) >>= _) _ _ s
 refine yaa (ybG f1 f2 ?_)
 simp only[ybD,hx]
 refine yaa (yc5 (yaa (ycG e1 e3 (by simp) ?_)))
 show wpAny (model prog w) _ (newExc (yeD "StopIteration") [] >>= _) _ _ _
 refine yaa ?_
 simp only[newExc,newTuple]
 refine yaa (yaL ?_ (by size_fits))
 refine yaa (m:=firstArgMember _ _) (wpAny_of_eq (a:=yaG) (by first|rfl|(simp only[firstArgMember];rfl)) ?_)
 refine yaL ?_ (by size_fits)
 simp only[raiseNew]
 refine yaa (wpAny_handled ?_)
 first|rw[show A.in1.handled=none from hh]|rw[hh]
 exact yaa (yah (wpAny_throw (q _ _ (((ybi ..).extBut.push _).push _) ⟨_,Heap.get?_push_size _ rfl,rfl⟩)))
end
theorem qaU {prog:yas} {w:World} {A:yav} (hh:A.handled=none) (it tu:Addr) (hne:tu≠it) (arr:Array Value) :
  Draws prog w A it [it,tu] arr.size (λi x=>arr[i]? = some x) (λi h=>h.IsTupleIter it tu i/\h.IsTuple tu arr) where
 live:=λi h st=>by obtain⟨⟨o,e,_⟩,_⟩:=st;exact⟨o,e⟩
 frame:=λi h h' st k=>by
  obtain⟨h1,o,e,r⟩:=st
  exact⟨h1.at λo q=>k it (by simp) o q,o,k tu (by simp) o e,r⟩
 item:=λi s Q E hi st q=>qlS st.1 st.2 (Array.getElem?_eq_getElem hi) λh' h1 sb=>q _ h' s.toks (Array.getElem?_eq_getElem hi) ⟨h1,by
  obtain⟨o,e,r⟩:=st.2
  exact⟨o,sb.extBut _ _ hne e,r⟩⟩ sb
 done:=λs Q E st q=>qlT hh st.1 st.2 (Array.getElem?_eq_none (yad _)) q
structure ZAp (z TI TO i1 i2:Addr) (fp1 fp2:List Addr):Prop where
 zTI:z≠TI
 zTO:z≠TO
 zi1:z≠i1
 zi2:z≠i2
 IO:TI≠TO
 Ii1:TI≠i1
 Ii2:TI≠i2
 Oi1:TO≠i1
 Oi2:TO≠i2
 ii:i1≠i2
 z1:z ∉ fp1
 z2:z ∉ fp2
 O1:TO ∉ fp1
 O2:TO ∉ fp2
 i21:i2 ∉ fp1
 i12:i1 ∉ fp2
section
variable{prog:yas}{w:World}{A:yav}{E:Value->yab->Prop}{s:yab}{z TI TO i1 i2:Addr}{fp1 fp2:List Addr}{n1 n2 k:Nat}{P1 P2:Nat->Value->Prop}{S1 S2:Nat->Heap->Prop}
theorem yM{fp:List Addr}{a:Addr}{h h':Heap}(sb:ycd a h h')(ha:a ∉ fp):∀b∈fp,∀o,h.get? b=some o->h'.get? b=some o:=λb hb o e=>sb.extBut _ _ (λq=>ha (q▸hb)) e
theorem qnR (D1:Draws prog w A i1 fp1 n1 P1 S1) (D2:Draws prog w A i2 fp2 n2 P2 S2) (ap:ZAp z TI TO i1 i2 fp1 fp2) {p q:Value} (zz:IsZip s.heap z TI TO .none) (zI:ybY s.heap TI (.ref i1) (.ref i2)) (zO:ybY s.heap TO p q)
  (t1:S1 k s.heap) (t2:S2 k s.heap) (l1:k<n1) (l2:k<n2) {Q:Value->yab->Prop}
  (fin:∀x y h' tk,P1 k x->P2 k y->IsZip h' z TI TO (ycp s.heap.objs.size)->ybY h' TO x y->S1 (k+1) h'->S2 (k+1) h'->ybY h' s.heap.objs.size x y ->
   (∀c o,c≠z->c≠TO->c≠i1->c≠i2->s.heap.get? c=some o->h'.get? c=some o)->Q (.ref s.heap.objs.size) {s with heap:=h',toks:=tk}) :
  wpAny (model prog w) A (ych.«zip.__next__» ⟨[.ref z],[]⟩) (λr s'=>∃v,r=.done (.ret v)/\Q v s') E s:=by
 show wpAny (model prog w) A (field (yaq z) 2 >>= _) _ _ _
 refine yaa (yaJ zz rfl (x:=ybd false) rfl ?_)
 show wpAny (model prog w) A (field (yaq z) 3 >>= _) _ _ _
 refine yaa (yaJ zz rfl (x:=yaq TI) rfl (yaa (ybG zI rfl ?_)))
 show wpAny (model prog w) A (ybp (yaq z) >>= _) _ _ _
 refine yaa ?_
 unfold ybp
 refine yaa (yaJ zz rfl (x:=yaG) rfl (yah ?_))
 simp only[if_true]
 refine yaa (yc5 (yaa (yaJ zz rfl (x:=yaq TO) rfl (yaa (ybL zz (by simp) λh1 zz1 b1=>?_)))))
 replace zz1:IsZip h1 z TI TO .ellipsis:=zz1
 refine yaa ?_
 simp only[List.zipIdx_cons,List.zipIdx_nil,yef,List.forIn_nil]
 refine yaa (yaa (ydG ?_))
 show wpAny (model prog w) A (yaX (yaq i1) >>= _) _ _ _
 refine yaa (D1.item k _ _ _ l1 (D1.frame _ _ _ t1 (yM b1 ap.z1)) λx h2 tk2 px u1 b2=>yah ?_)
 have zO2:ybY h2 TO p q:=b2.extBut _ _ ap.Oi1 (b1.extBut _ _ ap.zTO.symm zO)
 refine yaa (ybG zO2 rfl (yaa (yda zO2 λh3 zO3 b3=>?_)))
 replace zO3:ybY h3 TO x q:=zO3
 refine yaa (yem (yah (yaa (yaa (ydG ?_)))))
 show wpAny (model prog w) A (yaX (yaq i2) >>= _) _ _ _
 have t2':S2 k h3:=D2.frame _ _ _ (D2.frame _ _ _ (D2.frame _ _ _ t2 (yM b1 ap.z2)) (yM b2 ap.i12)) (yM b3 ap.O2)
 refine yaa (D2.item k _ _ _ l2 t2' λy h4 tk4 py u2 b4=>yah ?_)
 have zO4:ybY h4 TO x q:=b4.extBut _ _ ap.Oi2 zO3
 refine yaa (ybG zO4 rfl (yaa (yda zO4 λh5 zO5 b5=>?_)))
 replace zO5:ybY h5 TO x y:=zO5
 refine yaa (yem (yah (yah (yaa (ybG zO5 rfl (yaa (yew ?_)))))))
 have sz:h5.objs.size=s.heap.objs.size:=by rw[b5.1,b4.1,b3.1,b2.1,b1.1]
 have zz5:IsZip h5 z TI TO .ellipsis:=b5.extBut _ _ ap.zTO (b4.extBut _ _ ap.zi2 (b3.extBut _ _ ap.zTO (b2.extBut _ _ ap.zi1 zz1)))
 have keep5:∀c o,c≠z->c≠TO->c≠i1->c≠i2->s.heap.get? c=some o->h5.get? c=some o:=λc o c1 c2 c3 c4 e=>b5.extBut _ _ c2 (b4.extBut _ _ c4 (b3.extBut _ _ c2 (b2.extBut _ _ c3 (b1.extBut _ _ c1 e))))
 have v1:S1 (k+1) h5:=D1.frame _ _ _ (D1.frame _ _ _ (D1.frame _ _ _ u1 (yM b3 ap.O1)) (yM b4 ap.i21)) (yM b5 ap.O1)
 have v2:S2 (k+1) h5:=D2.frame _ _ _ u2 (yM b5 ap.O2)
 have lz:z<h5.objs.size:=yai zz5
 show wpAny (model prog w) A (ycF (yaq z) (yaq h5.objs.size) >>= _) _ _ _
 refine yaa ?_
 unfold ycF
 have zz6:IsZip (h5.push {cls:=.type "tuple",data:=.seq #[x,y]}) z TI TO .ellipsis:=Heap.get?_push_of_some _ zz5
 refine yaa (ybL zz6 (by simp) λh7 zz7 b7=>?_)
 replace zz7:IsZip h7 z TI TO (ycp h5.objs.size):=zz7
 refine ybL zz7 (by simp) λh8 zz8 b8=>?_
 replace zz8:IsZip h8 z TI TO (ycp h5.objs.size):=zz8
 have up:∀c o,c≠z->h5.get? c=some o->h8.get? c=some o:=λc o c1 e=>b8.extBut _ _ c1 (b7.extBut _ _ c1 (Heap.get?_push_of_some _ e))
 have new8:ybY h8 h5.objs.size x y:=b8.extBut _ _ (ycB lz) (b7.extBut _ _ (ycB lz) (Heap.get?_push_size _ rfl))
 rw[sz]at zz8 new8
 refine yah ⟨_,rfl,?_⟩
 show Q (yaq h5.objs.size) _
 rw[sz]
 exact fin x y h8 tk4 px py zz8 (up _ _ ap.zTO.symm zO5) (D1.frame _ _ _ v1 λb hb o e=>up b o (λq=>ap.z1 (q▸hb)) e) (D2.frame _ _ _ v2 λb hb o e=>up b o (λq=>ap.z2 (q▸hb)) e) new8 λc o c1 c2 c3 c4 e=>up c o c1 (keep5 c o c1 c2 c3 c4 e)
theorem qjx (hh:A.handled=none) (D1:Draws prog w A i1 fp1 n1 P1 S1) (D2:Draws prog w A i2 fp2 n2 P2 S2) (ap:ZAp z TI TO i1 i2 fp1 fp2) {p q:Value} (zz:IsZip s.heap z TI TO .none) (zI:ybY s.heap TI (.ref i1) (.ref i2)) (zO:ybY s.heap TO p q)
  (t1:S1 k s.heap) (t2:S2 k s.heap) (hk:k=min n1 n2) {Q:Fin->yab->Prop}
  (fin:∀h' tk e,(∀c o,c≠z->c≠TO->c≠i1->c≠i2->s.heap.get? c=some o->h'.get? c=some o)->(∃o,h'.get? e=some o/\o.cls=.type "StopIteration")->E (.ref e) {s with heap:=h',toks:=tk}) :
  wpAny (model prog w) A (ych.«zip.__next__» ⟨[.ref z],[]⟩) Q E s:=by
 show wpAny (model prog w) A (field (yaq z) 2 >>= _) _ _ _
 refine yaa (yaJ zz rfl (x:=ybd false) rfl ?_)
 show wpAny (model prog w) A (field (yaq z) 3 >>= _) _ _ _
 refine yaa (yaJ zz rfl (x:=yaq TI) rfl (yaa (ybG zI rfl ?_)))
 show wpAny (model prog w) A (ybp (yaq z) >>= _) _ _ _
 refine yaa ?_
 unfold ybp
 refine yaa (yaJ zz rfl (x:=yaG) rfl (yah ?_))
 simp only[if_true]
 refine yaa (yc5 (yaa (yaJ zz rfl (x:=yaq TO) rfl (yaa (ybL zz (by simp) λh1 zz1 b1=>?_)))))
 replace zz1:IsZip h1 z TI TO .ellipsis:=zz1
 refine yaa ?_
 simp only[List.zipIdx_cons,List.zipIdx_nil,yef,List.forIn_nil]
 refine yaa (yaa (ydG ?_))
 show wpAny (model prog w) A (yaX (yaq i1) >>= _) _ _ _
 have t1':S1 k h1:=D1.frame _ _ _ t1 (yM b1 ap.z1)
 by_cases h12:n1<=n2
 ·have e1:k=n1:=by rw[hk];exact ydb h12
  rw[e1]at t1'
  refine yaa (D1.done _ _ _ t1' λh2 e b2 he=>?_)
  obtain⟨oe,f1,f2⟩:=he
  have zz2:IsZip h2 z TI TO .ellipsis:=b2 _ _ ap.zi1 zz1
  have ez:e≠z:=λx=>by subst x;rw[zz2]at f1;cases f1;simp at f2
  refine ybL zz2 (by simp) λh3 _ b3=>?_
  exact fin h3 s.toks e (λc o c1 _ c3 _ x=>b3.extBut _ _ c1 (b2 _ _ c3 (b1.extBut _ _ c1 x))) ⟨oe,b3.extBut _ _ ez f1,f2⟩
 ·have e1:k=n2:=by rw[hk];exact Nat.min_eq_right (by omega)
  refine yaa (D1.item k _ _ _ (by omega) t1' λx h2 tk2 px u1 b2=>yah ?_)
  have zO2:ybY h2 TO p q:=b2.extBut _ _ ap.Oi1 (b1.extBut _ _ ap.zTO.symm zO)
  refine yaa (ybG zO2 rfl (yaa (yda zO2 λh3 zO3 b3=>?_)))
  refine yaa (yem (yah (yaa (yaa (ydG ?_)))))
  show wpAny (model prog w) A (yaX (yaq i2) >>= _) _ _ _
  have t2':S2 k h3:=D2.frame _ _ _ (D2.frame _ _ _ (D2.frame _ _ _ t2 (yM b1 ap.z2)) (yM b2 ap.i12)) (yM b3 ap.O2)
  rw[e1]at t2'
  refine yaa (D2.done _ _ _ t2' λh4 e b4 he=>?_)
  obtain⟨oe,f1,f2⟩:=he
  have zz4:IsZip h4 z TI TO .ellipsis:=b4 _ _ ap.zi2 (b3.extBut _ _ ap.zTO (b2.extBut _ _ ap.zi1 zz1))
  have ez:e≠z:=λx=>by subst x;rw[zz4]at f1;cases f1;simp at f2
  refine ybL zz4 (by simp) λh5 _ b5=>?_
  exact fin h5 tk2 e (λc o c1 c2 c3 c4 x=>b5.extBut _ _ c1 (b4 _ _ c4 (b3.extBut _ _ c2 (b2.extBut _ _ c3 (b1.extBut _ _ c1 x))))) ⟨oe,b5.extBut _ _ ez f1,f2⟩
theorem qjy {l1 l2:Addr} {xs ys:Array Value} {Q:Value->yab->Prop} (t1:s.heap.IsTuple l1 xs) (t2:s.heap.IsTuple l2 ys)
  (fin:∀h',IsZip h' (s.heap.objs.size+4) (s.heap.objs.size+2) (s.heap.objs.size+3) .none->ybY h' (s.heap.objs.size+2) (.ref s.heap.objs.size) (.ref (s.heap.objs.size+1))->ybY h' (s.heap.objs.size+3) .none .none ->
   h'.IsTupleIter s.heap.objs.size l1 0->h'.IsTupleIter (s.heap.objs.size+1) l2 0->(∀c o,s.heap.get? c=some o->h'.get? c=some o)->Q (.ref (s.heap.objs.size+4)) {s with heap:=h' }) :
  wpAny (model prog w) A (call (.type "zip") [.ref l1,.ref l2]) Q E s:=by
 have meets:Meets (ych.«zip.__new__» ⟨[.type "zip",.ref l1,.ref l2],[]⟩) (λ_ R s=>s.heap.IsTuple l1 xs/\s.heap.IsTuple l2 ys /\
   R (.ok (.ret (.ref (s.heap.objs.size+4)))) {s with heap:=((((s.heap.push {cls:=.type "tuple_iterator",data:=.fields #[.ref l1,.int 0 0]}).push {cls:=.type "tuple_iterator",data:=.fields #[.ref l2,.int 0 0]}).push {cls:=.type "tuple",data:=.seq #[.ref s.heap.objs.size,.ref (s.heap.objs.size+1)]}).push {cls:=.type "tuple",data:=.seq #[.none,.none]}).push {cls:=.type "zip",data:=.fields #[.none,.bool false,.bool false,.ref (s.heap.objs.size+2),.ref (s.heap.objs.size+3)]} }) :=
  .of_wp λprog w A R s h=>by
   obtain⟨hp,g,d,tk,os⟩:=s
   obtain⟨ha,hb,h⟩:=h
   have hsub:=sub_zip
   have hA:Heap.IsTuple (Shared.heap ⟨hp,g,d,tk,os⟩) l1 xs:=ha
   have hB:Heap.IsTuple (Shared.heap ⟨hp.push {cls:=.type "tuple_iterator",data:=.fields #[.ref l1,.int 0 0]},g,d,tk,os⟩) l2 ys:=by
    obtain⟨o,e,r⟩:=hb
    exact⟨o,Heap.get?_push_of_some _ e,r⟩
   wp_walk using ydu hA,ydu hB
   simp only[ycH]at *
   exact⟨_,rfl,h⟩
 refine callType_new F.called_zip (by decide) (F.typeCall_zip_2 _ _) (F.newCall_zip_2 _ _) (λobj=>F.args_object_init_3 obj _ _) F.entry_zip_new meets ⟨t1,t2,?_⟩
 generalize e1:s.heap.push {cls:=.type "tuple_iterator",data:=.fields #[.ref l1,.int 0 0]}=m1
 have s1:m1.objs.size=s.heap.objs.size+1:=by rw[<-e1,ycH]
 have q1:m1.get? s.heap.objs.size=some {cls:=.type "tuple_iterator",data:=.fields #[.ref l1,.int 0 0]}:=by rw[<-e1];exact Heap.get?_push_size _ rfl
 have k1:∀c o,s.heap.get? c=some o->m1.get? c=some o:=λc o x=>by rw[<-e1];exact Heap.get?_push_of_some _ x
 generalize e2:m1.push {cls:=.type "tuple_iterator",data:=.fields #[.ref l2,.int 0 0]}=m2
 have s2:m2.objs.size=s.heap.objs.size+2:=by rw[<-e2,ycH,s1]
 have q2:m2.get? (s.heap.objs.size+1)=some {cls:=.type "tuple_iterator",data:=.fields #[.ref l2,.int 0 0]}:=by rw[<-e2,<-s1];exact Heap.get?_push_size _ rfl
 have k2:∀c o,m1.get? c=some o->m2.get? c=some o:=λc o x=>by rw[<-e2];exact Heap.get?_push_of_some _ x
 generalize e3:m2.push {cls:=.type "tuple",data:=.seq #[.ref s.heap.objs.size,.ref (s.heap.objs.size+1)]}=m3
 have s3:m3.objs.size=s.heap.objs.size+3:=by rw[<-e3,ycH,s2]
 have q3:m3.get? (s.heap.objs.size+2)=some {cls:=.type "tuple",data:=.seq #[.ref s.heap.objs.size,.ref (s.heap.objs.size+1)]}:=by rw[<-e3,<-s2];exact Heap.get?_push_size _ rfl
 have k3:∀c o,m2.get? c=some o->m3.get? c=some o:=λc o x=>by rw[<-e3];exact Heap.get?_push_of_some _ x
 generalize e4:m3.push {cls:=.type "tuple",data:=.seq #[.none,.none]}=m4
 have s4:m4.objs.size=s.heap.objs.size+4:=by rw[<-e4,ycH,s3]
 have q4:m4.get? (s.heap.objs.size+3)=some {cls:=.type "tuple",data:=.seq #[.none,.none]}:=by rw[<-e4,<-s3];exact Heap.get?_push_size _ rfl
 have k4:∀c o,m3.get? c=some o->m4.get? c=some o:=λc o x=>by rw[<-e4];exact Heap.get?_push_of_some _ x
 generalize e5:m4.push {cls:=.type "zip",data:=.fields #[.none,.bool false,.bool false,.ref (s.heap.objs.size+2),.ref (s.heap.objs.size+3)]}=m5
 have q5:m5.get? (s.heap.objs.size+4)=some {cls:=.type "zip",data:=.fields #[.none,.bool false,.bool false,.ref (s.heap.objs.size+2),.ref (s.heap.objs.size+3)]}:=by rw[<-e5,<-s4];exact Heap.get?_push_size _ rfl
 have k5:∀c o,m4.get? c=some o->m5.get? c=some o:=λc o x=>by rw[<-e5];exact Heap.get?_push_of_some _ x
 show _/\_
 exact⟨⟨_,q5,rfl⟩,fin m5 q5 (k5 _ _ (k4 _ _ q3)) (k5 _ _ q4) ⟨_,k5 _ _ (k4 _ _ (k3 _ _ (k2 _ _ q1))),rfl,rfl⟩ ⟨_,k5 _ _ (k4 _ _ (k3 _ _ q2)),rfl,rfl⟩ λc o x=>k5 _ _ (k4 _ _ (k3 _ _ (k2 _ _ (k1 _ _ x))))⟩
end
section
variable{X:Cx}{pins:List (Addr×Obj)}{σ:St}{H:Hp}{s:yab}{h':Heap}
theorem qlU {ch:List Addr} {T:Addr} {o:HO} {t':Nat} (I:Inv X pins σ H s) (k:∀b u,b ∉ ch->s.heap.get? b=some u->h'.get? b=some u) (hf:∀b∈ch,qeq X pins H b) (hT:s.heap.objs.size<=T) (new:yU X.prog X.w (upd H T o) h' T o) :
  Inv X pins σ (upd H T o) {s with heap:=h',toks:=t' }:=by
 have hn:H T=none:=I.hok.fresh hT
 have nch:∀b u,H b=some u->b ∉ ch:=λb u e z=>by rw[(hf b z).1]at e;cases e
 refine I.step (g':=s.gens) (d':=s.drawn) (ch:=ch) (λb hb=>⟨(hf b hb).2.2.2.1,(hf b hb).2.1,(hf b hb).2.2.2.2.1,(hf b hb).2.2.2.2.2⟩) (λb u _ _ hc e _=>k b u hc e) (λb u _ _ hc e _=>⟨u.slots,k b u hc e⟩) (λb u hc e n=>?_)
  (λb u hc e=>⟨u,k b u hc e⟩) (λb xs e=>by rw[qw (za e hn)];exact e) (λb u xs e=>by rw[qw (za e hn)];exact e) (λb ps y e=>by rw[qw (za e hn)];exact e) (λm hm=>?_) (λb u e=>?_) I.bare
 ·rw[qw (yar (yay (yai e) hT))];exact n
 ·obtain⟨ob,es,ep,ho,r⟩:=hm
  exact⟨ob,es,ep,k _ ob (λz=>(hf _ z).2.1 rfl) ho,r⟩
 ·by_cases hb:b=T
  ·subst hb;rw[qv]at e;cases e;exact new
  ·rw[qw hb]at e
   refine(I.hok b u e).stay (λc v hc q=>k c v ?_ q) (λc q=>by rw[qw (za q hn)];exact q) (λc xs q=>by rw[qw (za q hn)];exact q) λc ob y q=>by rw[qw (za q hn)];exact q
   rcases hc with z|z
   ·rw[z];exact nch b u e
   ·exact nch c _ z
theorem qlV {ch:List Addr} {t':Nat} (I:Inv X pins σ H s) (k:∀b u,b ∉ ch->s.heap.get? b=some u->h'.get? b=some u) (hf:∀b∈ch,qeq X pins H b):Inv X pins σ H {s with heap:=h',toks:=t' }:=by
 have nch:∀b u,H b=some u->b ∉ ch:=λb u e z=>by rw[(hf b z).1]at e;cases e
 refine I.step (g':=s.gens) (d':=s.drawn) (ch:=ch) (λb hb=>⟨(hf b hb).2.2.2.1,(hf b hb).2.1,(hf b hb).2.2.2.2.1,(hf b hb).2.2.2.2.2⟩) (λb u _ _ hc e _=>k b u hc e) (λb u _ _ hc e _=>⟨u.slots,k b u hc e⟩) (λb u hc e n=>n)
  (λb u hc e=>⟨u,k b u hc e⟩) (λb xs e=>e) (λb u xs e=>e) (λ_ _ _ e=>e) (λm hm=>?_) (λb u e=>?_) I.bare
 ·obtain⟨ob,es,ep,ho,r⟩:=hm
  exact⟨ob,es,ep,k _ ob (λz=>(hf _ z).2.1 rfl) ho,r⟩
 ·refine(I.hok b u e).stay (λc v hc q=>k c v ?_ q) (λc q=>q) λc xs q=>q
  rcases hc with z|z
  ·rw[z];exact nch b u e
  ·exact nch c _ z
end
def Itz (K:Fr0) (a1 a2:Addr) (xs ys:List V):It :=
 ⟨λi H=>i<min xs.length ys.length/\SqT K H a1 xs/\SqT K H a2 ys,λi H x H'=>∃p u v,H p=none/\xs[i]? = some u/\ys[i]? = some v/\x=.ref p/\H'=upd H p (.tup [u,v]),λi H=>i=min xs.length ys.length/\SqT K H a1 xs/\SqT K H a2 ys⟩
def ZSt(z TI TO i1 i2 a1 a2:Addr)(i:Nat)(h:Heap):Prop:=IsZip h z TI TO .none/\ybY h TI (.ref i1) (.ref i2)/\(∃p q,ybY h TO p q)/\h.IsTupleIter i1 a1 i/\h.IsTupleIter i2 a2 i
theorem qjz {P:yas} {w:World} {K:Fr0} {es:List Expr} {kk:Nat} {pos:Pos} {z TI TO i1 i2 a1 a2:Addr} {xs ys:List V} (ap:ZAp z TI TO i1 i2 [i1,a1] [i2,a2]) (n1:a1≠i1) (n2:a2≠i2) :
  qne P w K (.Tuple es kk pos) (Itz K a1 a2 xs ys) [z,TI,TO,i1,i2] z (ZSt z TI TO i1 i2 a1 a2) where
 mem:=by simp
 obj:=λi h st b hb=>by
  obtain⟨h1,h2,⟨p,q,h3⟩,⟨o4,h4,c4,d4⟩,⟨o5,h5,c5,d5⟩⟩:=st
  simp only[yax,nN_,or_false]at hb
  rcases hb with rfl|rfl|rfl|rfl|rfl
  ·exact⟨_,h1,λv e=>by cases (show yfE _=ye4 v from e)⟩
  ·exact⟨_,h2,λv e=>by cases (show Data.seq _ _=ye4 v from e)⟩
  ·exact⟨_,h3,λv e=>by cases (show Data.seq _ _=ye4 v from e)⟩
  ·exact⟨_,h4,λv e=>by rw[d4]at e;cases e⟩
  ·exact⟨_,h5,λv e=>by rw[d5]at e;cases e⟩
 keep:=λi h h' st k=>by
  obtain⟨h1,h2,⟨p,q,h3⟩,h4,h5⟩:=st
  exact⟨k z (by simp) _ h1,k TI (by simp) _ h2,⟨p,q,k TO (by simp) _ h3⟩,h4.at λo e=>k i1 (by simp) o e,h5.at λo e=>k i2 (by simp) o e⟩
 item:=by
  intro X hP hw hK hc i pins s σ H E I hf st hg
  subst hP hw hK
  obtain⟨hlt,hx,hy⟩:=hg
  obtain⟨h1,h2,⟨p,q,h3⟩,h4,h5⟩:=st
  obtain⟨it1,r1,p1,z1⟩:=I.tuple hx
  obtain⟨it2,r2,p2,z2⟩:=I.tuple hy
  have l1:i<it1.toArray.size:=by rw[sT_,<-r1.length];omega
  have l2:i<it2.toArray.size:=by rw[sT_,<-r2.length];omega
  have hT:s.TypeIs (.ref z) "zip":=⟨_,h1,rfl⟩
  have hh:X.A.in1.handled=none:=I.ok.hd hc
  unfold yeq
  refine yaa (yeR (wpAny_callSpecial?_slot (name:=ybl "__next__") hT ydc (ybv ydc hT F.entry_zip_next
   (qnR (qaU hh i1 a1 n1 it1.toArray) (qaU hh i2 a2 n2 it2.toArray) ap h1 h2 h3 ⟨h4,p1⟩ ⟨h5,p2⟩ l1 l2 λx y h' tk px py zz zO u1 u2 new kp=>yah ?_) (yfz _))))
  refine⟨.ref s.heap.objs.size,rfl,wpAny_letOwnedTupleGo_zip zz λh2' zz2 sb=>?_⟩
  obtain⟨xv,hxv⟩:∃v,xs[i]? = some v:=⟨xs[i]'(by omega),gG (by omega)⟩
  obtain⟨yv,hyv⟩:∃v,ys[i]? = some v:=⟨ys[i]'(by omega),gG (by omega)⟩
  obtain⟨x',ex,rx⟩:=r1.get hxv
  obtain⟨y',ey,ry⟩:=r2.get hyv
  have exx:x'=x:=by
   have:it1.toArray[i]? = some x:=px
   rw[List.getElem?_toArray,ex]at this
   exact yaO this
  have eyy:y'=y:=by
   have:it2.toArray[i]? = some y:=py
   rw[List.getElem?_toArray,ey]at this
   exact yaO this
  subst exx eyy
  have lz:z<s.heap.objs.size:=yai h1
  have keep:∀b u,b ∉ [z,TI,TO,i1,i2]->s.heap.get? b=some u->h2'.get? b=some u:=λb u hb e=>by
   simp only[yax,nN_,or_false,not_or]at hb
   exact sb.extBut _ _ hb.1 (kp b u hb.1 hb.2.2.1 hb.2.2.2.1 hb.2.2.2.2 e)
  have I2:Inv X pins σ (upd H s.heap.objs.size (.tup [xv,yv])) {s with heap:=h2',toks:=tk} :=
   qlU I keep hf (yad _) ⟨by show 2<=yat;decide,[x',y'],.cons rx (.cons ry .nil),⟨_,sb.extBut _ _ (ycB lz) new,rfl,_,rfl⟩⟩
  refine⟨.ref s.heap.objs.size,upd H s.heap.objs.size (.tup [xv,yv]),I2,rfl,⟨s.heap.objs.size,xv,yv,I.hok.fresh (yad _),hxv,hyv,rfl,rfl⟩,?_,λb hb=>?_⟩
  ·exact⟨zz2,sb.extBut _ _ ap.zTI.symm (kp _ _ ap.zTI.symm ap.IO ap.Ii1 ap.Ii2 h2),⟨_,_,sb.extBut _ _ ap.zTO.symm zO⟩,u1.1.at λo e=>sb.extBut _ _ ap.zi1.symm e,u2.1.at λo e=>sb.extBut _ _ ap.zi2.symm e⟩
  ·have hb1:b≠s.heap.objs.size:=by
    simp only[yax,nN_,or_false]at hb
    obtain⟨o4,g4,_⟩:=h4
    obtain⟨o5,g5,_⟩:=h5
    rcases hb with rfl|rfl|rfl|rfl|rfl
    ·exact yar (yai h1)
    ·exact yar (yai h2)
    ·exact yar (yai h3)
    ·exact yar (yai g4)
    ·exact yar (yai g5)
   rw[qw hb1]
   exact(hf b hb).1
 done:=by
  intro X hP hw hK hc i pins s σ H E I hf st hg
  subst hP hw hK
  obtain⟨hlt,hx,hy⟩:=hg
  obtain⟨h1,h2,⟨p,q,h3⟩,h4,h5⟩:=st
  obtain⟨it1,r1,p1,z1⟩:=I.tuple hx
  obtain⟨it2,r2,p2,z2⟩:=I.tuple hy
  have hT:s.TypeIs (.ref z) "zip":=⟨_,h1,rfl⟩
  have hh:X.A.in1.handled=none:=I.ok.hd hc
  unfold yeq
  refine yaa (yeR (wpAny_callSpecial?_slot (name:=ybl "__next__") hT ydc (ybv ydc hT F.entry_zip_next
   (qjx hh (qaU hh i1 a1 n1 it1.toArray) (qaU hh i2 a2 n2 it2.toArray) ap h1 h2 h3 ⟨h4,p1⟩ ⟨h5,p2⟩ (by rw[sT_,sT_,<-r1.length,<-r2.length];exact hlt) λh' tk e kp he=>?_) (yfz _))))
  obtain⟨o,ho,hcl⟩:=he
  refine yaa (wpAny_isInstance (T:="StopIteration") (b:=true) ⟨o,ho,hcl⟩ isSubtype_stop (yah ⟨rfl,qlV I (λb u hb e=>?_) hf⟩))
  simp only[yax,nN_,or_false,not_or]at hb
  exact kp b u hb.1 hb.2.2.1 hb.2.2.2.1 hb.2.2.2.2 e
 self:=λA i s Q E st h=>wpAny_pyIter_zip st.1 h
section
variable{X:Cx}{c:Fc}{a b e:Expr}{pos:Pos}{es:List Expr}{kk:Nat}{tp:Pos}
theorem qlW (n l1 l2:Nat) (h1:l1<n) (h2:l2<n):ZAp (n+4) (n+2) (n+3) n (n+1) [n,l1] [n+1,l2]:=by
 refine⟨?_,?_,?_,?_,?_,?_,?_,?_,?_,?_,?_,?_,?_,?_,?_,?_⟩<;>simp only[yax,nN_,or_false,not_or,ne_eq]<;>(unfold Addr at *)<;>omega
def qq0(K:Fr0)(ta:TA):TI:=λσ H R=>ta σ H λvs H1=>∃a1 a2 xs ys,vs=[.ref a1,.ref a2]/\SqT K H1 a1 xs/\SqT K H1 a2 ys/\R (Itz K a1 a2 xs ys) H1
theorem qnS {ta:TA} {p:Pos} (hg:Gl X "zip") (hm:X.mg "zip"=none) (ha:PA X [a,b] ta) (hs:yac [a,b] X.env=[(false,eval a X.env),(false,eval b X.env)]:=by rfl) (hs2:yac [b] X.env=[(false,eval b X.env)]:=by rfl) :
  PI X (.Tuple es kk tp) (.Call (.Name "zip" p) [a,b] [] pos) (qq0 X.K ta):=by
 intro pins s σ H R I h
 refine Call_ (qb8 I hg hm PyProof.Rows.boot_zip (yci (thn (ha pos pins s σ H _ I h) λus s1 ⟨vs,H1,I1,r1,q1⟩=>?_) (by rw[hs,hs2]) (by rw[hs2];rfl)))
 obtain⟨a1,a2,xs,ys,e1,hx,hy,q⟩:=q1
 subst e1
 obtain⟨u1,u2,rfl,ru1,ru2⟩:=zt.two r1
 cases (show u1=yaq a1 from ru1)
 cases (show u2=yaq a2 from ru2)
 obtain⟨it1,v1,p1,z1⟩:=I1.tuple hx
 obtain⟨it2,v2,p2,z2⟩:=I1.tuple hy
 refine qjy (show s1.heap.IsTuple a1 it1.toArray from p1) (show s1.heap.IsTuple a2 it2.toArray from p2) λh' zz zI zO g1 g2 kp=>?_
 refine wpAny_pyIter_zip zz ?_
 have la1:a1<s1.heap.objs.size:=by obtain⟨o,e,_⟩:=p1;exact yai e
 have la2:a2<s1.heap.objs.size:=by obtain⟨o,e,_⟩:=p2;exact yai e
 have ap:ZAp (s1.heap.objs.size+4) (s1.heap.objs.size+2) (s1.heap.objs.size+3) s1.heap.objs.size (s1.heap.objs.size+1) [s1.heap.objs.size,a1] [s1.heap.objs.size+1,a2]:=by
  exact qlW _ _ _ la1 la2
 refine⟨s1.heap.objs.size+4,[s1.heap.objs.size+4,s1.heap.objs.size+2,s1.heap.objs.size+3,s1.heap.objs.size,s1.heap.objs.size+1],_,_,H1,rfl,I1.kept (t':=s1.toks) kp,qjz (xs:=xs) (ys:=ys) ap (yar la1) (yar (ycM la2)),⟨zz,zI,⟨_,_,zO⟩,g1,g2⟩,λb hb=>?_,q⟩
 simp only[yax,nN_,or_false]at hb
 have hb2:s1.heap.objs.size<=b:=by
  rcases hb with e|e|e|e|e<;>rw[e]
  ·exact ycZ _ _
  ·exact ycZ _ _
  ·exact ycZ _ _
  ·exact yad _
  ·exact ycZ _ _
 exact I1.fpOk hb2 (I1.hok.fresh hb2)
def qet:List D->List D->List D
 |x::xs,y::ys => .tup [x,y]::qet xs ys
 |_,_=>[]
theorem qfp:∀{xs ys:List D}{i:Nat}{d:D},(qet xs ys)[i]? = some d->∃x y,xs[i]? = some x/\ys[i]? = some y/\d=.tup [x,y]
 | [],_,_,_,h=>by simp[qet]at h
 |_::_,[],_,_,h=>by simp[qet]at h
 |x::xs,y::ys,0,d,h=>by
  have:D.tup [x,y]=d:=by simpa [qet] using h
  exact⟨x,y,rfl,rfl,this.symm⟩
 |x::xs,y::ys,i+1,d,h=>by
  obtain⟨u,v,h1,h2,h3⟩:=qfp (xs:=xs) (ys:=ys) (i:=i) (d:=d) (by simpa [qet] using h)
  exact⟨u,v,by simpa using h1,by simpa using h2,h3⟩
theorem qcL:∀(xs ys:List D),(qet xs ys).length=min xs.length ys.length
 | [],ys=>by simp[qet]
 |_::_,[]=>by simp[qet]
 |x::xs,y::ys=>by simp[qet,qcL xs ys]
theorem qnT {K:Fr0} {A:Addr->Prop} {H:Hp} {ds es:List D} {xs ys:List V} {a1 a2:Addr} (t1:TupAt K H a1 xs) (t2:TupAt K H a2 ys) (i1:IsL K A H ds xs) (i2:IsL K A H es ys):qky K A H (qet ds es) (Itz K a1 a2 xs ys) where
 go:=λH' i d ex hd=>by
  have hl:i<(qet ds es).length:=(gI_.mp hd).1
  rw[qcL,<-i1.length,<-i2.length]at hl
  exact⟨hl,(t1.elim (λh => .inl (ex.tup _ _ h)) .inr:TupAt K H' a1 xs).sq,(t2.elim (λh => .inl (ex.tup _ _ h)) .inr:TupAt K H' a2 ys).sq⟩
 yl:=λH' i d x H'' ex hd y=>by
  obtain⟨p,u,v,hp,hu,hv,rfl,rfl⟩:=y
  obtain⟨dx,dy,h1,h2,rfl⟩:=qfp hd
  obtain⟨u',g1,g2⟩:=i1.get h1
  obtain⟨v',g3,g4⟩:=i2.get h2
  rw[hu]at g1
  rw[hv]at g3
  cases g1
  cases g3
  have sm:=qu hp (.tup [u,v])
  exact⟨sm,p,[u,v],rfl,.inl qv,u,[v],rfl,Is.ext (Ext.of_same sm) (λ_ h _=>h) (Is.ext ex (λ_ h _=>h) g2),v,[],rfl,Is.ext (Ext.of_same sm) (λ_ h _=>h) (Is.ext ex (λ_ h _=>h) g4),rfl⟩
 stop:=λH' ex=>⟨by rw[qcL,i1.length,i2.length],(t1.elim (λh => .inl (ex.tup _ _ h)) .inr:TupAt K H' a1 xs).sq,(t2.elim (λh => .inl (ex.tup _ _ h)) .inr:TupAt K H' a2 ys).sq⟩
def qnU:List D->Option (List D)
 | [.tup xs,.tup ys]=>some (qet xs ys)
 |_=>none
def qnV(f:M (List D)):M (List D):=bnd f λds=>lift (qnU ds)
theorem qnW {f:M (List D)} {p:Pos} (hg:Gl X "zip") (hm:X.mg "zip"=none) (ha:DA X c [a,b] f) (hs:yac [a,b] X.env=[(false,eval a X.env),(false,eval b X.env)]:=by rfl) (hs2:yac [b] X.env=[(false,eval b X.env)]:=by rfl) :
  DI X c (.Tuple es kk tp) (.Call (.Name "zip" p) [a,b] [] pos) (qnV f):=by
 obtain⟨t,pa,w⟩:=ha
 refine⟨_,qnS hg hm pa hs hs2,λZ σ H Q r h=>w Z σ H _ r (WpL.bndI h λds Z1 vs H1 r1 i1 g1 h1=>?_)⟩
 obtain⟨es',e,h2⟩:=qcI h1
 unfold qnU at e
 split at e
 ·obtain⟨v,u,rfl,j1,j2⟩:=IsL.inv2 i1
  cases e
  obtain⟨a1,xs,rfl,t1,il1⟩:=Is.tr j1
  obtain⟨a2,ys,rfl,t2,il2⟩:=Is.tr j2
  exact⟨a1,a2,xs,ys,rfl,t1.sq,t2.sq,h2 _ H1 r1 (qnT t1 t2 il1 il2) .refl⟩
 ·cases e
end
theorem qcM:fillsNumberSlot (.type "tuple") "mul"=pure false:=by
 first|kernel_rfl|(unfold fillsNumberSlot;kernel_rfl)|decide +kernel
theorem qgy:seqRepeat? (.type "tuple")=pure (some (.builtin "tuple.__mul__")):=by
 first|kernel_rfl|(unfold seqRepeat?;kernel_rfl)|decide +kernel
theorem qdJ (a:Int) (t:Tok) (l:Addr) (dd:Option Addr) (items:Array Value) (n:Nat) (sl:Array (Option Value)) :
  Meets (ych.«int.__rmul__» ⟨[.int a t,.ref l],[]⟩) (λ_ R s=>s.heap.get? l=some {cls:=.type "tuple",dict:=dd,data:=.seq items n,slots:=sl}/\R (.ok (.ret .notImplemented)) s) :=
 .of_wp λprog w A R s h=>by
  obtain⟨hp,g,d,tk,os⟩:=s
  obtain⟨hl,h⟩:=h
  wp_walk using yb6 hl
  exact⟨_,rfl,h⟩
theorem qnX (l:Addr) (dd:Option Addr) (items:Array Value) (n:Nat) (sl:Array (Option Value)) (k:Int) (t:Tok) (h0:¬items.isEmpty=true) (h1:¬(k==1)=true) (h2:¬k<=0) (h3:¬(decide (k < -(2 ^ 63))||decide (k >= 2 ^ 63))=true)
  (h4:¬(items.size:Int)*k>(2 ^ 63-1)/8) (h5:¬Builtin.Tuple.tupleTooMany ((items.size:Int)*k)=true) (h6:((yaw k.toNat items).foldl (·++·) #[]).size<=yat) :
  Meets (ych.«tuple.__mul__» ⟨[.ref l,.int k t],[]⟩) (λ_ R s=>s.heap.get? l=some {cls:=.type "tuple",dict:=dd,data:=.seq items n,slots:=sl} /\
   R (.ok (.ret (.ref s.heap.objs.size))) {s with heap:=s.heap.push {cls:=.type "tuple",data:=.seq ((yaw k.toNat items).foldl (·++·) #[])} }) :=
 .of_wp λprog w A R s h=>by
  obtain⟨hp,g,d,tk,os⟩:=s
  obtain⟨hl,h⟩:=h
  have f1:=AutoSeq1.idx_int
  have f2:=ydZ
  have h01:¬(items.isEmpty||k==1)=true:=by simp only[ybP,not_or];exact⟨h0,h1⟩
  have h02:¬(decide (k<=0)||items.isEmpty)=true:=by simp only[ybP,decide_eq_true_eq,not_or];exact⟨h2,h0⟩
  wp_walk using yb6 hl
  rw[if_neg h3]
  wp_walk using yb6 hl
  rw[if_neg h4]
  wp_walk using yb6 hl
  exact⟨_,rfl,h⟩
section
variable{X:Cx}
def qnY(K:Fr0):R2:=λx y H Q=>∃a xs k,x=.ref a/\y=.int k/\SqT K H a xs/\xs≠[]/\2<=k/\xs.length*k.toNat<=yat/\∀p,H p=none->Q (.ref p) (upd H p (.tup (yaw k.toNat xs).flatten))
theorem qlX:OpR X (ybq .Mult) (qnY X.K):=by
 intro pins s σ H x y v u Q I rx ry h
 obtain⟨a,xs,k,rfl,rfl,hx,hne,hk,hz,q⟩:=h
 cases rx
 obtain⟨t,rfl⟩:=ry
 obtain⟨its,r,p1,_⟩:=I.tuple hx
 obtain⟨⟨cls,dd,data,sl⟩,ho,hc,n,hd⟩:=id p1
 simp only at hc hd
 subst hc hd
 have hl:=r.length
 have hnew:yeG (λx1 x2=>x1++x2) #[] (yaw k.toNat its.toArray)=(yaw k.toNat its).flatten.toArray:=by
  have:=qa4 its k.toNat []
  rw[ybc]at this
  exact this
 have hlen:(yaw k.toNat its).flatten.length=k.toNat*its.length:=qeA its k.toNat
 have hsl:(yat:Nat)=16777216:=yaV
 have e0:¬its.toArray.isEmpty=true:=by
  intro e
  have:its=[]:=by simpa using e
  rw[this]at hl
  exact hne (List.length_eq_zero_iff.mp hl)
 have pos1:1<=its.length:=by
  cases its with
  |nil=>simp at e0
  |cons z zs=>simp
 have kk:((k.toNat:Nat):Int)=k:=Int.toNat_of_nonneg (by omega)
 have mm:(its.toArray.size:Int)*k=((its.length*k.toNat:Nat):Int):=by rw[sT_,Int.natCast_mul,kk]
 have zz:its.length*k.toNat<=yat:=by rw[<-hl];exact hz
 have kle:k.toNat<=its.length*k.toNat:=Nat.le_mul_of_pos_left _ pos1
 have T1:s.TypeIs (.ref a) "tuple":=⟨_,ho,rfl⟩
 refine ydS (T:="tuple") (U:="int") (by decide) T1 (λs'=>ydR s' k t) qcM F.fills_int_mul yc8 qgy F.slot_int_index.lookup
  (ycm yc8 (ydR s k t) F.entry_int_rmul (yfw _ _) (qdJ k t a dd its.toArray n sl)
   ⟨ho,rfl,T1,ycm F.slot_tuple_mul T1 F.entry_tuple_mul (F.args_tuple_mul_2 _ _) (qnX a dd its.toArray n sl k t e0 (by simp;omega) (by omega) (by simp;omega) (by rw[mm];omega) ?_ (by rw[hnew,sT_,hlen,yff];exact zz)) ⟨ho,?_⟩⟩)
 ·rw[mm]
  show ¬decide (((its.length*k.toNat:Nat):Int)>(yat:Int))=true
  rw[decide_eq_true_eq]
  omega
 ·rw[hnew]
  refine⟨.ref s.heap.objs.size,_,I.laid (t':=s.toks) (o:=.tup (yaw k.toNat xs).flatten) (λb ob q=>Heap.get?_push_of_some _ q) (yad _) ?_,rfl,q _ (I.hok.fresh (yad _))⟩
  exact⟨by rw[qeA,yff];exact hz,_,r.rep k.toNat,yds _ _⟩
def qnZ(K:Fr0):R2:=λx y H Q=>(rI qnh (λi j => .int (i*j))) x y H Q\/(qnY K x y H Q\/qqf x y H Q)
theorem yh:OpR X (ybq .Mult) (qnZ X.K):=OpR.or qnj (OpR.or qlX qnx)
end
def uF:D->D->OD
 |.int i,.int j=>if qeB i j then some (.int (i*j))else none
 |.tup ds,.int k=>if(!ds.isEmpty&&decide (2<=k))&&zp (ds.length*k.toNat)then some (.tup (yaw k.toNat ds).flatten)else none
 |.lst ds,.int k=>if(decide (-(2 ^ 62)<=k)&&decide (k<2 ^ 62))&&zp (ds.length*k.toNat)then some (.lst (yaw k.toNat ds).flatten)else none
 |_,_=>none
theorem IsL.rep {K:Fr0} {A:Addr->Prop} {H:Hp} {ds:List D} {xs:List V} (h:IsL K A H ds xs):∀k:Nat,IsL K A H (yaw k ds).flatten (yaw k xs).flatten
 |0=>by simp[IsL]
 |k+1=>by
  rw[rS_,rS_,ybT,ybT]
  exact IsL.append h (IsL.rep h k)
theorem jv {K:Fr0}:OpS K uF (qnZ K):=by
 intro A H x y d v u Q hn ix iy e k
 cases x<;>cases y<;>simp only[uF]at e<;>try (cases e;done)
 ·rename_i i j
  obtain⟨e1,e2⟩:=z0 e
  subst e2
  cases ix;cases iy
  exact .inl ⟨i,j,rfl,rfl,qjj e1,k _ H (zZ.refl H) rfl⟩
 ·rename_i ds j
  obtain⟨a,xs,rfl,ta,il⟩:=ix
  cases iy
  obtain⟨e1,e2⟩:=z0 e
  subst e2
  rw[yag,yag]at e1
  obtain⟨⟨e3,e4⟩,e5⟩:=e1
  refine .inr (.inl ⟨a,xs,j,rfl,rfl,ta.sq,λz=>?_,of_decide_eq_true e4,by rw[il.length];exact of_decide_eq_true e5,λp hp=>k _ _ (qu hp _) ⟨p,_,rfl,.inl qv,IsL.ext (Ext.of_same (qu hp _)) (λ_ h _=>h) (IsL.rep il _)⟩⟩)
  have:=il.length
  rw[z]at this
  have:ds=[]:=List.length_eq_zero_iff.mp this.symm
  rw[this]at e3
  simp at e3
 ·rename_i ds j
  obtain⟨a,xs,rfl,_,ta,il⟩:=ix
  cases iy
  obtain⟨e1,e2⟩:=z0 e
  subst e2
  rw[yag,yag]at e1
  obtain⟨⟨e3,e4⟩,e5⟩:=e1
  have e3':=of_decide_eq_true e3
  have e4':=of_decide_eq_true e4
  refine .inr (.inr ⟨a,j,xs,rfl,rfl,ta,by omega,by omega,by rw[il.length];exact of_decide_eq_true e5,λp hp=>k _ _ (qu hp _) ⟨p,_,rfl,hn p hp,qv,IsL.ext (Ext.of_same (qu hp _)) (λ_ h _=>h) (IsL.rep il _)⟩⟩)
def qaI:D->OD
 |.int i=>some (.int (-i))
 |_=>none
def d1(F:D->OD)(f:M D):M D:=bnd f λx=>lift (F x)
def qhJ(i j:Int):Bool:=decide (0<=j)&&decide (j<=1000000)&&decide (i.natAbs<2 ^ 64)
def qfq:D->D->OD:=qiY qhJ λi j => .int (i ^ j.toNat)
theorem qeH {K:Fr0}:OpS K qfq (rI qqc λi j => .int (i ^ j.toNat)):=qhx (λi j h=>by
 unfold qhJ at h
 rw[yag,yag]at h
 exact⟨of_decide_eq_true h.1.1,of_decide_eq_true h.1.2,of_decide_eq_true h.2⟩) λ_ _ _ _=>rfl
section
variable{X:Cx}{c:Fc}{a b e:Expr}{pos:Pos}
theorem wN {f:M D} (h:DE X c a f):DE X c (.UnaryOp .USub a pos) (d1 qaI f):=by
 obtain⟨t,p,w⟩:=h
 refine⟨_,qpp qnk p,λZ σ H Q r h=>w Z σ H _ r (Wp.bnd h λd Z1 v H1 r1 i1 g1 h1=>?_)⟩
 obtain⟨d',e,h2⟩:=h1.lift
 cases d<;>simp only[qaI]at e<;>try (cases e;done)
 rename_i i
 cases e
 cases i1
 exact⟨i,rfl,h2 _ H1 r1 rfl .refl⟩
def qlY(X:Cx)(key:Key)(n:Int):TE:=λ_ H Q=>∀p,H p=none->Q (.ref p) (upd H p (.dK [(key,.int n)]))
theorem qn0 {pins:List (Addr×Obj)} {σ:St} {H:Hp} {s:yab} (I:Inv X pins σ H s):ycj<s.heap.objs.size:=by
 obtain⟨mb,h1,_⟩:=I.ok.mod.blt
 have hlt:yb3<X.base.objs.size:=h1.lt
 have hle:X.base.objs.size<=s.heap.objs.size:=yaA I.ok.bsz I.sz
 have hd:ycj<yb3\/ycj<yae:=by decide
 have hg:yae<X.base.objs.size:=I.ok.mod.glob.lt
 rcases hd with z|z
 ·exact yay (Nat.lt_trans z hlt) hle
 ·exact yay (Nat.lt_trans z hg) hle
theorem qjA {key:Key} {n:Int} {ke:Expr} {j:Nat} {p1:Pos} (hk:∀(s:yab)(Q:Value->yab->Prop)(E:Value->yab->Prop),(∀u tk,qdr key u=true->Q u {s with toks:=tk})->wpAny (model X.prog X.w) X.A (eval ke X.env) Q E s) :
  PE X (.Dict [some ke] [.Constant (.int n) j p1] pos) (qlY X key n):=by
 intro pins s σ H Q I h
 have hf:H s.heap.objs.size=none:=I.hok.fresh (yad _)
 refine wpAny_Dict_walk (knd:=qaX X.prog X.w) rfl rfl (by simp) (by show 1<=15;decide) ?_
 refine evalPairs_cons (hk _ _ _ λu tk hu=>?_)
 refine yaa (ydq (yaa (yb1 (yah (evalPairs_nil ?_)))))
 refine⟨[(key,.int n tk)],⟨hu,rfl,trivial⟩,Heap.DictOf.new _,λh' hd sb=>?_⟩
 have e:merged [] [(key,yb2 n tk)]=[(key,yb2 n tk)]:=by simp[merged,stored]
 rw[e]at hd
 refine⟨.ref s.heap.objs.size,upd H s.heap.objs.size (.dK [(key,.int n)]),I.laid (λb o q=>sb.extBut _ _ (yar (yai q)) (Heap.get?_push_of_some _ q)) (yad _) ?_,rfl,h _ hf⟩
 exact⟨by show 1<=yat;decide,beq_eq_false_iff_ne.mpr (ybo (yar (qn0 I))),[(key,.int n tk)],.cons ⟨rfl,tk,rfl⟩ .nil,hd⟩
theorem qfr {key:Key} {n:Int} {ke:Expr} {j:Nat} {p1:Pos} (hk:∀(s:yab)(Q:Value->yab->Prop)(E:Value->yab->Prop),(∀u tk,qdr key u=true->Q u {s with toks:=tk})->wpAny (model X.prog X.w) X.A (eval ke X.env) Q E s) :
  DE X c (.Dict [some ke] [.Constant (.int n) j p1] pos) (ret (.dic [(key,n)])):=by
 refine⟨_,qjA hk,λZ σ H Q r h p hp=>h _ _ (r.laid hp _) ⟨p,rfl,r.new hp,qv⟩ (.of_same (qu hp _))⟩
theorem qjB {i n:Int} {j j2:Nat} {p1 p2:Pos}:DE X c (.Dict [some (.Constant (.int i) j2 p2)] [.Constant (.int n) j p1] pos) (ret (.dic [(.inl i,n)])) :=
 qfr λs Q E h=>ydq (h _ _ (qg2 _ _))
theorem qjC {x:Str} {n:Int} {j j2:Nat} {p1 p2:Pos}:DE X c (.Dict [some (.Constant (.str x) j2 p2)] [.Constant (.int n) j p1] pos) (ret (.dic [(.inr x,n)])) :=
 qfr λs Q E h=>ye2 (h _ _ (qg3 _ _))
def qdK (i j:Nat) (f:M (List D)):MS:=sbnd f λds Z=>match ds with
 | [d,e] => .ok (.nx ((Z.set i (some d)).set j (some e)))
 |_ => .bad
theorem qdL {i j:Nat} {x y:Str} {f:M (List D)} {px py pt:Pos} {kt k2 pt2} (hN:X.N.Nodup) (ha:DA X c [a,b] f) (hw:ycT [.Tuple [.Name x px,.Name y py] kt pt] (.Tuple [a,b] k2 pt2) X.env=pure (some [x,y])) (hc:X.calm=true:=by rfl) (hi:X.N[i]? = some x:=by rfl) (hj:X.N[j]? = some y:=by rfl) (hij:i≠j:=by decide)
  (hx:X.env.scope.names.lookup x=some .local:=by rfl) (hy:X.env.scope.names.lookup y=some .local:=by rfl) (ho:i ∉ c.O:=by exact of_decide_eq_false rfl) (hp:j ∉ c.O:=by exact of_decide_eq_false rfl)
  (hs:ycS [.Tuple [.Name x px,.Name y py] kt pt] (.Tuple [a,b] k2 pt2) pos.line X.env=pure false:=by rfl) :
  DS X c (.Assign [.Tuple [.Name x px,.Name y py] kt pt] (.Tuple [a,b] k2 pt2) pos) (qdK i j f):=by
 obtain⟨t,p,w⟩:=ha
 refine⟨_,qnc hc hN hi hj hij hx hy p hw hs,λZ σ H D r h=>w Z σ H _ r (WpL.sbnd h λds Z1 vs H1 r1 i1 g1 h1=>?_)⟩
 match ds,i1,h1 with
 | [],_,h1=>exact h1.elim
 | [_],_,h1=>exact h1.elim
 | [d,e],i1,h1=>
  obtain⟨v,u,rfl,j1,j2⟩:=IsL.inv2 i1
  refine⟨v,u,rfl,h1 _ H1 ((r1.set ho j1).set hp ?_) ((GrS.set ho).trans (GrS.set hp))⟩
  exact(GrS.set (H:=H1) ho).is j2
 |_::_::_::_,_,h1=>exact h1.elim
mutual
def immF:D->Bool
 |.tup ds=>immFs ds
 |.lst _=>false
 |.dic _=>false
 |_=>true
def immFs:List D->Bool
 | []=>true
 |d::ds=>immF d&&immFs ds
end
mutual
theorem Is.immF {K:Fr0} {A B:Addr->Prop} {H:Hp}:∀{d:D}{v:V},immF d=true->Is K A H d v->Is K B H d v
 |.non,_,_,h=>h
 |.bl _,_,_,h=>h
 |.int _,_,_,h=>h
 |.str _,_,_,h=>h
 |.tup ds,_,i,⟨a,xs,hv,h,r⟩=>⟨a,xs,hv,h,IsL.immF (by simpa [Sk.immF] using i) r⟩
 |.lst _,_,i,_=>by simp[Sk.immF]at i
 |.dic _,_,i,_=>by simp[Sk.immF]at i
 |.fz _,_,_,h=>h
 |.exc _,_,_,h=>h
theorem IsL.immF {K:Fr0} {A B:Addr->Prop} {H:Hp}:∀{ds:List D}{xs:List V},immFs ds=true->IsL K A H ds xs->IsL K B H ds xs
 | [],_,_,h=>h
 |d::ds,_,i,⟨x,ys,hx,h,r⟩=>by
  have i':Sk.immF d=true/\immFs ds=true:=by simpa [immFs] using i
  exact⟨x,ys,hx,Is.immF i'.1 h,IsL.immF i'.2 r⟩
end
def qdM (F:List D->R D) (g:M (List D)):M (List D):=bnd g λds Z=>if immFs ds then match F ds with
 |.ok (.lst bs)=>if immL bs then .ok (bs,Z)else .bad
 |_ => .bad else .bad
theorem qlZ {k:Nat} {f:Addr} {fd:yaS} {ps:List Str} {F:List D->R D} {x:Str} {p:Pos} {es:List Expr} {g:M (List D)} (G:vp X.prog X.w X.K X.mg X.base CX0 k f fd ps (spD X.K F)) (hr:yz k X.A) (hg:Gl X x) (hm:X.mg x=some (.ref f)) (hk:yaj X.K (.ref f)=true) (hb:vj X.K fd ps [])
  (ha:DA X c (e::es) g) (hd:(x==("__debug__":Str))=false:=by decide) (he:yac (e::es) X.env=(false,eval e X.env)::yac es X.env:=by rfl) (hpl:(yaN pos (yac es X.env)).any (·.1)=false:=by rfl):DN X c (.Call (.Name x p) (e::es) [] pos) (qdM F g):=by
 obtain⟨t,pa,w⟩:=ha
 refine⟨_,qa0 G hr hg hm hk hb .nil qlB pa hd he hpl,λZ σ H Q r h=>w Z σ H _ r (WpL.bndN h λds Z1 vs H1 r1 i1 g1 h1=>?_)⟩
 rw[yaZ]
 by_cases him:immFs ds=true
 ·rw [if_pos him]at h1
  refine⟨ds,λ_=>False,IsL.immF him i1,r1.tb,?_⟩
  cases ef:F ds with
  |bad=>simp only[ef]at h1;exact h1.elim
  |exc z Z'=>simp only[ef]at h1;exact h1.elim
  | ok d=>
   cases d with
   | lst bs=>
    simp only[ef]at h1
    by_cases hb2:immL bs=true
    ·rw[if_pos hb2]at h1
     intro v H' sm i
     obtain⟨a,xs,rfl,hA,ha2,il⟩:=i
     have hn:H1 a=none:=hA.elim yaT id
     exact h1 a xs H' hn (r1.same sm) (r1.apart_same hn sm) ha2 trivial (IsL.imm hb2 il) (.of_same sm)
    ·rw[if_neg hb2]at h1;exact h1.elim
   |_=>simp only[ef]at h1;exact h1.elim
 ·rw[if_neg him]at h1;exact h1.elim
end
structure ql0 (outer:Scope) (N:List Str) (scope:Scope) (N':List Str) (nt:Nat) (fr:List Nat):Prop where
 kind:scope.kind=.function
 nocell:∀y∈scope.names,y.2 ≠ .cell
 names:∀y∈scope.names,y.2=.local->scope.names.lookup y.1=some .local
 frees:∀y∈scope.names,y.2=.free->outer.names.lookup y.1=some .cell
 len:N'.length=nt+fr.length
 slots:∀p∈fr.zipIdx,N'[nt+p.2]? = N[p.1]? /\ ((N[p.1]?).bind λx=>scope.names.lookup x)=some .free
theorem ql0.ok {X:Cx} {outer:Scope} {N:List Str} {scope:Scope} {N':List Str} {nt:Nat} {fr:List Nat} (S:ql0 outer N scope N' nt fr) (h1:X.env.scope=outer) (h2:X.N=N):yB X scope N' nt fr:=by
 subst h1 h2
 refine⟨S.kind,S.nocell,S.names,S.frees,S.len,λi j h=>?_⟩
 have hm:(j,i)∈fr.zipIdx:=by
  rw[yex]
  refine⟨i,?_⟩
  rw[List.getElem?_zipIdx,h]
  simp
 obtain⟨h3,h4⟩:=S.slots (j,i) hm
 cases e:X.N[j]? with
 |none=>
  have h4':((X.N[j]?).bind λx=>scope.names.lookup x)=some .free:=h4
  rw[e]at h4';cases h4'
 | some x=>
  have h4':((X.N[j]?).bind λx=>scope.names.lookup x)=some .free:=h4
  rw[e]at h4'
  exact ⟨x,by
    have h3':N'[nt+i]? = X.N[j]? := h3
    rw[h3',e],rfl,h4'⟩
structure zD (P:yas) (w:World) (K:yaf) (mg:Str->Option Value) (base:Heap) (k:Nat) (x:Str) (ps:List Str) (sp:Sp):Prop where
 ex:∃f fd,vp P w K mg base CX0 k f fd ps sp/\mg x=some (.ref f)/\yaj K (.ref f)=true/\vj K fd ps []
theorem uC:yaB "len"=some (.builtin "len"):=by decide +kernel
theorem qn1:yaB "abs"=some (.builtin "abs"):=by decide +kernel
theorem qn2:yaB "max"=some (.builtin "max"):=by decide +kernel
theorem qhK:yaB "min"=some (.builtin "min"):=by decide +kernel
theorem qhL:yaB "all"=some (.builtin "all"):=by decide +kernel
theorem qn3:yaB "sum"=some (.builtin "sum"):=by decide +kernel
theorem qhM:yaB "divmod"=some (.builtin "divmod"):=by decide +kernel
theorem qap:yaB "repr"=some (.builtin "repr"):=by decide +kernel
theorem qkF:yaB "int"=some (.type "int"):=by decide +kernel
theorem qhN:yaB "bool"=some (.type "bool"):=by decide +kernel
theorem yu:yaB "tuple"=some (.type "tuple"):=by decide +kernel
theorem ql1:yaB "list"=some (.type "list"):=by decide +kernel
theorem qM:yaB "isinstance"=some (.builtin "isinstance"):=by decide +kernel
def jA:MS:=λZ => .ok (.nx Z)
theorem qW{X:Cx}{c:Fc}:DSs X c [] jA:=qlC
theorem qF{X:Cx}:IxR X (λx y H Q=>qpx X.K x y H Q\/qpy X.K x y H Q):=qhq.or qnt
theorem ql2 {c:Fc} {nt:Nat} {fr:List Nat} {i j:Nat} (h1:j∈c.O) (h2:nt<=i) (h3:fr[i-nt]? = some j) (h4:∀p∈fr.zipIdx,nt+p.2≠i->p.1 ∉ c.O):qlK c nt fr (some (i,j)) :=
 ⟨h1,h2,h3,λk j' h hk=>h4 (j',k) (by rw[yex];exact⟨k,by rw[List.getElem?_zipIdx,h];simp⟩) hk⟩
def eqB (x y:D):OD:=match sc2 x y with
 |some b=>some (.bl b)
 |none=>eqA x y
def neB (x y:D):OD:=match sc2 x y with
 |some b=>some (.bl (!b))
 |none=>neA x y
theorem vg{X:Cx}{k:Nat}(hr:yz k X.A):OpR X (yaP .Eq) (λx y H Q=>rEq x y H Q\/qkC X.K false x y H Q):=OpR.or qpr (qnP hr)
theorem qbm{X:Cx}{k:Nat}(hr:yz k X.A):OpR X (yaP .NotEq) (λx y H Q=>rNe x y H Q\/qkC X.K true x y H Q):=OpR.or qnl (qkD hr)
theorem yN {K:Fr0}:OpS K eqB (λx y H Q=>rEq x y H Q\/qkC K false x y H Q):=by
 intro A H x y d v u Q hn ix iy e k
 unfold eqB at e
 cases e1:sc2 x y with
 |some b=>simp only[e1]at e;exact .inl (qlD A H x y d v u Q hn ix iy (by unfold eqS;rw[e1];exact e) k)
 |none=>simp only[e1]at e;exact .inr (qlQ A H x y d v u Q hn ix iy e k)
theorem v8 {K:Fr0}:OpS K neB (λx y H Q=>rNe x y H Q\/qkC K true x y H Q):=by
 intro A H x y d v u Q hn ix iy e k
 unfold neB at e
 cases e1:sc2 x y with
 |some b=>simp only[e1]at e;exact .inl (qhz A H x y d v u Q hn ix iy (by unfold neS;rw[e1];exact e) k)
 |none=>simp only[e1]at e;exact .inr (qlR A H x y d v u Q hn ix iy e k)
end L2.Sk
namespace L2.Sk
section
variable{α β:Type}{Z:Env}{f g k:M D}{t u:M Bool}{l m:M (List D)}{p q r:MS}
theorem vB(a:α):ret a Z=.ok (a,Z):=rfl
theorem qhO(o:Option α):lift o Z=match o with|some a => .ok (a,Z)|none => .bad:=by cases o<;>rfl
theorem qpC{f:M α}{k:α->M β}:bnd f k Z=match f Z with|.ok (a,Z')=>k a Z'|.exc x Z' => .exc x Z'|.bad => .bad:=rfl
theorem qqj(i:Nat):dv i Z=match Z[i]? with|some (some d) => .ok (d,Z)|_ => .bad:=rfl
theorem j4:qa f l Z=match f Z with|.ok (d,Z1)=>(match l Z1 with|.ok (ds,Z2) => .ok (d::ds,Z2)|.exc x Z' => .exc x Z'|.bad => .bad)|.exc x Z' => .exc x Z'|.bad => .bad:=by
 simp only[qa,bnd,sbnd]
 cases f Z with
 |ok z=>
  obtain⟨z1,Z1⟩:=z
  simp only[ret]
  cases l Z1 with
  |ok z=>obtain⟨z2,Z2⟩:=z;rfl
  |exc x Z'=>rfl
  |bad=>rfl
 |exc x Z'=>rfl
 |bad=>rfl
theorem wO:qO l Z=match l Z with|.ok (ds,Z1)=>(if zp ds.length then .ok (.tup ds,Z1)else .bad)|.exc x Z' => .exc x Z'|.bad => .bad:=by
 simp only[qO,bnd,sbnd]
 cases l Z with
 |ok z=>
  obtain⟨z1,Z1⟩:=z
  cases h:zp z1.length<;>simp[h,lift,ret]
 |exc x Z'=>rfl
 |bad=>rfl
theorem qch:jI l Z=match l Z with|.ok (ds,Z1)=>(if zp ds.length then .ok (.lst ds,Z1)else .bad)|.exc x Z' => .exc x Z'|.bad => .bad:=by
 simp only[jI,bnd,sbnd]
 cases l Z with
 |ok z=>
  obtain⟨z1,Z1⟩:=z
  cases h:zp z1.length<;>simp[h,lift,ret]
 |exc x Z'=>rfl
 |bad=>rfl
theorem qkG:qgw l Z=match l Z with|.ok (ds,Z1)=>(if immL ds&&zp ds.length then .ok (ds,Z1)else .bad)|.exc x Z' => .exc x Z'|.bad => .bad:=by
 simp only[qgw,bnd,sbnd]
 cases l Z with
 |ok z=>
  obtain⟨z1,Z1⟩:=z
  cases h:(immL z1&&zp z1.length)<;>simp[h,lift,ret]
 |exc x Z'=>rfl
 |bad=>rfl
theorem qo2 (F:D->D->OD):d2 F f g Z=match f Z with|.ok (x,Z1)=>(match g Z1 with|.ok (y,Z2)=>(match F x y with|some d => .ok (d,Z2)|none => .bad)|.exc x Z' => .exc x Z'|.bad => .bad)|.exc x Z' => .exc x Z'|.bad => .bad:=by
 simp only[d2,bnd,sbnd]
 cases f Z with
 |ok z=>
  obtain⟨z1,Z1⟩:=z
  dsimp only <;>
  cases g Z1 with
  |ok z=>obtain⟨z2,Z2⟩:=z;(dsimp only;cases F z1 z2<;>rfl)
  |exc x Z'=>rfl
  |bad=>rfl
 |exc x Z'=>rfl
 |bad=>rfl
theorem qpD (F:D->OD):d1 F f Z=match f Z with|.ok (x,Z1)=>(match F x with|some d => .ok (d,Z1)|none => .bad)|.exc x Z' => .exc x Z'|.bad => .bad:=by
 simp only[d1,bnd,sbnd]
 cases f Z with
 |ok z=>
  obtain⟨z1,Z1⟩:=z
  (dsimp only;cases F z1<;>rfl)
 |exc x Z'=>rfl
 |bad=>rfl
theorem qbn (F:List D->OD):qq F l Z=match l Z with|.ok (xs,Z1)=>(match F xs with|some d => .ok (d,Z1)|none => .bad)|.exc x Z' => .exc x Z'|.bad => .bad:=by
 simp only[qq,bnd,sbnd]
 cases l Z with
 |ok z=>
  obtain⟨z1,Z1⟩:=z
  (dsimp only;cases F z1<;>rfl)
 |exc x Z'=>rfl
 |bad=>rfl
theorem wP (F:List D->R D):qp F l Z=match l Z with|.ok (xs,Z1)=>(match F xs with|.ok d => .ok (d,Z1)|_ => .bad)|.exc x Z' => .exc x Z'|.bad => .bad:=by
 simp only[qp,bnd,sbnd]
 cases l Z with
 |ok z=>
  obtain⟨z1,Z1⟩:=z
  cases F z1<;>rfl
 |exc x Z'=>rfl
 |bad=>rfl
theorem qfs (T:String):qeD T f Z=match f Z with|.ok (d,Z1) => .ok (.bl (qbZ (tyD d) T),Z1)|.exc x Z' => .exc x Z'|.bad => .bad:=by
 simp only[qeD,bnd,sbnd]
 cases f Z with
 |ok z=>
  obtain⟨z1,Z1⟩:=z
  rfl
 |exc x Z'=>rfl
 |bad=>rfl
theorem ql3:tst f Z=match f Z with|.ok (d,Z1)=>(match asB d with|some b => .ok (b,Z1)|none => .bad)|.exc x Z' => .exc x Z'|.bad => .bad:=by
 simp only[tst,bnd,sbnd]
 cases f Z with
 |ok z=>
  obtain⟨z1,Z1⟩:=z
  (dsimp only;cases asB z1<;>rfl)
 |exc x Z'=>rfl
 |bad=>rfl
theorem qaJ(b:Bool):asB (.bl b)=some b:=rfl
theorem qbo:wE t Z=match t Z with|.ok (b,Z1) => .ok (!b,Z1)|.exc x Z' => .exc x Z'|.bad => .bad:=by
 simp only[wE,bnd,sbnd]
 cases t Z with
 |ok z=>
  obtain⟨z1,Z1⟩:=z
  rfl
 |exc x Z'=>rfl
 |bad=>rfl
theorem qdN:qah t u Z=match t Z with|.ok (b,Z1)=>(bif b then u Z1 else .ok (false,Z1))|.exc x Z' => .exc x Z'|.bad => .bad:=by
 simp only[qah,bnd,sbnd]
 cases t Z with
 |ok z=>
  obtain⟨z1,Z1⟩:=z
  cases z1<;>rfl
 |exc x Z'=>rfl
 |bad=>rfl
theorem qgz:tor t u Z=match t Z with|.ok (b,Z1)=>(bif b then .ok (true,Z1)else u Z1)|.exc x Z' => .exc x Z'|.bad => .bad:=by
 simp only[tor,bnd,sbnd]
 cases t Z with
 |ok z=>
  obtain⟨z1,Z1⟩:=z
  cases z1<;>rfl
 |exc x Z'=>rfl
 |bad=>rfl
theorem qft:qaR f g Z=match f Z with|.ok (d,Z1)=>(match asB d with|some b=>(bif b then g Z1 else .ok (.bl false,Z1))|none => .bad)|.exc x Z' => .exc x Z'|.bad => .bad:=by
 simp only[qaR,bnd,sbnd]
 cases f Z with
 |ok z=>
  obtain⟨z1,Z1⟩:=z
  simp only[qhO]
  cases asB z1 with
  |none=>rfl
  |some b=>cases b<;>rfl
 |exc x Z'=>rfl
 |bad=>rfl
theorem ql4:dor f g Z=match f Z with|.ok (d,Z1)=>(match asB d with|some b=>(bif b then .ok (.bl true,Z1)else g Z1)|none => .bad)|.exc x Z' => .exc x Z'|.bad => .bad:=by
 simp only[dor,bnd,sbnd]
 cases f Z with
 |ok z=>
  obtain⟨z1,Z1⟩:=z
  simp only[qhO]
  cases asB z1 with
  |none=>rfl
  |some b=>cases b<;>rfl
 |exc x Z'=>rfl
 |bad=>rfl
theorem qkH:qo0 f Z=match f Z with|.ok (d,Z1)=>(match asB d with|some b => .ok (.bl (!b),Z1)|none => .bad)|.exc x Z' => .exc x Z'|.bad => .bad:=by
 simp only[qo0,bnd,sbnd]
 cases f Z with
 |ok z=>
  obtain⟨z1,Z1⟩:=z
  simp only[qhO]
  cases asB z1 with
  |none=>rfl
  |some b=>cases b<;>rfl
 |exc x Z'=>rfl
 |bad=>rfl
theorem qn4:dif t f g Z=match t Z with|.ok (b,Z1)=>(bif b then f Z1 else g Z1)|.exc x Z' => .exc x Z'|.bad => .bad:=by
 simp only[dif,bnd,sbnd]
 cases t Z with
 |ok z=>
  obtain⟨z1,Z1⟩:=z
  cases z1<;>rfl
 |exc x Z'=>rfl
 |bad=>rfl
theorem qjD:sif t p q Z=match t Z with|.ok (b,Z1)=>(bif b then p Z1 else q Z1)|.exc x Z' => .exc x Z'|.bad => .bad:=by
 simp only[sif,bnd,sbnd]
 cases t Z with
 |ok z=>
  obtain⟨z1,Z1⟩:=z
  cases z1<;>rfl
 |exc x Z'=>rfl
 |bad=>rfl
theorem qkI:qH p q Z=match p Z with|.ok (.nx Z')=>q Z'|z=>z:=by
 unfold qH
 cases p Z with
 |ok z=>cases z<;>rfl
 |exc x Z'=>rfl
 |bad=>rfl
theorem qdO:jd f Z=match f Z with|.ok (d,Z1) => .ok (.rt d Z1)|.exc x Z' => .exc x Z'|.bad => .bad:=by
 simp only[jd,bnd,sbnd]
 cases f Z with
 |ok z=>
  obtain⟨z1,Z1⟩:=z
  rfl
 |exc x Z'=>rfl
 |bad=>rfl
theorem wQ (i:Nat):zi i f Z=match f Z with|.ok (d,Z1) => .ok (.nx (Z1.set i (some d)))|.exc x Z' => .exc x Z'|.bad => .bad:=by
 simp only[zi,bnd,sbnd]
 cases f Z with
 |ok z=>
  obtain⟨z1,Z1⟩:=z
  rfl
 |exc x Z'=>rfl
 |bad=>rfl
theorem qhP (i:Nat):vn i l Z=match l Z with|.ok (ds,Z1) => .ok (.nx (Z1.set i (some (.lst ds))))|.exc x Z' => .exc x Z'|.bad => .bad:=by
 simp only[vn,bnd,sbnd]
 cases l Z with
 |ok z=>
  obtain⟨z1,Z1⟩:=z
  rfl
 |exc x Z'=>rfl
 |bad=>rfl
theorem v9:jk f Z=match f Z with|.ok (_,Z1) => .ok (.nx Z1)|.exc x Z' => .exc x Z'|.bad => .bad:=by
 simp only[jk,bnd,sbnd]
 cases f Z with
 |ok z=>
  obtain⟨z1,Z1⟩:=z
  rfl
 |exc x Z'=>rfl
 |bad=>rfl
theorem qkJ:jA Z=.ok (.nx Z):=rfl
theorem qhQ (i j:Nat):qdK i j l Z=match l Z with|.ok ([d,e],Z1) => .ok (.nx ((Z1.set i (some d)).set j (some e)))|.ok _ => .bad|.exc x Z' => .exc x Z'|.bad => .bad:=by
 simp only[qdK,bnd,sbnd]
 cases l Z with
 |ok z=>
  obtain⟨z1,Z1⟩:=z
  match z1 with
  | []=>rfl
  | [_]=>rfl
  | [_,_]=>rfl
  |_::_::_::_=>rfl
 |exc x Z'=>rfl
 |bad=>rfl
theorem qdP (G:D->Env->Option Env):qer f G Z=match f Z with|.ok (d,Z1)=>(match G d Z1 with|some Z2 => .ok (.nx Z2)|none => .bad)|.exc x Z' => .exc x Z'|.bad => .bad:=by
 simp only[qer,bnd,sbnd]
 cases f Z with
 |ok z=>
  obtain⟨z1,Z1⟩:=z
  dsimp only <;>
  cases G z1 Z1<;>rfl
 |exc x Z'=>rfl
 |bad=>rfl
theorem yS (G:D->Env->Option Env) (b:MS):wy l G b Z=match l Z with|.ok (ds,Z1)=>uS G b ds Z1|.exc x Z' => .exc x Z'|.bad => .bad:=by
 simp only[wy,bnd,sbnd]
 cases l Z with
 |ok z=>
  obtain⟨z1,Z1⟩:=z
  rfl
 |exc x Z'=>rfl
 |bad=>rfl
theorem qbp:yt f Z=match f Z with|.ok (d,Z1)=>(match qnL d with|some ds => .ok (ds,Z1)|none => .bad)|.exc x Z' => .exc x Z'|.bad => .bad:=by
 simp only[yt,bnd,sbnd]
 cases f Z with
 |ok z=>
  obtain⟨z1,Z1⟩:=z
  (dsimp only;cases qnL z1<;>rfl)
 |exc x Z'=>rfl
 |bad=>rfl
theorem qhR:jC l Z=match l Z with|.ok (d,Z1)=>(match qkz d with|some ds => .ok (ds,Z1)|none => .bad)|.exc x Z' => .exc x Z'|.bad => .bad:=by
 simp only[jC,bnd,sbnd]
 cases l Z with
 |ok z=>
  obtain⟨z1,Z1⟩:=z
  (dsimp only;cases qkz z1<;>rfl)
 |exc x Z'=>rfl
 |bad=>rfl
theorem qhS:qnV l Z=match l Z with|.ok (d,Z1)=>(match qnU d with|some ds => .ok (ds,Z1)|none => .bad)|.exc x Z' => .exc x Z'|.bad => .bad:=by
 simp only[qnV,bnd,sbnd]
 cases l Z with
 |ok z=>
  obtain⟨z1,Z1⟩:=z
  (dsimp only;cases qnU z1<;>rfl)
 |exc x Z'=>rfl
 |bad=>rfl
theorem qbq {nt:Nat} {fr:List Nat} {fo:Option (Nat×Nat)} {G:D->Env->Option Env} {e:M D}:zE nt fr fo l G t e Z=match l Z with
  |.ok (ds,Z1)=>(match zC G t e ds [] (yR nt fr Z1) with|.ok (ys,Ze) => .ok (.lst ys,qkA fo Ze Z1)|_ => .bad)|.exc x Z' => .exc x Z'|.bad => .bad:=by
 simp only[zE,bnd,sbnd]
 cases l Z with
 |ok z=>
  obtain⟨z1,Z1⟩:=z
  dsimp only <;>
  cases zC G t e z1 [] (yR nt fr Z1) with
  |ok z=>obtain⟨z2,Z2⟩:=z;rfl
  |exc x Z'=>rfl
  |bad=>rfl
 |exc x Z'=>rfl
 |bad=>rfl
theorem vC (F:List D->List D->R (D×List D)) (i:Nat):qj F i l Z=match zM i Z with
  |none => .bad
  | some _=>(match l Z with
   |.ok (ds,Z1)=>(match zM i Z1 with
    |none => .bad
    |some bs=>(match F bs ds with|.ok (d,bs') => .ok (d,Z1.set i (some (.lst bs')))|_ => .bad))
   |.exc x Z' => .exc x Z'|.bad => .bad):=by
 simp only[qj,bnd]
 cases zM i Z with
 |none=>rfl
 | some _=>
  dsimp only <;>
  cases l Z with
  | ok z=>
   obtain⟨z1,Z1⟩:=z
   dsimp only <;>
   cases zM i Z1 with
   |none=>rfl
   |some bs=>
    dsimp only <;>
    cases F bs z1 with
    |ok z=>obtain⟨z2,z3⟩:=z;rfl
    |exc x Z'=>rfl
    |bad=>rfl
  |exc x Z'=>rfl
  |bad=>rfl
theorem qhT (F:List D->R D):qdM F l Z=match l Z with
  |.ok (ds,Z1)=>(if immFs ds then(match F ds with|.ok (.lst bs)=>(if immL bs then .ok (bs,Z1)else .bad)|_ => .bad)else .bad)|.exc x Z' => .exc x Z'|.bad => .bad:=by
 simp only[qdM,bnd,sbnd]
 cases l Z with
 | ok z=>
  obtain⟨z1,Z1⟩:=z
  dsimp only <;>
  cases immFs z1 with
  |false=>rfl
  |true=>
   simp only[if_true]
   cases F z1 with
   |ok z=>cases z<;>rfl
   |exc x Z'=>rfl
   |bad=>rfl
 |exc x Z'=>rfl
 |bad=>rfl
theorem qhU (i:Nat):qeF i f Z=match zM i Z with
  |none => .bad
  | some _=>(match f Z with
   |.ok (k,Z1)=>(match k,zM i Z1 with
    |.int n,some ds=>(match atI ds n with|some d => .ok (d,Z1)|none => .bad)
    |_,_ => .bad)
   |.exc x Z' => .exc x Z'|.bad => .bad):=by
 simp only[qeF,bnd]
 cases zM i Z with
 |none=>rfl
 | some _=>
  dsimp only <;>
  cases f Z with
  |ok z=>
   obtain⟨z1,Z1⟩:=z
   dsimp only <;>
   cases z1<;>cases zM i Z1<;>try rfl
  |exc x Z'=>rfl
  |bad=>rfl
theorem qhV (i:Nat):qju i k f Z=match f Z with
  | .ok (d,Z1)=>(match zM i Z1 with
   |none => .bad
   | some _=>(match k Z1 with
    | .ok (j,Z2)=>(match j,zM i Z2 with
     |.int n,some ds=>(match ixN ds.length n with
      |some q=>if imm d then .ok (.nx (Z2.set i (some (.lst (ds.set q d)))))else .bad
      |none => .bad)
     |_,_ => .bad)
    |.exc x Z' => .exc x Z'|.bad => .bad))
  |.exc x Z' => .exc x Z'|.bad => .bad:=by
 simp only[qju,bnd,sbnd]
 cases f Z with
 | ok z=>
  obtain⟨z1,Z1⟩:=z
  dsimp only <;>
  cases zM i Z1 with
  |none=>rfl
  | some _=>
   dsimp only <;>
   cases k Z1 with
   |ok z=>
    obtain⟨z2,Z2⟩:=z
    dsimp only <;>
    cases z2<;>cases zM i Z2<;>try rfl
   |exc x Z'=>rfl
   |bad=>rfl
 |exc x Z'=>rfl
 |bad=>rfl
theorem qhW (i:Nat):qdH i Z=match zM i Z with|some ds => .ok (.int ds.length,Z)|none => .bad:=by
 unfold qdH
 cases zM i Z<;>rfl
theorem qhX (i:Nat):qb0 i Z=match zM i Z with|some ds => .ok (.tup ds,Z)|none => .bad:=by
 unfold qb0
 cases zM i Z<;>rfl
theorem qkK (i:Nat):qkE i f Z=match zM i Z with
  |none => .bad
  | some _=>(match f Z with
   |.ok (y,Z1)=>(match zM i Z1 with
    |none => .bad
    |some ds=>(match neA (.lst ds) y with|some d => .ok (d,Z1)|none => .bad))
   |.exc x Z' => .exc x Z'|.bad => .bad):=by
 simp only[qkE,bnd]
 cases zM i Z with
 |none=>rfl
 | some _=>
  dsimp only <;>
  cases f Z with
  |ok z=>
   obtain⟨z1,Z1⟩:=z
   dsimp only <;>
   cases zM i Z1 with
   |none=>rfl
   |some ds=>(dsimp only;cases neA (.lst ds) z1<;>rfl)
  |exc x Z'=>rfl
  |bad=>rfl
theorem wR (i:Nat):zH i f Z=match zM i Z with
  |none => .bad
  | some _=>(match f Z with
   |.ok (d,Z1)=>(match zM i Z1 with
    |some ds=>if imm d&&zp (ds.length+1)then .ok (.non,Z1.set i (some (.lst (ds++[d]))))else .bad
    |none => .bad)
   |.exc x Z' => .exc x Z'|.bad => .bad):=by
 simp only[zH,bnd]
 cases zM i Z with
 |none=>rfl
 | some _=>
  dsimp only <;>
  cases f Z with
  |ok z=>
   obtain⟨z1,Z1⟩:=z
   dsimp only <;>
   cases zM i Z1<;>rfl
  |exc x Z'=>rfl
  |bad=>rfl
theorem qn5 {g k:M (Option Int)}:dsl f g k Z=match f Z with
  | .ok (d,Z1)=>(match g Z1 with
   |.ok (lo,Z2)=>(match k Z2 with
    |.ok (hi,Z3)=>(match slD d lo hi with|some x => .ok (x,Z3)|none => .bad)
    |.exc x Z' => .exc x Z'|.bad => .bad)
   |.exc x Z' => .exc x Z'|.bad => .bad)
  |.exc x Z' => .exc x Z'|.bad => .bad:=by
 simp only[dsl,bnd,sbnd]
 cases f Z with
 | ok z=>
  obtain⟨z1,Z1⟩:=z
  dsimp only <;>
  cases g Z1 with
  |ok z=>
   obtain⟨z2,Z2⟩:=z
   dsimp only <;>
   cases k Z2 with
   |ok z=>obtain⟨z3,Z3⟩:=z;(dsimp only;cases slD z1 z2 z3<;>rfl)
   |exc x Z'=>rfl
   |bad=>rfl
  |exc x Z'=>rfl
  |bad=>rfl
 |exc x Z'=>rfl
 |bad=>rfl
theorem qaq:yA f Z=match f Z with|.ok (.int i,Z1) => .ok (some i,Z1)|.ok _ => .bad|.exc x Z' => .exc x Z'|.bad => .bad:=by
 simp only[yA,bnd,sbnd]
 cases f Z with
 |ok z=>
  obtain⟨z1,Z1⟩:=z
  cases z1<;>rfl
 |exc x Z'=>rfl
 |bad=>rfl
end
theorem zf {n:Nat} (h:n<=1000000):zp n=true:=by
 unfold zp
 exact decide_eq_true (yaA h (by rw[yfA];decide))
theorem ql5 {n p:Nat} {body:MS} {ds:List D} {d:D} {Z:Env} (h:ds.length=p) (e:body (yL n ds)=.ok (.rt d Z)):dfn n p body ds=.ok d:=by
 unfold dfn;rw[if_pos h,e]
theorem qbr {n p:Nat} {body:MS} {bs ds bs':List D} {d:D} {Z:Env} (h:ds.length+1=p) (e:body (yL n (.lst bs::ds))=.ok (.rt d Z)) (g:zM 0 Z=some bs'):vA n p body bs ds=.ok (d,bs'):=by
 unfold vA;rw[if_pos h,e];simp only[g]
end L2.Sk
namespace L2.Sk
open PySem PySem.Spec PyProof.Rows
section
variable{prog:yas}{w:World}{A:yav}{E:Value->yab->Prop}{s:yab}
end
section
variable{X:Cx}{c:Fc}{a b e:Expr}{pos:Pos}{es:List Expr}{kk:Nat}{tp:Pos}
def ql6 (k:Nat):List D->List D
 | []=>[]
 |x::xs => .tup [.int (k:Nat),x]::ql6 (k+1) xs
def ql7:List D->Option (List D)
 | [.tup xs]=>some (ql6 0 xs)
 |_=>none
def ql8(f:M (List D)):M (List D):=bnd f λds=>lift (ql7 ds)
end
def vD:D->V
 |.bl b => .bl b
 |.int i => .int i
 |.str x => .str x
 |_ => .non
def flD:D->Bool
 |.non=>true
 |.bl _=>true
 |.int _=>true
 |.str _=>true
 |_=>false
def sqD:D->Option (List D)
 |.tup ds=>some ds
 |.lst ds=>some ds
 |_=>none
def inD (x y:D):OD:=match sqD y with
 |some ds=>if flD x&&ds.all flD then some (.bl (ds.any λd=>eqV (vD d) (vD x)))else none
 |none=>none
theorem qkL {K:Fr0} {A:Addr->Prop} {H:Hp} {d:D} {v:V} (h:Is K A H d v) (f:flD d=true):v=vD d/\qaO v=true:=by
 cases d<;>first|(cases h;exact⟨rfl,rfl⟩)|cases f
theorem qeI {K:Fr0} {A:Addr->Prop} {H:Hp}:∀{ds:List D}{vs:List V},IsL K A H ds vs->ds.all flD=true->vs=ds.map vD/\vs.all qaO=true
 | [],_,h,_=>by cases h;exact⟨rfl,rfl⟩
 |d::ds,_,⟨x,ys,hx,h1,h2⟩,f=>by
  rw[ycU,yag]at f
  obtain⟨e1,e2⟩:=qkL h1 f.1
  obtain⟨e3,e4⟩:=qeI h2 f.2
  subst hx
  rw[mC_,<-e1,<-e3,ycU,e2,e4]
  exact⟨rfl,rfl⟩
theorem qn6 {K:Fr0} {A:Addr->Prop} {H:Hp} {x y:D} {ds:List D} {v u:V} (ix:Is K A H x v) (iy:Is K A H y u) (e:sqD y=some ds) (f:(flD x&&ds.all flD)=true) :
  ∃p xs,u=.ref p/\(SqL K H p xs\/SqT K H p xs)/\qaO v=true/\xs.all qaO=true/\inV v xs=ds.any λd=>eqV (vD d) (vD x):=by
 rw[yag]at f
 obtain⟨e1,e2⟩:=qkL ix f.1
 cases y<;>simp only[sqD]at e<;>try (cases e;done)
 ·cases e
  obtain⟨a,zs,rfl,ta,il⟩:=iy
  obtain⟨e3,e4⟩:=qeI il f.2
  exact⟨a,zs,rfl,.inr ta.sq,e2,e4,by rw[e3,e1];unfold inV;rw[List.any_map];rfl⟩
 ·cases e
  obtain⟨a,zs,rfl,_,ta,il⟩:=iy
  obtain⟨e3,e4⟩:=qeI il f.2
  exact⟨a,zs,rfl,.inl (SqL.of ta),e2,e4,by rw[e3,e1];unfold inV;rw[List.any_map];rfl⟩
theorem qn7 {K:Fr0}:OpS K inD (rIn K false):=by
 intro A H x y d v u Q hn ix iy e k
 unfold inD at e
 split at e
 ·rename_i ds es
  obtain⟨e1,e2⟩:=z0 e
  subst e2
  obtain⟨p,xs,h1,h2,h3,h4,h5⟩:=qn6 ix iy es e1
  exact⟨p,xs,h1,h2,h3,h4,by rw[<-h5]at k;exact k _ H (zZ.refl H) rfl⟩
 ·cases e
theorem qhY {l:M (List D)} {Z:Env}:ql8 l Z=match l Z with|.ok (d,Z1)=>(match ql7 d with|some ds => .ok (ds,Z1)|none => .bad)|.exc x Z' => .exc x Z'|.bad => .bad:=by
 simp only[ql8,bnd]
 cases l Z with
 |ok z=>obtain⟨z1,Z1⟩:=z;(dsimp only;cases ql7 z1<;>rfl)
 |exc x Z'=>rfl
 |bad=>rfl
section
variable{X:Cx}{tg iter elt:Expr}{ifs:List Expr}{scope:Scope}{pos:Pos}{wi:TI}{N':List Str}{nt:Nat}{fr:List Nat}
theorem ql9 {i:Nat} {x:Str} {pos' spos:Pos} (hN:X.N.Nodup) (hix:X.N[i]? = some x) (hx:Loc X.env.scope x) (hfx:X.fn x=true\/X.env.scope.names.lookup x=some .local) (hc:X.calm=true) (hi:PI X tg iter wi) (S:yB X scope N' nt fr)
  (hsw:ycA (.ListComp elt [⟨tg,iter,ifs,0⟩] scope pos) (some (.Name x pos')) spos.line X.env=pure true)
  (hs:∀x,ybS iter X.env x=pure x:=by intro _;rfl):PS X (.Assign [.Name x pos'] (.ListComp elt [⟨tg,iter,ifs,0⟩] scope pos) spos) (λD σ H=>qlI X tg ifs elt scope N' wi nt fr σ H λv H'=>D.nx (σ.set i (some v)) H'):=by
 intro pins s σ H D I hw
 obtain⟨cl,hcl,cl1,cl2⟩:=wK (env:=X.env) (scope:=scope) (λy hy hf=>I.ok.has y.1 (.inl (S.frees y hy hf)))
 rw[exec_Assign_Name_used _ _ _ _ hsw]
 refine yaa (yb1 (yaa ?_))
 show wpAny (model X.prog X.w) X.A (comprehension (.ListComp elt [⟨tg,iter,ifs,0⟩] scope pos) scope X.env _ (newList []) false (eval iter X.env) (some (yce (.Name x pos') X.env)) >>= λ_=>pure ()) _ _ s
 refine yaa (thn (Q:=λ_ s'=>SP X pins D .next s') ?_ λ_ s' q=>yah (yah q))
 refine yd5 (use:=some (yce (.Name x pos') X.env)) rfl hs hcl S.kind S.names (thn (hi pins s σ H _ I hw) λv s1 h1=>thn h1 λitv s2 h2=>?_)
 obtain⟨it,fp,tn,J,H2,e,I2,T,st2,f2,hR⟩:=h2
 subst e
 have hacc:H2 s2.heap.objs.size=none:=I2.hok.fresh (yad _)
 refine yaL (yeJ S.nocell (by intro y hy;simp at hy) (λh₁ hns1 hsb1=>?_) S.kind)
 dsimp only at hns1 hsb1 |-
 have I3:Inv X pins σ (upd H2 s2.heap.objs.size (.lst [])) {s2 with heap:=s2.heap.push {cls:=.type "list",dict:=none,data:=.seq ([]:List Value).toArray} } :=
  I2.lnew (t':=s2.toks) (its:=[]) .nil (yaE _)
 generalize hs3:({s2 with heap:=s2.heap.push {cls:=.type "list",dict:=none,data:=.seq ([]:List Value).toArray} }:yab)=s3 at I3
 have hh3:s2.heap.push {cls:=.type "list",dict:=none,data:=.seq ([]:List Value).toArray}=s3.heap:=by rw[<-hs3]
 rw[hh3]at hns1 hsb1
 have old:∀b o,s3.heap.get? b=some o->h₁.get? b=some o:=λb o q=>hsb1.extBut b o (yar (yai q)) (Heap.get?_push_of_some _ q)
 have objs2:∀b∈fp,∃o,s2.heap.get? b=some o:=λb hb=>by
  obtain⟨o,q,_⟩:=T.obj 0 _ st2 b hb
  exact⟨o,q⟩
 have keep23:∀b o,s2.heap.get? b=some o->s3.heap.get? b=some o:=λb o q=>by rw[<-hh3];exact Heap.get?_push_of_some _ q
 have fpne:∀b∈fp,b≠s2.heap.objs.size:=λb hb=>by
  obtain⟨o,q⟩:=objs2 b hb
  exact yar (yai q)
 have f3:∀b∈fp,qeq X pins (upd H2 s2.heap.objs.size (.lst [])) b:=λb hb=>⟨by rw[qw (fpne b hb)];exact(f2 b hb).1,(f2 b hb).2⟩
 have J0:Inv (z8 X scope N' fp cl s3.heap.objs.size s3 (upd H2 s2.heap.objs.size (.lst [])) (X.pn++pins)) [] (ze nt fr σ) (upd H2 s2.heap.objs.size (.lst [])) {s3 with heap:=h₁,toks:=s3.toks} :=
  qce S I3 f3 (λb hb=>(objs2 b hb).imp λo q=>keep23 b o q) cl1 cl2 ⟨_,hns1⟩ old
 obtain⟨g,tt,te,hg,hf,he,W,⟨m0,w0⟩,turn⟩:=hR s2.heap.objs.size fp cl s3.heap.objs.size s3 (upd H2 s2.heap.objs.size (.lst [])) (X.pn++pins) hacc
 have T0:tn 0 h₁:=T.keep 0 _ _ st2 λb hb o q=>old b o (keep23 b o q)
 have s3e:∀tk:Nat,({s2 with heap:=h₁,toks:=tk}:yab)={s3 with heap:=h₁,toks:=tk}:=λtk=>by rw[<-hs3]
 have loop:∀tk:Nat,ycf (model X.prog X.w) X.A (.compLoop (.ListComp elt [⟨tg,iter,ifs,0⟩] scope pos) 0 (.ref it) (.ref s2.heap.objs.size) (yeI scope cl s3.heap.objs.size X.env))
   (yfK (model X.prog X.w) X.A X.xe (some (yce (.Name x pos') X.env)) (λ_ s'=>SP X pins D .next s') (.ref s2.heap.objs.size) s3.heap.objs.size) {s3 with heap:=h₁,toks:=tk}:=λtk=>by
  have stat:∀{H':Hp},(∀b∈fp,H' b=none)->∀b∈fp,qeq (z8 X scope N' fp cl s3.heap.objs.size s3 (upd H2 s2.heap.objs.size (.lst [])) (X.pn++pins)) [] H' b:=λ{H'} hn b hb=>by
   obtain⟨o,q⟩:=objs2 b hb
   have hbC:b≠s3.heap.objs.size:=yar (yai (keep23 b o q))
   refine⟨hn b hb,hbC,λz=>?_,.inl hb,λx c hx=>(f2 b hb).2.2.2.2.1 x c (cl1 x c hx),λp hp=>?_⟩
   ·rcases List.mem_cons.mp (I2.stkSub b z)with z|z
    ·exact(f2 b hb).2.1 z
    ·exact(f2 b hb).2.2.1 z
   ·have hp':p∈X.pn++pins:=by
     rcases mA_.mp (show p∈(X.pn++pins)++[]from hp)with z|z
     ·exact z
     ·cases z
    exact(f2 b hb).2.2.2.2.2 p hp'
  have fr0:∀b∈fp,upd H2 s2.heap.objs.size (.lst []) b=none:=λb hb=>(f3 b hb).1
  refine qbg (λn s'=>∃i σ' H',Inv (z8 X scope N' fp cl s3.heap.objs.size s3 (upd H2 s2.heap.objs.size (.lst [])) (X.pn++pins)) [] σ' H' s'/\tn i s'.heap/\(∀b∈fp,H' b=none)/\W i n σ' H') ?_ m0
   ⟨0,ze nt fr σ,_,J0.tok tk,T0,fr0,w0⟩
  rintro n s4 ⟨i,σ4,H4,J4,st4,fr4,w4⟩
  rcases turn i n σ4 H4 w4 with⟨stop,qn⟩|⟨go,step⟩
  ·refine thn (T.done (z8 X scope N' fp cl s3.heap.objs.size s3 (upd H2 s2.heap.objs.size (.lst [])) (X.pn++pins)) rfl rfl rfl hc i [] s4 σ4 H4 _ J4 (stat fr4) st4 stop) λr s5 ⟨hr,J5⟩=>?_
   subst hr
   obtain⟨m5,n5,_⟩:=J5.loc
   have I5:Inv X pins σ H4 s5:=qfo I3 f3 J5 (Heap.SameBut.refl ..)
   have lC:X.env.locals≠s3.heap.objs.size:=yar I3.lt
   have cC:∀y c,X.env.cells.lookup y=some c->c≠s3.heap.objs.size:=λy c hy=>by
    obtain⟨v,o,ho,_⟩:=I3.cell y c hy
    exact yar (yai ho)
   have pC:∀p∈X.pn++pins,p.1≠s3.heap.objs.size:=λp hp=>yar (yai (I3.pin p hp).1)
   refine yfq (qds (v:=.ref s2.heap.objs.size) I5 hN hix hx rfl (λs'' I6 ⟨a,sb,ha⟩=>?_) hfx)
   have aC:s3.heap.objs.size≠a:=by
    rcases ha with rfl|ha
    ·exact lC.symm
    ·exact(cC _ _ ha).symm
   exact⟨m5,n5.sameBut sb aC,λh' sb'=>⟨_,H4,I6.turned (t':=s''.toks) (λb o hb q=>(sb'.2 b hb).trans q) J5.free lC.symm (.inr I3.sz) cC pC,qn⟩⟩
  ·refine thn (T.item (z8 X scope N' fp cl s3.heap.objs.size s3 (upd H2 s2.heap.objs.size (.lst [])) (X.pn++pins)) rfl rfl rfl hc i [] s4 σ4 H4 _ J4 (stat fr4) st4 go) λr s5 ⟨u,hr,h5⟩=>?_
   subst hr
   refine thn h5 λ_ s6 ⟨x,H6,J6,r6,y6,st6,fr6⟩=>?_
   have J6':=J6.pinned (stat fr6) (T.obj _ _ st6)
   have again:∀{σ7:St}{H7:Hp}{s7:yab},Inv (z8 X scope N' fp cl s3.heap.objs.size s3 (upd H2 s2.heap.objs.size (.lst [])) (X.pn++pins)) ([]++qb9 fp s6.heap) σ7 H7 s7->(∃m',m'<n/\W (i+1) m' σ7 H7) ->
     ∃m,m<n/\∃i σ' H',Inv (z8 X scope N' fp cl s3.heap.objs.size s3 (upd H2 s2.heap.objs.size (.lst [])) (X.pn++pins)) [] σ' H' s7/\tn i s7.heap/\(∀b∈fp,H' b=none)/\W i m σ' H':=λ{σ7 H7 s7} I7 hm=>by
    obtain⟨m',hm,w7⟩:=hm
    refine⟨m',hm,i+1,σ7,H7,I7.unpinned,T.keep _ _ _ st6 λb hb o q=>(I7.pin (b,o) (mr_ _ (mr_ _ (yW hb q)))).1,λb hb=>?_,w7⟩
    obtain⟨o,q,d⟩:=T.obj _ _ st6 b hb
    exact(I7.pin (b,o) (mr_ _ (mr_ _ (yW hb q)))).2.1
   refine thn (hg _ s6 σ4 H6 x u _ J6' r6 (step x H6 y6)) λ_ s7 ⟨σ7,H7,J7,q7⟩=>?_
   refine thn (hf _ s7 σ7 H7 _ J7 q7) λok s8 ⟨H8,J8,q8⟩=>?_
   cases ok with
   |false=>
    rw[if_neg yam]at q8 |-
    exact again J8 q8
   |true=>
    rw[if_pos rfl]at q8 |-
    refine thn (he _ s8 σ7 H8 _ J8 q8) λz s9 ⟨y,H9,J9,r9,ys,hys,hz,hm⟩=>?_
    refine thn (qa5 _ s9 σ7 H9 (.ref s2.heap.objs.size) [y] (.ref s2.heap.objs.size) [z] (λ_ H'=>H'=upd H9 s2.heap.objs.size (.lst (ys++[y]))) J9 rfl (.cons r9 .nil) ⟨_,ys,y,rfl,rfl,hys,hz,rfl⟩) λ_ s10 ⟨_,H10,J10,_,e10⟩=>?_
    subst e10
    exact again J10 hm
 have ji:∀tk:Nat,ycf (model X.prog X.w) X.A (.compStart (.ListComp elt [⟨tg,iter,ifs,0⟩] scope pos) 0 (.ref it) (.ref s2.heap.objs.size) (yeI scope cl s3.heap.objs.size X.env))
   (yfK (model X.prog X.w) X.A X.xe (some (yce (.Name x pos') X.env)) (λ_ s'=>SP X pins D .next s') (.ref s2.heap.objs.size) s3.heap.objs.size) {s3 with heap:=h₁,toks:=tk}:=λtk=>
  yel (loop tk) (T.self X.A 0 _ _ _ T0 (loop tk))
 have fin:=ji (s2.toks+([]:List (Str×Value)).length)
 rw[<-s3e]at fin
 rw[<-hh3]at fin
 rw[hh3]at fin |-
 exact fin
end
section
variable{X:Cx}{c:Fc}
def DC(X:Cx)(c:Fc)(tg it elt:Expr)(ifs:List Expr)(scope:Scope)(N':List Str)(nt:Nat)(fr:List Nat)(f:M D):Prop:=∃wi,PI X tg it wi/\∀Z σ H Q,Rep X.K c Z σ H->Wp X.K c σ H Q (f Z)->qlI X tg ifs elt scope N' wi nt fr σ H Q
theorem qma {it elt tg:Expr} {ifs:List Expr} {scope:Scope} {N':List Str} {nt:Nat} {fr:List Nat} {fo:Option (Nat×Nat)} {f:M (List D)} {g:D->Env->Option Env} {t:M Bool} {k:M D} (hc:X.calm=true) (hi:DI X c tg it f) (S:yB X scope N' nt fr)
  (hfo:qlK c nt fr fo)
  (hb:∀fp cl C s₀ H₀ pn B0 H1 Io' acc S',DG (z8 X scope N' fp cl C s₀ H₀ pn) (cin B0 H1 (foO fo) Io' acc S') tg g/\DF (z8 X scope N' fp cl C s₀ H₀ pn) (cin B0 H1 (foO fo) Io' acc S') ifs t/\DE (z8 X scope N' fp cl C s₀ H₀ pn) (cin B0 H1 (foO fo) Io' acc S') elt k)
  : DC X c tg it elt ifs scope N' nt fr (zE nt fr fo f g t k):=by
 obtain⟨wi,pi,wI⟩:=hi
 refine⟨wi,pi,λZ σ H Q r h=>wI Z σ H _ r (WpI.bnd h λds Z1 J H1 r1 iok g1 h1=>?_)⟩
 intro acc fp cl C s₀ H₀ pn hn
 obtain⟨⟨tg',pg,wg⟩,⟨tt,pt,wt⟩,⟨te,pe,we⟩⟩:=hb fp cl C s₀ H₀ pn (Cn c σ) H1 (qdq σ fo) acc λj=>(ze nt fr σ)[j]?
 refine⟨tg',tt,te,pg,pt,pe,?_⟩
 cases ew:zC g t k ds [] (yR nt fr Z1) with
 |exc x Z'=>rw[ew]at h1;exact h1.elim
 |bad=>rw[ew]at h1;exact h1.elim
 | ok p =>
  rw[ew]at h1
  obtain⟨ys,Ze⟩:=p
  have h1:∀v H',Rep X.K c (qkA fo Ze Z1) σ H'->Is X.K (Cn c σ) H' (.lst ys) v->Gr c.O σ H1 H'->Q v H':=h1
  have accO:∀j∈foO fo,(ze nt fr σ)[j]? ≠ some (some (.ref acc)):=λj hj e=>by
   have r0:=r1.entry (acc:=acc) hn hfo
   cases fo with
   |none=>cases hj
   |some p=>
    obtain⟨i',j'⟩:=p
    have e2:j=i':=by simpa [foO] using hj
    subst e2
    obtain⟨k2,j2,e1,e2,e3⟩:=yY e
    have hk2:k2=j-nt:=by omega
    subst hk2
    rw[hfo.2.2.1]at e2
    cases e2
    obtain⟨a,us,e4,e5,_⟩:=r1.own j' hfo.1 _ e3
    cases e4;rw[hn]at e5;cases e5
  refine ⟨λi m σ' H'=>m=ds.length-i/\i<=ds.length/\∃Z' zs xs,Rep X.K (cin (Cn c σ) H1 (foO fo) (qdq σ fo) acc λj=>(ze nt fr σ)[j]?) Z' σ' H'/\(∀j∈foO fo,σ'[j]? = (ze nt fr σ)[j]?)/\H' acc=some (.lst xs)/\IsL X.K (Cn (cin (Cn c σ) H1 (foO fo) (qdq σ fo) acc λj=>(ze nt fr σ)[j]?) σ') H' zs xs/\zC g t k (ds.drop i) zs Z'=.ok (ys,Ze),
   ⟨ds.length,by simp,yaE _,yR nt fr Z1,[],[],r1.entry hn hfo,λ_ _=>rfl,qv,rfl,by simpa using ew⟩,?_⟩
  rintro i m σ' H' ⟨rfl,hi,Z',zs,xs,r',so,ha,iz,w⟩
  obtain⟨_,gr⟩:=r1.leave hn hfo (λi j e=>so i (by rw[e];simp[foO])) r'
  have ex:Ext (CnT c σ H1) H1 H':=⟨gr.ext.tup,gr.ext.frz,λb o hb hq=>gr.ext.at_ b o hb.1.2 hq⟩
  have accC:∀τ:St,(∀j∈foO fo,τ[j]? = (ze nt fr σ)[j]?)->Cl (foO fo) τ acc:=λτ hτ j hj e=>accO j hj (by rw[<-hτ j hj];exact e)
  by_cases hlt:i<ds.length
  ·refine .inr ⟨iok.go H' i ds[i] ex (by simp[hlt]),λx H'' y=>?_⟩
   obtain⟨sm,ix⟩:=iok.yl H' i ds[i] x H'' ex (by simp[hlt]) y
   rw[qan hlt]at w
   unfold zC at w
   have ix2:Is X.K (Cn (cin (Cn c σ) H1 (foO fo) (qdq σ fo) acc λj=>(ze nt fr σ)[j]?) σ') H'' ds[i] x:=Is.ext Ext.refl (λa ha _=>⟨⟨ha.1,λe=>by
    have:=ha.2
    rw [e,hn]at this;cases this⟩,λj hj e=>by
     rw[so j hj]at e
     cases fo with
     |none=>cases hj
     |some p=>
      obtain⟨i',j'⟩:=p
      have e2:j=i':=by simpa [foO,cin] using hj
      subst e2
      obtain⟨k2,j2,e1,e2,e3⟩:=yY e
      have hk2:k2=j-nt:=by omega
      subst hk2
      rw[hfo.2.2.1]at e2
      cases e2
      exact ha.1.2 j' hfo.1 e3⟩) ix
   cases e1:g ds[i] Z' with
   |none=>simp only[e1]at w;cases w
   | some Z2=>
    simp only[e1]at w
    refine wg Z' σ' H'' ds[i] x Z2 _ (r'.same sm) ix2 e1 λσ2 r2 g2 o2=>?_
    have so2:∀j∈foO fo,σ2[j]? = (ze nt fr σ)[j]? := λj hj=>(o2 j hj).trans (so j hj)
    have ha2:H'' acc=some (.lst xs):=sm _ _ ha
    have iz2:=g2.isL (IsL.ext (Ext.of_same sm) (λ_ h _=>h) iz)
    cases e2:t Z2 with
    |exc x Z3=>simp only[e2]at w;cases w
    |bad=>simp only[e2]at w;cases w
    | ok p2=>
     obtain⟨bb,Z3⟩:=p2
     refine wt Z2 σ2 H'' _ r2 ?_
     rw[e2]
     intro H3 r3 g3
     have ha3:H3 acc=some (.lst xs):=g3.ext.at_ _ _ (accC σ2 so2) ha2
     have iz3:=g3.isL iz2
     cases bb with
     |false=>
      rw[if_neg yam]
      simp only[e2]at w
      exact⟨ds.length-(i+1),by omega,rfl,hlt,Z3,zs,xs,r3,so2,ha3,iz3,w⟩
     | true=>
      rw[if_pos rfl]
      simp only[e2]at w
      cases e3:k Z3 with
      |exc x Z4=>simp only[e3]at w;cases w
      |bad=>simp only[e3]at w;cases w
      | ok p3=>
       obtain⟨d4,Z4⟩:=p3
       simp only[e3]at w
       refine we Z3 σ2 H3 _ r3 ?_
       rw[e3]
       intro y4 H4 r4 i4 g4
       have ha4:H4 acc=some (.lst xs):=g4.ext.at_ _ _ (accC σ2 so2) ha3
       have hsz:zp (zs.length+1)=true:=by
        cases e5:zp (zs.length+1) with
        |true=>rfl
        |false=>rw[e5]at w;simp at w
       rw[if_pos hsz]at w
       have hsz':zs.length+1<=yat:=of_decide_eq_true hsz
       have r5:=r4.grow (ys:=xs++[y4]) ha4 (λj hj e=>accC σ2 so2 j hj e)
       have ext5:Ext (Cn (cin (Cn c σ) H1 (foO fo) (qdq σ fo) acc λj=>(ze nt fr σ)[j]?) σ2) H4 (upd H4 acc (.lst (xs++[y4]))):=⟨λb us hb=>by rw[qw (wA hb ha4 (by intro z;cases z))];exact hb,λb o u hb=>by rw[qw (wA hb ha4 (by intro z;cases z))];exact hb,λb o hb hq=>by rw[qw hb.1.2];exact hq⟩
       refine⟨xs,ha4,by rw[iz3.length];omega,ds.length-(i+1),by omega,rfl,hlt,Z4,zs++[d4],xs++[y4],r5,so2,qv,?_,w⟩
       exact IsL.append (IsL.ext ext5 (λ_ h _=>h) (g4.isL iz3)) (IsL.one (Is.ext ext5 (λ_ h _=>h) i4))
  ·have hie:i=ds.length:=by omega
   subst hie
   rw[ycQ (yad _)]at w
   unfold zC at w
   cases w
   obtain⟨r6,g6⟩:=r1.leave hn hfo (λi j e=>so i (by rw[e];simp[foO])) r'
   exact .inl ⟨iok.stop H' ex,h1 _ H' r6 ⟨acc,xs,rfl,r1.new hn,ha,IsL.ext Ext.refl (λa ha hs=>ha.1.1) iz⟩ g6⟩
theorem qmb {i:Nat} {x:Str} {pos' spos pos:Pos} {tg it elt:Expr} {ifs:List Expr} {scope:Scope} {N':List Str} {nt:Nat} {fr:List Nat} {f:M D} (hN:X.N.Nodup) (h:DC X c tg it elt ifs scope N' nt fr f) (hc:X.calm=true) (S:yB X scope N' nt fr)
  (ho:i ∉ c.O:=by exact of_decide_eq_false rfl) (hix:X.N[i]? = some x:=by rfl) (hx:Loc X.env.scope x:=by first|exact ya4 rfl|exact yaI rfl) (hfx:X.fn x=true\/X.env.scope.names.lookup x=some .local:=by first|exact .inl rfl|exact .inr rfl|assumption)
  (hsw:ycA (.ListComp elt [⟨tg,it,ifs,0⟩] scope pos) (some (.Name x pos')) spos.line X.env=pure true:=by rfl) (hs:∀x,ybS it X.env x=pure x:=by intro _;rfl) :
  DS X c (.Assign [.Name x pos'] (.ListComp elt [⟨tg,it,ifs,0⟩] scope pos) spos) (zi i f):=by
 obtain⟨wi,pi,w⟩:=h
 refine⟨_,ql9 hN hix hx hfx hc pi S hsw hs,λZ σ H D r h=>w Z σ H _ r (Wp.sbnd h λd Z1 v H1 r1 i1 g1 h1=>?_)⟩
 exact h1 _ H1 (r1.set ho i1) (.set ho)
end
def qo3:List Int->Int
 | []=>0
 | [n]=>n
 |n::m::ns=>max n (qo3 (m::ns))
section
variable{X:Cx}
end
def qq1:List D->OD
 | [.lst ds]=>match vy ds with
  |some (n::ns)=>some (.int (qo3 (n::ns)))
  |_=>none
 |_=>none
def uy (t:M Bool) (b:MS):Nat->MS
 |0,_ => .bad
 | n+1,Z=>match t Z with
  |.ok (true,Z1)=>match b Z1 with
   |.ok (.nx Z2)=>uy t b n Z2
   |.ok (.ct Z2)=>uy t b n Z2
   |.ok (.bk Z2) => .ok (.nx Z2)
   |.ok (.rt d Z2) => .ok (.rt d Z2)
   |.exc x Z2 => .exc x Z2
   |.bad => .bad
  |.ok (false,Z1) => .ok (.nx Z1)
  |.exc x Z1 => .exc x Z1
  |.bad => .bad
open Classical in
noncomputable def qbs(t:M Bool)(b:MS):MS:=λZ=>if h:∃n,uy t b n Z ≠ .bad then uy t b h.choose Z else .bad
theorem vO {t:M Bool} {b:MS}:∀{n:Nat}{Z:Env}(k:Nat),uy t b n Z ≠ .bad->uy t b (n+k) Z=uy t b n Z
 |0,Z,k,h=>absurd rfl h
 | n + 1,Z,k,h=>by
  have e:n+1+k=(n+k)+1:=by omega
  rw[e]
  unfold uy at h |-
  cases et:t Z with
  | ok p=>
   obtain⟨v,Z1⟩:=p
   rw[et]at h
   cases v with
   |false=>rfl
   | true=>
    dsimp only at h |-
    cases eb:b Z1 with
    |ok fl=>
     rw[eb]at h
     cases fl with
     |nx Z2=>exact vO k h
     |ct Z2=>exact vO k h
     |bk Z2=>rfl
     |rt d Z2=>rfl
    |exc x Z2=>rfl
    |bad=>rfl
  |exc x Z1=>rfl
  |bad=>rfl
theorem wS {t:M Bool} {b:MS} {n:Nat} {Z:Env} {r:R Fl} (h:uy t b n Z=r) (hb:r ≠ .bad):qbs t b Z=r:=by
 have hx:∃n,uy t b n Z ≠ .bad:=⟨n,by rw[h];exact hb⟩
 unfold qbs
 rw[dif_pos hx]
 have hc:=hx.choose_spec
 generalize hx.choose=m at hc
 rcases Nat.le_total m n with hl|hl
 ·obtain⟨k,rfl⟩:=yeb hl
  rw[<-vO k hc];exact h
 ·obtain⟨k,rfl⟩:=yeb hl
  rw[vO k (by rw[h];exact hb)];exact h
theorem qgA {t:M Bool} {b:MS} {Z:Env}:∃n,qbs t b Z=uy t b n Z:=by
 unfold qbs
 split
 ·exact⟨_,rfl⟩
 ·exact⟨0,rfl⟩
section
variable{X:Cx}{c:Fc}{pos:Pos}
theorem qfu {e:Expr} {body:List Stmt} {t:M Bool} {b:MS} (hp:ye3 (model X.prog X.w) X.A X.env X.xe) (ht:DT X c e t) (hb:DSs X c body b):DS X c (.While e body [] pos) (qbs t b):=by
 obtain⟨tc,pc,wc⟩:=ht
 obtain⟨tb,pb,wb⟩:=hb
 refine⟨_,qi7 hp pc pb,λZ σ H D' r h=>?_⟩
 obtain⟨n,en⟩:=qgA (t:=t) (b:=b) (Z:=Z)
 rw[en]at h
 refine⟨λm σ' H'=>∃Z',Rep X.K c Z' σ' H'/\WpS X.K c σ' H' D' (uy t b m Z'),⟨n,Z,r,h⟩,?_⟩
 rintro m σ' H' ⟨Z',r',w⟩
 cases m with
 |zero=>exact w.elim
 | succ m=>
  unfold uy at w
  refine wc Z' σ' H' _ r' ?_
  cases et:t Z' with
  |bad=>rw[et]at w;exact w
  |exc x Z1=>rw[et]at w;exact λH1 r1 g1=>w σ' H1 r1 g1.s
  | ok p=>
   obtain⟨v,Z1⟩:=p
   rw[et]at w
   intro H1 r1 g1
   cases v with
   |false=>
    rw[if_neg yam]
    exact w σ' H1 r1 g1.s
   | true=>
    rw[if_pos rfl]
    dsimp only at w
    refine⟨λσ2 H2=>∃Z2,Rep X.K c Z2 σ2 H2/\WpS X.K c σ2 H2 D' (uy t b m Z2),λσ2 H2 q=>⟨m,Nat.lt_succ_self m,q⟩,wb Z1 σ' H1 _ r1 ?_⟩
    have w2:=w.gr g1.s
    cases e2:b Z1 with
    |ok fl=>
     cases fl with
     |nx Z3=>simp only[e2]at w2;exact λσ3 H3 r3 g3=>⟨Z3,r3,w2.gr g3⟩
     |ct Z3=>simp only[e2]at w2;exact λσ3 H3 r3 g3=>⟨Z3,r3,w2.gr g3⟩
     |bk Z3=>simp only[e2]at w2;exact w2
     |rt d Z3=>simp only[e2]at w2;exact w2
    |exc x Z3=>simp only[e2]at w2;exact w2
    |bad=>simp only[e2]at w2;exact w2
end
def qo4(K:Fr0)(a:Addr)(ns:List Int):Prop:=∃(o:Obj)(its:Array Value)(n:Nat),K.lookup a=some o/\o.cls=.type "tuple"/\o.data=.seq its n/\its.size<=yat/\zt (ns.map V.int) its.toList
theorem qo4.is{K:Fr0}{a:Addr}{ns:List Int}(h:qo4 K a ns)(H:Hp)(A:Addr->Prop):Is K A H (.tup (ns.map .int)) (.ref a):=⟨a,_,rfl,.inr h,qcH ns⟩
theorem qjE {X:Cx} {c:Fc} {x:Str} {a:Addr} {ns:List Int} {pos:Pos} (hg:Gl X x) (hm:X.mg x=some (.ref a)) (ht:qo4 X.K a ns) (hdb:(x==("__debug__":Str))=false:=by decide):DE X c (.Name x pos) (ret (.tup (ns.map .int))) :=
 qhv (v:=.ref a) hg hm rfl (λH A=>ht.is H A) hdb
def qcN (h:Heap) (e T:Addr) (cls:Value):Prop :=
 ∃oe vs oT ts a0,h.get? e=some oe/\(oe.cls=cls/\vs[2]? = some .none/\vs[0]? = some a0)/\oe.data=.fields vs/\vs[1]? = some (.ref T)/\T≠e/\h.get? T=some oT/\oT.data=.fields ts/\ts[3]? = some .none
def CX1 (P:yas) (w:World):CXT:=λouter H s E u s'=>∃e T C H',u=.ref e/\s'.os=s.os/\ycs s'.gens/\Un (frs outer) [] H H' s.heap s'.heap/\HOk P w H' s'.heap /\
 s.heap.get? e=none/\s.heap.get? T=none/\H' e=none/\H' T=none/\qcN s'.heap e T (.ref C)/\E (.ref C) none H'
structure Lft (h h':Heap) (ch fs:List Addr):Prop where
 keep:∀b o,b ∉ ch->b ∉ fs->h.get? b=some o->h'.get? b=some o
 slot:∀b o,b∈fs->h.get? b=some o->∃sl,h'.get? b=some {o with slots:=sl}
section
variable{M:Model}{A:yav}{E:Value->yab->Prop}{s:yab}
abbrev qar:Obj->Obj:=yeS (·.setIfInBounds 3 yaG)
theorem qmc {base:Heap} {l:List yaU} {h:Heap} {b:Addr} {o:Obj} {vs:Array Value} (hl:h.FunFrames base l) (hb:h.get? b=some o) (hd:o.data=.fields vs):b ∉ frs l:=λz=>by
 obtain⟨_,o',ho',hn⟩:=hl.mem z
 rw[hb]at ho'
 cases ho'
 exact hn vs hd
theorem qfv {e T:Addr} {oe oT:Obj} {vs ts:Array Value} {Q:Unit->yab->Prop} (he:s.heap.get? e=some oe) (hd:oe.data=.fields vs) (h1:vs[1]? = some (.ref T)) (hT:s.heap.get? T=some oT) (hdT:oT.data=.fields ts) (h3:3<ts.size)
  (k:Q () {s with heap:=s.heap.update T qar}):wpAny M A (ydw (.ref e) none) Q E s:=by
 unfold ydw
 refine yaa (yaJ he hd h1 ?_)
 have t:(yaq T != yaG)=true:=by simp
 rw[if_pos t]
 exact ycG hT hdT h3 k
theorem qas {h:Heap} {T:Addr} {oT:Obj} {ts:Array Value} (hT:h.get? T=some oT) (hdT:oT.data=.fields ts) (h3:3<ts.size):∃o2 t2,(h.update T qar).get? T=some o2/\o2.data=.fields t2/\t2[3]? = some .none :=
 ⟨_,_,Heap.get?_update_self _ hT (yc3 (ybK hdT _)),ybK hdT _,by simp[h3]⟩
theorem zV{h:Heap}{T b:Addr}(n:b≠T):(h.update T qar).get? b=h.get? b:=Heap.get?_update_other _ _ (ybo n)
theorem qjF {base:Heap} {env:yaU} {outer:List yaU} {L e:Addr} {oe:Obj} {vs:Array Value} {head:Value} {had:Bool} {Q:Unit->yab->Prop} (hfr:A.frames=some (env::outer)) (hl:s.heap.FunFrames base (env::outer)) (hf:env.frame=some L)
  (he:s.heap.get? e=some oe) (hd:oe.data=.fields vs) (h1:1<vs.size)
  (k:∀h' T,s.heap.get? T=none->T≠e->(∀b o,b≠e->b ∉ frs (env::outer)->s.heap.get? b=some o->h'.get? b=some o)->(∀b o,b∈frs (env::outer)->s.heap.get? b=some o->∃sl,h'.get? b=some {o with slots:=sl}) ->
   h'.get? e=some (yeS (·.setIfInBounds 1 (yaq T)) oe)->(∃oT ts,h'.get? T=some oT/\oT.data=.fields ts/\3<ts.size)->h'.FunFrames base (env::outer)->Q () {s with heap:=h' }) :
  wpAny M A (do let a <-frameOf env;let pl <-entryPlaceOf L had;let b <-ydh head a .none (ycp L) .none pl;setField (.ref e) 1 b) Q E s:=by
 have hene:=qmc hl he hd
 refine yaa (wpAny_frameOf_fun hfr hl hf λh₁ hs1=>yaa (wpAny_entryPlaceOf λpl hpl=>?_))
 unfold ydh newFields
 have he1:h₁.get? e=some oe:=(hs1.2.1 e hene).trans he
 refine yaa (yaL ?_ (hpl.sizeOk5 _ _ _ _ _))
 generalize hob:({cls:=yeD "traceback",dict:=none,data:=yfE ([head,yaq L,yaG,ycp L,yaG]++(if pl.isEmpty then yaw 6 yaG else pl)).toArray}:Obj)=ob
 have nT:h₁.objs.size≠e:=ycB (yai he1)
 have hnT:s.heap.get? h₁.objs.size=none:=by
  cases q:s.heap.get? h₁.objs.size with
  |none=>rfl
  |some o=>
   obtain⟨sl,q'⟩:=hs1.2.2 _ o q
   exact absurd (yai q') (ybt _)
 refine ycG (Heap.get?_push_of_some _ he1) hd h1 ?_
 have keep:∀b o,b≠e->h₁.get? b=some o->((h₁.push ob).update e (yeS (·.setIfInBounds 1 (yaq h₁.objs.size)))).get? b=some o:=λb o hb q=>(Heap.get?_update_other _ _ (ybo hb)).trans (Heap.get?_push_of_some _ q)
 refine k _ h₁.objs.size hnT nT (λb o hb hf q=>keep b o hb ((hs1.2.1 b hf).trans q)) (λb o hb q=>?_) (Heap.get?_update_self _ (Heap.get?_push_of_some _ he1) (yc3 (ybK hd _))) ⟨ob,([head,yaq L,yaG,ycp L,yaG]++(if pl.isEmpty then yaw 6 yaG else pl)).toArray,?_,by rw[<-hob],by simp⟩ (hl.of_keeps λb o q hn=>?_)
 ·obtain⟨sl,q'⟩:=hs1.2.2 b o q
  exact⟨sl,keep b _ (λz=>hene (z▸hb)) q'⟩
 ·exact(Heap.get?_update_other _ _ (ybo nT)).trans (Heap.get?_push_size _ (by rw[<-hob];rfl))
 ·obtain⟨sl,q'⟩:=hs1.2.2 b o q
  exact⟨_,keep b _ (λz=>by subst z;rw[he]at q;cases q;exact hn vs hd) q',rfl⟩
theorem qfw {base:Heap} {env:yaU} {outer:List yaU} {L e:Addr} {oe:Obj} {vs:Array Value} {a0 head:Value} {had:Bool} {Q:Unit->yab->Prop} (hfr:A.frames=some (env::outer)) (hl:s.heap.FunFrames base (env::outer)) (hf:env.frame=some L)
  (he:s.heap.get? e=some oe) (hd:oe.data=.fields vs) (h1:1<vs.size) (h2:vs[2]? = some .none) (h0:vs[0]? = some a0)
  (k:∀h' T',Lft s.heap h' [e] (frs (env::outer))->qcN h' e T' oe.cls->s.heap.get? T'=none->Q () {s with heap:=h' }) :
  wpAny M A (do let a <-frameOf env;let pl <-entryPlaceOf L had;let b <-ydh head a .none (ycp L) .none pl;setField (.ref e) 1 b) (λ_ s'=>wpAny M A (ydw (.ref e) none) Q E s') E s:=by
 refine qjF hfr hl hf he hd h1 λh' T nT ne kp sl ee eT _=>?_
 obtain⟨oT,ts,gT,dT,sT⟩:=eT
 have dd:=ybK hd (·.setIfInBounds 1 (yaq T))
 refine qfv (s:={s with heap:=h' }) ee dd (by simp[h1]) gT dT sT ?_
 obtain⟨o2,t2,q1,q2,q3⟩:=qas gT dT sT
 have nf:∀b o,s.heap.get? b=some o->b≠T:=λb o q z=>by rw[z,nT]at q;cases q
 refine k _ T ⟨λb o hb hf q=>(zV (nf b o q)).trans (kp b o (by simpa using hb) hf q),λb o hb q=>?_⟩ ⟨_,_,o2,t2,a0,(zV (ybo ne)).trans ee,⟨yfy _ _,?_,?_⟩,dd,by simp[h1],ne,q1,q2,q3⟩ nT
 ·obtain⟨sl,q'⟩:=sl b o hb q
  exact⟨sl,(zV (nf b o q)).trans q'⟩
 ·rw[Array.getElem?_setIfInBounds_ne (by decide)];exact h2
 ·rw[Array.getElem?_setIfInBounds_ne (by decide)];exact h0
theorem qdQ {base:Heap} {env:yaU} {outer:List yaU} {L e T:Addr} {cls:Value} {Q:Unit->yab->Prop} (hfr:A.frames=some (env::outer)) (hl:s.heap.FunFrames base (env::outer)) (hf:env.frame=some L) (F:qcN s.heap e T cls)
  (k:∀h' T',Lft s.heap h' [e,T] (frs (env::outer))->qcN h' e T' cls->(T'=T\/s.heap.get? T'=none)->Q () {s with heap:=h' }) :
  wpAny M A (yeg (.ref e) env) (λ_ sQ=>wpAny M A (ydw (.ref e) none) Q E sQ) E s:=by
 obtain⟨oe,vs,oT,ts,a0,he,⟨hc,h2,h0⟩,hd,h1,hne,hT,hdT,h3⟩:=F
 subst hc
 have z3:3<ts.size:=(Array.getElem?_eq_some_iff.mp h3).1
 have z1:1<vs.size:=(Array.getElem?_eq_some_iff.mp h1).1
 have tT:(yaq T != yaG)=true:=by simp
 have tL:¬((yaG==ycp L)=true):=by simp[ycp]
 have nf:=qmc hl hT hdT
 unfold yeg
 simp only[hf]
 refine yaa (yaJ he hd h1 ?_)
 rw[if_pos tT]
 refine yaa (yaJ hT hdT h3 ?_)
 rw[if_neg tL]
 refine yaa (ycG hT hdT z3 ?_)
 have hl1:(s.heap.update T qar).FunFrames base (env::outer):=hl.of_keeps λb o q hn=>⟨o,(zV λz=>by subst z;rw[hT]at q;cases q;exact hn ts hdT).trans q,rfl⟩
 refine qfw (s:={s with heap:=s.heap.update T qar}) hfr hl1 hf ((zV (ybo hne)).trans he) hd z1 h2 h0 λh' T' x y z=>?_
 refine k h' T' ⟨λb o hb hf q=>?_,λb o hb q=>?_⟩ y (.inr ?_)
 ·simp only[yax,nN_,or_false,not_or]at hb
  exact x.keep b o (by simpa using hb.1) hf ((zV hb.2).trans q)
 ·exact x.slot b o hb ((zV λ(z:b=T)=>nf (z▸hb)).trans q)
 ·by_cases e2:T'=T
  ·subst e2
   obtain⟨_,_,q,_⟩:=qas hT hdT z3
   have z':(s.heap.update T' qar).get? T'=none:=z
   rw[q]at z';cases z'
  ·exact(zV e2).symm.trans z
theorem qgB {base:Heap} {env:yaU} {outer:List yaU} {L e T:Addr} {cls:Value} {Q:Unit->yab->Prop} (hfr:A.frames=some (env::outer)) (hl:s.heap.FunFrames base (env::outer)) (hf:env.frame=some L) (F:qcN s.heap e T cls)
  (k:∀h' T',Lft s.heap h' [e,T] (frs (env::outer))->qcN h' e T' cls->(T'=T\/s.heap.get? T'=none)->Q () {s with heap:=h' }):wpAny M A (ydl env (.ref e)) Q E s:=by
 unfold ydl
 exact yaa (qdQ hfr hl hf F k)
theorem qgC {base h:Heap} {env:yaU} {outer:List yaU} {L e:Addr} {cls:Value} {args:List Value} {Q:Unit->yab->Prop} (hfr:A.frames=some (env::outer)) (hl:h.FunFrames base (env::outer)) (hf:env.frame=some L) (hx:yey h s.heap e cls args)
  (k:∀h' T',Lft s.heap h' [e] (frs (env::outer))->qcN h' e T' cls->s.heap.get? T'=none->Q () {s with heap:=h' }):wpAny M A (ydl env (.ref e)) Q E s:=by
 obtain⟨t,he,htn,ht⟩:=hx.there
 have hl1:s.heap.FunFrames base (env::outer):=hl.of_keeps λb o q _=>⟨o,hx.keeps b o q,rfl⟩
 unfold ydl yeg
 simp only[hf]
 refine yaa (yaa (yaJ he rfl (x:=.none) rfl ?_))
 rw[if_neg (by decide)]
 exact qfw hfr hl1 hf he rfl (of_decide_eq_true rfl) rfl rfl k
theorem qgD {base:Heap} {l:List yaU} {e T:Addr} {cls:Value} {Q:Unit->yab->Prop} (hl:s.heap.FunFrames base l) (F:qcN s.heap e T cls)
  (k:∀h' T',Lft s.heap h' [e,T] (frs l)->qcN h' e T' cls->(T'=T\/s.heap.get? T'=none)->Q () {s with heap:=h' }) :
  wpAny M A (ydw (.ref e) none) Q E s:=by
 obtain⟨oe,vs,oT,ts,a0,he,hc,hd,h1,hne,hT,hdT,h3⟩:=F
 have z3:3<ts.size:=(Array.getElem?_eq_some_iff.mp h3).1
 have nf:=qmc hl hT hdT
 refine qfv he hd h1 hT hdT z3 ?_
 obtain⟨o2,t2,q1,q2,q3⟩:=qas hT hdT z3
 refine k _ T ⟨λb o hb _ q=>?_,λb o hb q=>⟨o.slots,(zV λ(z:b=T)=>nf (z▸hb)).trans q⟩⟩ ⟨oe,vs,o2,t2,a0,(zV (ybo hne)).trans he,hc,hd,h1,hne,q1,q2,q3⟩ (.inl rfl)
 simp only[yax,nN_,or_false,not_or]at hb
 exact(zV hb.2).trans q
end
theorem qkM {P:yas} {w:World} {H:Hp} {h h':Heap} (x:HOk P w H h) (k:∀b o,(H b).isSome=true->h.get? b=some o->h'.get? b=some o):HOk P w H h':=λa o e=>
 (x a o e).stay (λb u hb q=>k b u (by
   rcases hb with rfl|hb;· rw[e];rfl
   ·rw[hb];rfl) q) (λ_ z=>z) λ_ _ z=>z
theorem uT {P:yas} {w:World} {H:Hp} {h:Heap} {a:Addr} {o:HO} (x:yU P w H h a o):∃u,h.get? a=some u:=by
 cases o with
 |lst xs=>obtain⟨_,_,_,_,e⟩:=x;exact⟨_,e⟩
 |tup xs=>obtain⟨_,_,_,ob,e,_⟩:=x;exact⟨_,e⟩
 |dK kvs=>obtain⟨_,_,_,_,o,_,_,e,_⟩:=x;exact⟨_,e⟩
 |dT kvs=>obtain⟨_,_,_,_,o,_,_,e,_⟩:=x;exact⟨_,e⟩
 |set S n=>obtain⟨o,_,_,_,e,_⟩:=x;exact⟨_,e⟩
 |ins C dx fs=>obtain⟨_,_,_,e,_⟩:=x;exact⟨_,e⟩
 |own y=>obtain⟨_,e⟩:=x;exact⟨_,e⟩
 |xd fs=>obtain⟨_,⟨_,_,_,e,_⟩,_⟩:=x;exact⟨_,e⟩
 |rng lo hi=>obtain⟨_,_,_,e⟩:=x;exact⟨_,e⟩
 |frz ob u=>obtain⟨e,_⟩:=x;exact⟨_,e⟩
 |tbl ps=>exact⟨_,(show h.get? a=some _ from x)⟩
 |met f y=>exact⟨_,(show h.get? a=some _ from x)⟩
 |ext φ=>obtain⟨_,e,_⟩:=x;exact e
 |lam pos q=>rcases x with e|⟨_,_,_,_,_,_,_,e⟩<;>exact⟨_,e⟩
section
variable{X:Cx}{pins:List (Addr×Obj)}{σ:St}{H:Hp}{s:yab}
theorem qfx {H':Hp} {s':yab} {h':Heap} {ch:List Addr} (I:Inv X pins σ H s) (hs:X.stack=X.env::X.outer) (hf:X.env.frame=some X.env.locals) (hex:X.ex=[])
  (u:Un (frs X.stack) [] H H' s.heap s'.heap) (hok:HOk X.prog X.w H' s'.heap) (hch:∀b∈ch,H' b=none) (hchn:∀b∈ch,s.heap.get? b=none) (x:Lft s'.heap h' ch (frs X.stack)) :
  Un (frs X.outer) [] X.H₀ H' X.s₀.heap h'/\HOk X.prog X.w H' h':=by
 have hfs:frs X.stack=X.env.locals::frs X.outer:=by rw[hs];unfold frs;rw[ybh,hf]
 have hb:=I.base
 rw[hex]at hb
 have nL:∀b o,X.s₀.heap.get? b=some o->b≠X.env.locals:=λb o q z=>absurd (yay (yai q) (z▸I.ok.above)) (ybt _)
 have nch:∀b o,X.s₀.heap.get? b=some o->b ∉ ch:=λb o q z=>by
  obtain⟨o',q'⟩:=hb.there b o q (by simp)
  rw[hchn b z]at q';cases q'
 have nfs:∀b o,X.s₀.heap.get? b=some o->b ∉ frs X.outer->b ∉ frs X.stack:=λb o q z y=>by
  rw[hfs]at y
  exact(List.mem_cons.mp y).elim (nL b o q) z
 have yfs:∀b,b∈frs X.outer->b∈frs X.stack:=λb z=>by rw[hfs];exact mM _ z
 refine⟨⟨λb o q n hb1 _=>?_,λb o q n hb1 _=>?_,λb o q n _=>?_,λb o q _=>?_,λb xs q=>u.tups b xs (hb.tups b xs q),λb o v q=>u.frzs b o v (hb.frzs b o v q),λb ps y q=>u.tbls b ps y (hb.tbls b ps y q)⟩,?_⟩
 ·exact x.keep b o (nch b o q) (nfs b o q hb1) (u.keep b o (hb.keep b o q n hb1 (by simp)) (hb.free b o q n (by simp)) (nfs b o q hb1) (by simp))
 ·obtain⟨sl,q1⟩:=hb.slot b o q n hb1 (by simp)
  obtain⟨sl2,q2⟩:=u.slot b _ q1 (hb.free b o q n (by simp)) (yfs b hb1) (by simp)
  obtain⟨sl3,q3⟩:=x.slot b _ (yfs b hb1) q2
  exact⟨sl3,q3⟩
 ·obtain⟨o',q'⟩:=hb.there b o q (by simp)
  exact u.free b o' q' (hb.free b o q n (by simp)) (by simp)
 ·obtain ⟨o1,q1⟩:=hb.there b o q (by simp)
  obtain⟨o2,q2⟩:=u.there b o1 q1 (by simp)
  by_cases hb1:b∈frs X.stack
  ·obtain⟨sl,q3⟩:=x.slot b o2 hb1 q2
   exact⟨_,q3⟩
  ·exact⟨o2,x.keep b o2 (nch b o q) hb1 q2⟩
 ·refine qkM hok λb o hb1 q=>x.keep b o (λz=>?_) (λz=>?_) q
  ·rw[hch b z]at hb1;cases hb1
  ·obtain⟨_,o1,ho1,_⟩:=I.stack.mem z
   rw[u.free b o1 ho1 (I.stkFree b z) (by simp)]at hb1
   cases hb1
theorem qmd {s':yab} {E:XK} {u:Value} {A:yav} (I:Inv X pins σ H s) (hs:X.stack=X.env::X.outer) (hf:X.env.frame=some X.env.locals) (hex:X.ex=[]) (hA:A.frames=some X.stack) (x:CX1 X.prog X.w X.stack H s E u s') {E':Value->yab->Prop} :
  wpAny (model X.prog X.w) A (ydl X.env u) (λ_ s''=>CX1 X.prog X.w X.outer X.H₀ X.s₀ E u s'') E' s':=by
 obtain⟨e,T,C,H',rfl,os,bare,un,hok,he,hT,hHe,hHT,F,q⟩:=x
 have hl:s'.heap.FunFrames X.base X.stack:=by
  have h0:=I.stack
  have all:∀(l:List yaU),(∀b∈frs l,b∈frs X.stack)->s.heap.FunFrames X.base l->s'.heap.FunFrames X.base l:=by
   intro l
   induction l with
   |nil=>intro _ _;trivial
   |cons env r ih=>
    intro hss hl
    obtain⟨hk,⟨L,o,hf',hn,ho,hd⟩,hr⟩:=hl
    have hfr:frs (env::r)=L::frs r:=by unfold frs;rw[ybh,hf']
    rw[hfr]at hss
    have hL:=hss L mS_
    obtain⟨sl,e⟩:=un.slot L o ho (I.stkFree L hL) hL (by simp)
    exact⟨hk,⟨L,_,hf',hn,e,hd⟩,ih (λb hb=>hss b (mM _ hb)) hr⟩
  exact all X.stack (λ_ z=>z) h0
 rw[hs]at hl hA
 refine qgB hA hl hf F λh' T' y1 y2 y3=>?_
 rw[<-hs]at y1
 have hz:∀b∈[e,T],H' b=none:=λb hb=>by
  simp only[yax,nN_,or_false]at hb
  rcases hb with rfl|rfl
  ·exact hHe
  ·exact hHT
 have hzn:∀b∈[e,T],s.heap.get? b=none:=λb hb=>by
  simp only[yax,nN_,or_false]at hb
  rcases hb with rfl|rfl
  ·exact he
  ·exact hT
 obtain⟨z1,z2⟩:=qfx I hs hf hex un hok hz hzn y1
 have up:∀b,s.heap.get? b=none->X.s₀.heap.get? b=none:=λb hb=>by
  cases q:X.s₀.heap.get? b with
  |none=>rfl
  |some o=>
   obtain⟨o',q'⟩:=I.base.there b o q (by rw[hex];simp)
   rw[hb]at q';cases q'
 have up':∀b,s'.heap.get? b=none->s.heap.get? b=none:=λb hb=>by
  cases q:s.heap.get? b with
  |none=>rfl
  |some o=>
   obtain⟨o',q'⟩:=un.there b o q (by simp)
   rw[hb]at q';cases q'
 have hT2:s.heap.get? T'=none:=y3.elim (λz=>z▸hT) (up' T')
 have hHT2:H' T'=none:=y3.elim (λz=>z▸hHT) λz=>by
  cases q:H' T' with
  |none=>rfl
  |some o=>
   obtain⟨o',q'⟩:=uT (hok _ _ q)
   rw[z]at q';cases q'
 exact⟨e,T',C,H',rfl,os.trans I.os,bare,z1,z2,up e he,up T' hT2,hHe,hHT2,y2,q⟩
end
structure XC (base:Heap) (C:Addr) (bm:List Value):Prop where
 hasBase:bm.contains (.type "BaseException")=true
 ex:∃nm q N bs hdct sn sub ab col dd k0 k1 k2 k3 k5 newId initId B bmB mN,base.get? C=some (yfH nm q C N bs bm hdct sn sub ab col dd k0 k1 k2 k3 k5 newId)/\base.Ns N mN/\mN "__init__"=none/\OwnTail base bmB bm/\ExcBaseFacts B newId initId bmB
def qbt (n p:Nat) (body:MS) (ds:List D):R D:=if ds.length=p then match body (yL n ds) with
 |.ok (.rt d _) => .ok d
 |.ok (.nx _) => .ok .non
 |.exc x Z => .exc x Z
 |_ => .bad else .bad
section
variable{X:Cx}{c:Fc}{e:Expr}{es:List Expr}{pos cpos np:Pos}
theorem qjG {x:Str} {C:Addr} {bm:List Value} {t:TA} {E:XK} (hc:X.calm=true) (hg:Gl X x) (hm:X.mg x=some (.ref C)) (xc:XC X.base C bm) (ha:PA X (e::es) t)
  (made:∀pins σ H s h' a us,Inv X pins σ H s->yey s.heap h' a (.ref C) us->E (.ref C) none H->X.xe (.ref a) {s with heap:=h' })
  (hd:(x==("__debug__":Str))=false:=by decide) (he:yac (e::es) X.env=(false,eval e X.env)::yac es X.env:=by rfl) (hpl:(yaN cpos (yac es X.env)).any (·.1)=false:=by rfl) :
  PS X (.Raise (some (.Call (.Name x np) (e::es) [] cpos)) none pos) (λ_ σ H=>t σ H λvs H1=>vs.length<=yat/\E (.ref C) none H1):=by
 intro pins s σ H D I h
 obtain⟨nm,q,N,bs,hdct,sn,sub,ab,col,dd,k0,k1,k2,k3,k5,newId,initId,B,bmB,mN,hC,hN,hni,T,FB⟩:=xc.ex
 refine wpAny_Raise_call_subT (C:=C) (nm:=nm) (q:=q) (N:=N) (bs:=bs) (bm:=bm) (hdct:=hdct) (sn:=sn) (sub:=sub) (ab:=ab) (col:=col) (dd:=dd) (k0:=k0) (k1:=k1) (k2:=k2) (k3:=k3) (k5:=k5)
  FB (mN:=mN) xc.hasBase (I.ok.hd hc) (by rw[he];show(false||(yaN cpos (yac es X.env)).any (·.1))=false;rw[hpl];rfl) hni ?_
 have hn:PE X (.Name x np) (λ_ H Q=>Q (.ref C) H):=qcA hg hm rfl hd
 refine thn (hn pins s σ H (λv H1=>v=.ref C/\H1=H) I ⟨rfl,rfl⟩) λf s1 h1=>?_
 obtain⟨v,H1,I1,rv,rfl,rfl⟩:=h1
 refine⟨rv,?_⟩
 have h2:=ha cpos pins s1 σ _ _ I1 h
 rw[he]at h2 |-
 refine yeF (thn h2 λvs s2 h3=>?_)
 obtain⟨ws,H2,I2,r2,hl,hE⟩:=h3
 refine⟨rfl,by rw[<-r2.length];exact hl,I2.bk _ _ hC,hN.keeps I2.bk,T.keeps I2.bk,λh' a hx=>made pins σ H2 s2 h' a vs I2 hx hE⟩
structure XL (X:Cx) (c:Fc) (cl:Str->Option Addr) (E:XK):Prop where
 made:∀C pins σ H s h' a us,Inv X pins σ H s->yey s.heap h' a (.ref C) us->E (.ref C) none H->X.xe (.ref a) {s with heap:=h' }
 pass:qaZ (CX1 X.prog X.w) X E
 wish:∀x C H',cl x.cls=some C->c.E x H'->E (.ref C) none H'
structure XL2 (X:Cx) (c:Fc) (cl:Str->Option Addr) (E:XK):Prop where
 pass:qaZ (CX1 X.prog X.w) X E
 wish:∀x C H',cl x.cls=some C->c.E x H'->E (.ref C) none H'
theorem XL.two{X:Cx}{c:Fc}{cl:Str->Option Addr}{E:XK}(L:XL X c cl E):XL2 X c cl E:=⟨L.pass,L.wish⟩
def qbu (x:Str) (f:M (List D)):MS:=λZ=>match f Z with
 |.ok (ds,Z')=>if zp ds.length then .exc ⟨x,.non⟩ Z' else .bad
 |.exc z Z' => .exc z Z'
 |.bad => .bad
theorem qaV {x:Str} {C:Addr} {bm:List Value} {f:M (List D)} {E:XK} {cl:Str->Option Addr} (hc:X.calm=true) (L:XL X c cl E) (hcl:cl x=some C) (hg:Gl X x) (hm:X.mg x=some (.ref C)) (xc:XC X.base C bm) (ha:DA X c (e::es) f)
  (hd:(x==("__debug__":Str))=false:=by decide) (he:yac (e::es) X.env=(false,eval e X.env)::yac es X.env:=by rfl) (hpl:(yaN cpos (yac es X.env)).any (·.1)=false:=by rfl) :
  DS X c (.Raise (some (.Call (.Name x np) (e::es) [] cpos)) none pos) (qbu x f):=by
 obtain⟨t,pa,w⟩:=ha
 refine⟨_,qjG (E:=E) hc hg hm xc pa (L.made C) hd he hpl,λZ σ H D r h=>w Z σ H _ r ?_⟩
 unfold qbu at h
 cases ef:f Z with
 |bad=>rw[ef]at h;exact h
 |exc z Z'=>rw[ef]at h;exact λH' r' g'=>h σ H' r' g'.s
 | ok p=>
  obtain⟨ds,Z'⟩:=p
  rw[ef]at h
  intro vs H' r' i' g'
  by_cases hs:zp ds.length=true
  ·simp only[hs,if_true]at h
   exact⟨by rw[i'.length];exact of_decide_eq_true hs,L.wish ⟨x,.non⟩ C H' hcl (h σ H' r' g'.s)⟩
  ·simp only[hs]at h
   exact h.elim
def spX (K:Fr0) (cl:Str->Option Addr) (F:List D->R D):Sp:=λvs H Q E=>∃ds A,IsL K A H ds vs/\qdD K H/\match F ds with
 |.ok d=>∀v H',zZ H H'->Is K (λa=>A a\/H a=none) H' d v->Q v H'
 |.exc x _=>∃C,cl x.cls=some C/\∀H',zZ H H'->E (.ref C) none H'
 |.bad=>False
def yT (RN:List Str) (F:List D->R D) (g:M (List D)):M D:=bnd g λds Z=>match F ds with
 |.ok d => .ok (d,Z)
 |.exc x _=>if RN.contains x.cls then .exc x Z else .bad
 |.bad => .bad
theorem qjH {k:Nat} {f:Addr} {fd:yaS} {ps:List Str} {F:List D->R D} {x:Str} {p:Pos} {g:M (List D)} {E:XK} {cl:Str->Option Addr} (L:XL2 X c cl E) {RN:List Str} (hcl:∀n,RN.contains n=true->(cl n).isSome=true)
  (G:vp X.prog X.w X.K X.mg X.base (CX1 X.prog X.w) k f fd ps (spX X.K cl F)) (hr:yz k X.A) (hg:Gl X x) (hm:X.mg x=some (.ref f)) (hk:yaj X.K (.ref f)=true) (hb:vj X.K fd ps [])
  (ha:DA X c (e::es) g) (hd:(x==("__debug__":Str))=false:=by decide) (he:yac (e::es) X.env=(false,eval e X.env)::yac es X.env:=by rfl) (hpl:(yaN pos (yac es X.env)).any (·.1)=false:=by rfl):DE X c (.Call (.Name x p) (e::es) [] pos) (yT RN F g):=by
 obtain⟨t,pa,w⟩:=ha
 refine⟨_,qa0 G hr hg hm hk hb .nil L.pass pa hd he hpl,λZ σ H Q r h=>w Z σ H _ r (WpL.bnd h λds Z1 vs H1 r1 i1 g1 h1=>?_)⟩
 rw[yaZ]
 refine⟨ds,Cn c σ,i1,r1.tb,?_⟩
 cases ef:F ds with
 |bad=>simp only[ef]at h1;exact h1.elim
 |exc z Z'=>
  simp only[ef]at h1
  by_cases hz:RN.contains z.cls=true
  case neg=>rw[if_neg hz]at h1;exact h1.elim
  rw[if_pos hz]at h1
  obtain⟨C,hC⟩:=Option.isSome_iff_exists.mp (hcl z.cls hz)
  exact⟨C,hC,λH' sm=>L.wish z C H' hC (h1 H' (r1.same sm) (.of_same sm))⟩
 |ok d=>
  simp only[ef]at h1
  exact λv H' sm i=>h1 v H' (r1.same sm) (Is.ext Ext.refl (λa ha _=>ha.elim id r1.new) i) (.of_same sm)
def jf (F:List D->R D) (g:M (List D)):M D:=bnd g λds Z=>match F ds with
 |.ok d => .ok (d,Z)
 |_ => .bad
theorem qjI {k:Nat} {f:Addr} {fd:yaS} {ps:List Str} {F:List D->R D} {x:Str} {p:Pos} {g:M (List D)} {cl:Str->Option Addr}
  (G:vp X.prog X.w X.K X.mg X.base (CX1 X.prog X.w) k f fd ps (spX X.K cl F)) (hr:yz k X.A) (hg:Gl X x) (hm:X.mg x=some (.ref f)) (hk:yaj X.K (.ref f)=true) (hb:vj X.K fd ps [])
  (ha:DA X c (e::es) g) (hd:(x==("__debug__":Str))=false:=by decide) (he:yac (e::es) X.env=(false,eval e X.env)::yac es X.env:=by rfl) (hpl:(yaN pos (yac es X.env)).any (·.1)=false:=by rfl):DE X c (.Call (.Name x p) (e::es) [] pos) (jf F g):=by
 obtain⟨t,pa,w⟩:=ha
 refine⟨_,qa0 (E:=λ_ _ _=>False) G hr hg hm hk hb .nil (λ_ _ _ _ _ _ _ ⟨_,_,_,_,_,_,_,_,_,_,_,_,_,_,z⟩=>z.elim) pa hd he hpl,λZ σ H Q r h=>w Z σ H _ r (WpL.bnd h λds Z1 vs H1 r1 i1 g1 h1=>?_)⟩
 rw[yaZ]
 refine⟨ds,Cn c σ,i1,r1.tb,?_⟩
 cases ef:F ds with
 |bad=>simp only[ef]at h1;exact h1.elim
 |exc z Z'=>simp only[ef]at h1;exact h1.elim
 |ok d=>
  simp only[ef]at h1
  exact λv H' sm i=>h1 v H' (r1.same sm) (Is.ext Ext.refl (λa ha _=>ha.elim id r1.new) i) (.of_same sm)
end
section
variable{P:yas}{w:World}{K:yaf}{mg:Str->Option Value}{base:Heap}
theorem qbv {N:List Str} {qual:Str} {scope:Scope} {f:Addr} {cdv:Value} {A:yav} {outer:List yaU} {s:yab} {H:Hp} {E:XK} {c:Fc} {cl:Str->Option Addr} (hf:(ybj qual scope s.heap.objs.size f cdv).frame=some s.heap.objs.size)
  (hw:∀x C H',cl x.cls=some C->c.E x H'->E (.ref C) none H'):XL (qiW (CX1 P w) P w K mg base N qual scope f cdv A outer s H E) c cl E where
 made:=λC pins σ H1 s1 h' a us I hx hE=>by
  show wpAny (model P w) _ (ydl _ (.ref a)) _ _ _
  refine qgC (s:={s1 with heap:=h' }) (h:=s1.heap) (base:=base) I.ok.frames I.stack hf hx λh2 T' y1 y2 y3=>?_
  have hn:H1 a=none:=by
   cases q:H1 a with
   |none=>rfl
   |some o=>
    obtain⟨o',q'⟩:=uT (I.hok _ _ q)
    rw[hx.new]at q';cases q'
  have hT:s1.heap.get? T'=none:=by
   cases q:s1.heap.get? T' with
   |none=>rfl
   |some o=>rw[show({s1 with heap:=h' }:yab).heap.get? T'=some o from hx.keeps _ _ q]at y3;cases y3
  have hHT:H1 T'=none:=by
   cases q:H1 T' with
   |none=>rfl
   |some o=>
    obtain⟨o',q'⟩:=uT (I.hok _ _ q)
    rw[hT]at q';cases q'
  have up:∀b,s1.heap.get? b=none->s.heap.get? b=none:=λb hb=>by
   cases q:s.heap.get? b with
   |none=>rfl
   |some o=>
    obtain⟨o',q'⟩:=I.base.there b o q (by show b ∉ ([]:List Addr);simp)
    rw[hb]at q';cases q'
  obtain⟨z1,z2⟩:=qfx (s':={s1 with heap:=h' }) I rfl hf rfl (Un.kept hx.keeps) (I.hok.kept hx.keeps) (λb hb=>by rw[ms_]at hb;subst hb;exact hn) (λb hb=>by rw[ms_]at hb;subst hb;exact hx.new) y1
  exact⟨a,T',C,H1,rfl,I.os,I.bare,z1,z2,up a hx.new,up T' hT,hn,hHT,y2,hE⟩
 pass:=λpins σ H1 s1 u s' I x=>qmd I rfl hf rfl I.ok.frames x
 wish:=hw
theorem qbw {x qual:Str} {st:Stmt} {f:Addr} {fd:yaS} {N ps:List Str} {k:Nat} {O:List Nat} {body:MS} {cl:Str->Option Addr} (F:Fun K x qual st f fd) (S:qz N ps (qe st)) (hO:∀i∈O,ps.length<=i)
  (hb:∀(cdv:Value)(A:yav)(outer:List yaU)(s:yab)(H:Hp)(E:XK)(B:Addr->Prop),yz k (A.deeper (ybj qual (qe st) s.heap.objs.size f cdv)) ->
   DSs (qiW (CX1 P w) P w K mg base N qual (qe st) f cdv A outer s H E) (cfn O [] B H (λ_=>False) (λx H'=>∀C,cl x.cls=some C->E (.ref C) none H') λ_=>none) (qy st) body) :
  vp P w K mg base (CX1 P w) (k+1) f fd ps (spX K cl (qbt N.length ps.length body)):=by
 obtain⟨oc,od,kV,doc,pm,an,cdv,ct,osl,rfl,lk,hcd⟩:=F.ex
 refine qnp lk hcd S (λvs H Q E h=>?_) λA outer s H vs Q E hr h=>?_
 ·obtain⟨ds,B,il,_,h⟩:=h
  unfold qbt at h
  by_cases e:ds.length=ps.length
  ·rw[il.length];exact e
  ·rw[if_neg e]at h;exact h.elim
 ·obtain ⟨ds,B,il,tb,h⟩:=h
  obtain⟨t,p,wt⟩:=hb cdv A outer s H E B hr
  refine⟨t,p,?_⟩
  unfold qbt at h
  by_cases e:ds.length=ps.length
  ·rw [if_pos e]at h
   refine wt (yL N.length ds) (ji N vs) H _ (qbk il tb (λi hi=>by rw[e];exact hO i hi)) ?_
   have same:∀{Z:Env}{σ:St}{H':Hp},Rep K (cfn O [] B H (λ_=>False) (λx H'=>∀C,cl x.cls=some C->E (.ref C) none H') λ_=>none) Z σ H'->zZ H H':=λr b o hb=>r.kp b o hb λz=>z
   cases eb:body (yL N.length ds) with
   |bad=>rw[eb]at h;exact h.elim
   | exc z Z=>
    rw[eb]at h
    obtain⟨C,hC,h⟩:=h
    exact λσ' H' r' _ C' hC'=>by
     rw[hC]at hC';cases hC'
     exact h H' (same r')
   |ok fl=>
    rw[eb]at h
    cases fl with
    |nx Z=>exact λσ' H' r' _=>h .non H' (same r') rfl
    |rt d Z=>exact λv σ' H' r' i' _=>h v H' (same r') i'
    |bk Z=>exact h.elim
    |ct Z=>exact h.elim
  ·rw[if_neg e]at h;exact h.elim
structure uU (P:yas) (w:World) (K:yaf) (mg:Str->Option Value) (base:Heap) (k:Nat) (x:Str) (ps:List Str) (sp:Sp):Prop where
 ex:∃f fd,vp P w K mg base (CX1 P w) k f fd ps sp/\mg x=some (.ref f)/\yaj K (.ref f)=true/\vj K fd ps []
end
theorem qn8 {X:Cx} {c:Fc} {st:Stmt} {f:MS} (h:DS X.nox c st f):DS X c st f:=by
 obtain⟨t,p,w⟩:=h
 exact⟨t,λpins s σ H D I hw=>ya1 (p pins s σ H D (I.wish _) hw) (λ_ _ q=>q.unwish) λ_ _ z=>yaT z,w⟩
section
variable{M:Model}{A:yav}{E:Value->yab->Prop}
variable{nm q nm' q':Str}{C S N N':Addr}{bs bm bs' bm':List Value}{hdct hdct':Bool}{sn sn':List Str}{sub sub':List Value}{ab ab':Bool}{col col':Option Bool}{dd dd':Option Addr}{k0 k1 k2 k3 k5 j0 j1 j2 j3 j5:Option Value}{newId newId':String}
theorem qb1 {h:Heap} {g:Array yfI} {d:Drawn} {t:Nat} {os:OsState} {e:Addr} {oe:Obj} {Q:Bool->yab->Prop}
  (hC:h.get? C=some (yfH nm q C N bs bm hdct sn sub ab col dd k0 k1 k2 k3 k5 newId)) (hS:h.get? S=some (yfH nm' q' S N' bs' bm' hdct' sn' sub' ab' col' dd' j0 j1 j2 j3 j5 newId'))
  (he:h.get? e=some oe) (hcls:oe.cls=.ref C) (hbase:bm'.contains (.type "BaseException")=true)
  (hq:Q ((yaq C::bm).contains (.ref S)) ⟨h,g,d,t,os⟩):wpAny M A (excMatches (.ref e) (.ref S)) Q E ⟨h,g,d,t,os⟩:=by
 have hcB:(yaq S::bm').contains (.type "BaseException")=true:=by rw[List.contains_cons,hbase,yfg]
 have f:=tc_notTuple
 unfold excMatches
 repeat (first|(with_reducible refine yfB he ?_;rw[hcls])|with_reducible refine yfB hS ?_|(with_reducible refine yeV hS ?_;rw[hcB])|with_reducible refine yeV hC ?_|wp_step)
 all_goals (first|exact hq|(cases hb:(yaq C::bm).contains (.ref S)<;>(rw[hb]at hq;wp_walk;exact hq)))
end
end L2.Sk
namespace L2
open PySem PySem.Spec PyProof.Rows
def AloneA(A:yav)(H:Hp):Prop:=∃e oe u vs,A.handled=some (.ref e)/\H e=some (.frz oe u)/\oe.data=.fields vs/\vs[2]? = some .none
def qn9(A:yav)(sp:Sp)(dvs:List V)(E:XK)(t:TA):TE:=λσ H Q=>t σ H λvs H1=>AloneA A H1/\sp (vs++dvs) H1 Q E
structure vE (k:Nat) (A:yav):Prop where
 dp:A.depth+3*k+5<ydk
 un:A.units+16*k+200<cLine
 gd:A.guards=some []
theorem vE.mono{j k:Nat}{A:yav}(r:vE k A)(h:j<=k):vE j A:=⟨by have:=r.dp;omega,by have:=r.un;omega,r.gd⟩
theorem vE.deeper {k:Nat} {A:yav} (r:vE (k+1) A) (env:Env):vE k (A.deeper env) :=
 ⟨by have:=r.dp;show A.depth+1+3*k+5<_;omega,by have:=r.un;show A.units+3+16*k+200<_;omega,r.gd⟩
theorem vE.depth{k:Nat}{A:yav}(r:vE k A):A.depth<ydk:=by have:=r.dp;omega
structure qdR (P:yas) (w:World) (K:yaf) (mg:Str->Option Value) (base:Heap) (CX:CXT) (k:Nat) (f:Addr) (fd:yaS) (ps:List Str) (sp:Sp):Prop where
 len:∀vs H Q E,sp vs H Q E->vs.length=ps.length
 run:∀(A:yav)(outer:List Env)(s:yab)(H:Hp)(args:Args)(us:List Value)(vs:List V)(Q:VK)(E:XK),vE k A->AloneA A H->qiV P w K mg base A outer s H->ydW s fd args (ps.zip us)->zt vs us->sp vs H Q E ->
  ycf (model P w) A (.call (.ref f) args) (CR CX outer P w H s Q E) s
def qgE (CX:CXT) (P:yas) (w:World) (K:yaf) (mg:Str->Option Value) (base:Heap) (N:List Str) (qual:Str) (scope:Scope) (f:Addr) (cd:Value) (A:yav) (outer:List Env) (s:yab) (H:Hp) (E:XK):Cx where
 prog:=P
 w:=w
 K:=K
 mg:=mg
 base:=base
 A:=A.deeper (ybj qual scope s.heap.objs.size f cd)
 N:=N
 s₀:=s
 H₀:=H
 env:=ybj qual scope s.heap.objs.size f cd
 outer:=outer
 stack:=ybj qual scope s.heap.objs.size f cd::outer
 ex:=[]
 calm:=false
 fn:=λ_=>true
 pn:=[]
 xe:=λe s'=>wpAny (model P w) (A.deeper (ybj qual scope s.heap.objs.size f cd)) (ydl (ybj qual scope s.heap.objs.size f cd) e) (λ_ s''=>CX outer H s E e s'') (λe' s''=>CX outer H s E e' s'') s'
theorem qgF {CX:CXT} {P:yas} {w:World} {K:yaf} {mg:Str->Option Value} {base:Heap} {N ps:List Str} {qual:Str} {scope:Scope} {f:Addr} {cd:Value} {A:yav} {outer:List Env} {s s1:yab} {H:Hp} {E:XK} {us:List Value} {vs:List V}
  (S:qz N ps scope) (e0:qiV P w K mg base A outer s H) (hl:vs.length=ps.length) (r:zt vs us)
  (x:InCallC s s.heap.objs.size (bindL (ybj qual scope s.heap.objs.size f cd).kindOf (ps.zip us) λ_=>none) (yed (s.heap.objs.size+1) scope.names []) (bindC (ybj qual scope s.heap.objs.size f cd).kindOf (ps.zip us) λ_=>none) s1) :
  Inv (qgE CX P w K mg base N qual scope f cd A outer s H E) [] (ji N vs) H s1:=by
 have hpl:ps.length<=N.length:=by have:=congrArg yfF S.pre;rw[ybe]at this;omega
 obtain⟨h1,tk,rfl,hk⟩:=x.done
 have noA:∀b:Addr,b ∉ (qgE CX P w K mg base N qual scope f cd A outer s H E).ex:=λb z=>absurd (show b∈([]:List Addr)from z) (by simp)
 refine ⟨⟨e0.mod,S.kind,rfl,rfl,yad _,λy z c h1 h2=>?_,λy hy=>?_,λy c _ h=>?_,(λz=>Bool.noConfusion z),yeE e0.frames,.inr ⟨rfl,rfl⟩,λb z=>absurd z (noA b),e0.bs,e0.bsz,λb _ _=>noA b,λb z=>absurd z (noA b),e0.funs,e0.frf⟩,
  rfl,e0.bare,Un.kept hk,⟨_,x.toInCall.ns,λi y v h1 h2 h3=>?_⟩,λy c h=>⟨_,x.cell y c h⟩,e0.hok.fresh (yad _),λy c h=>?_,λp hp=>absurd (show p∈([]:List (Addr×Obj))from hp) (by simp),e0.hok.kept hk,?_⟩
 ·exact name_of_addr x.apart (yaW h1) (yaW h2)
 ·have hy:scope.names.lookup y=some .cell\/scope.names.lookup y=some .free:=hy
  rcases hy with hy|hy
  ·exact qaQ hy
  ·exact absurd rfl (S.nofree _ (yaW hy))
 ·exact yc4 (x.above y c (yaW h))
 ·have hi:i<vs.length:=by
   unfold ji at h2
   by_cases hi:i<vs.length
   ·exact hi
   ·rw[List.getElem?_append_right (by simpa using hi)]at h2
    rw[List.getElem?_replicate]at h2
    split at h2<;>cases h2
  have ha:vs[i]? = some v:=by
   unfold ji at h2
   rw[List.getElem?_append_left (by simpa using hi),gM_]at h2
   cases e:vs[i]? with
   |none=>rw[e]at h2;cases h2
   |some a=>rw[e]at h2;cases h2;rfl
  obtain⟨u,hu,rv⟩:=r.get ha
  have hp:ps[i]? = some y:=by
   rw[<-S.pre,List.getElem?_take_of_lt (by omega)];exact h1
  have ndP:ps.Nodup:=by rw[<-S.pre];exact S.nd.sublist (yfv _ _)
  refine⟨u,rv,?_⟩
  rcases S.par y (ycl hp)with k|k
  ·exact .inl ⟨k,qa1 ndP hp hu k⟩
  ·obtain⟨c,e⟩:=qaQ (n:=s.heap.objs.size+1) k
   refine .inr ⟨.inl k,c,e,?_⟩
   have q:=x.cell y c e
   rw[qa2 ndP hp hu (by show scope.names.lookup y≠_;rw[k];decide)]at q
   exact q
 ·exact e0.hok.fresh (yc4 (x.above y c (yaW h)))
 ·unfold ji
  show _=N.length
  rw[lA_,lM_,ybk]
  omega
theorem qoa {CX:CXT} {P:yas} {w:World} {K:yaf} {mg:Str->Option Value} {base:Heap} {k:Nat} {f:Addr} {name qual:Str} {params:yee} {body:List Stmt} {scope:Scope} {dV kV doc pm cdv ct oc:Value} {an od:Option Addr}
  {osl:Array (Option Value)} {N ps:List Str} {sp:Sp} (lk:K.lookup f=some ⟨oc,od,.func (yap name qual params body scope dV kV doc pm an cdv ct),osl⟩) (hcd:yan K cdv qual=true) (S:qz N ps scope)
  (len:∀vs H Q E,sp vs H Q E->vs.length=ps.length)
  (hbody:∀(A:yav)(outer:List Env)(s:yab)(H:Hp)(vs:List V)(Q:VK)(E:XK),vE k (A.deeper (ybj qual scope s.heap.objs.size f cdv))->AloneA (A.deeper (ybj qual scope s.heap.objs.size f cdv)) H->sp vs H Q E ->
   ∃t,PSs (qgE CX P w K mg base N qual scope f cdv A outer s H E) body t/\t {nx:=λ_ H'=>Q .non H',rt:=Q} (ji N vs) H) :
  qdR P w K mg base CX (k+1) f (yap name qual params body scope dV kV doc pm an cdv ct) ps sp:=by
 refine⟨len,λA outer s H args us vs Q E hr al e0 hb r hsp=>?_⟩
 have hl:=len _ _ _ _ hsp
 have KX:K.In s.heap:=e0.mod.kin.keeps λb o e=>(e0.bs b o e).1
 have lim:s.heap.NoLimit:=e0.mod.nolimit.keeps λb o e=>(e0.bs b o e).1
 have hkind:∀y∈ps.zip us,scope.names.lookup y.1=some .local\/(scope.names.lookup y.1=some .cell/\((yed (s.heap.objs.size+1) scope.names []).lookup y.1).isSome=true):=λ⟨n,v⟩ hy=>by
  rcases S.par n (ycy hy).1 with q|q
  ·exact .inl q
  ·exact .inr ⟨q,ycO _ _ _ (.inl q)⟩
 refine yet hr.depth (KX _ _ lk) rfl S.co S.gen rfl (ye8 KX hcd) (hb _ _ _ _ ?_)
 refine ydD S.kind hkind λenv he s1 x=>?_
 subst he
 refine⟨lim.keeps x.toInCall.keep,codeAny_func ?_⟩
 obtain⟨t,ht,hq⟩:=hbody A outer s H vs Q E (hr.deeper _) al hsp
 have I:Inv (qgE CX P w K mg base N qual scope f cdv A outer s H E) [] (ji N vs) H s1:=qgF S e0 hl r x
 refine ya1 (ht [] s1 (ji N vs) H _ I hq) (λfl s' hs=>?_) λe s' hs=>hs
 have fin:∀{σ':St}{H':Hp}{v:V}{u:Value},Inv (qgE CX P w K mg base N qual scope f cdv A outer s H E) [] σ' H' s'->jG v u->Q v H'->CE outer P w H s Q u s' :=
  λ{σ' H' v u} J rv q=>⟨v,H',J.os,J.bare,J.base,J.hok,rv,q⟩
 cases fl with
 |ret u=>
  obtain⟨v,σ',H',J,rv,q⟩:=hs
  exact fin J rv q
 |next=>
  obtain⟨σ',H',J,q⟩:=hs
  exact fin (v:=V.non) (u:=yaG) J rfl q
 |brk=>
  obtain⟨_,_,_,q⟩:=hs
  exact yaT q
 |cont=>
  obtain⟨_,_,_,q⟩:=hs
  exact yaT q
section
variable{X:Cx}{CX:CXT}{k:Nat}{f C:Addr}{fd:yaS}{ps:List Str}{sp:Sp}{dvs:List V}{ds:List Value}{E:XK}{x m:Str}{p pos apos:Pos}{e o:Expr}{es:List Expr}{ta:TE}{t:TA}
theorem qme {pins:List (Addr×Obj)} {σ:St} {H:Hp} {s:yab} {Q:VK} {us:List Value} {vs:List V} (F:qdR X.prog X.w X.K X.mg X.base CX k f fd ps sp) (hr:vE k X.A) (hb:vj X.K fd ps ds) (hd:zt dvs ds) (hx:qaZ CX X E)
  (I:Inv X pins σ H s) (r:zt vs us) (al:AloneA X.A H) (h:sp (vs++dvs) H Q E):wpAny (model X.prog X.w) X.A (call (.ref f) us) (EP X pins σ Q) X.xe s:=by
 have r2:zt (vs++dvs) (us++ds):=r.append hd
 have hl:(us++ds).length=ps.length:=by rw[<-r2.length];exact F.len _ _ _ _ h
 refine yfN (yc6 (F.run X.A X.stack s H ⟨us,[]⟩ (us++ds) (vs++dvs) Q E hr al I.env0 (hb s us I.kIn hl) r2 h) λr s' hq=>?_)
 cases r with
 |error e=>exact hx pins σ H s e s' I hq
 |ok fl=>
  cases fl with
  |ret u=>exact I.after hq
  |next=>exact yaT hq
  |brk=>exact yaT hq
  |cont=>exact yaT hq
theorem qfy (F:qdR X.prog X.w X.K X.mg X.base CX k f fd ps sp) (hr:vE k X.A) (hg:Gl X x) (hm:X.mg x=some (.ref f)) (hk:yaj X.K (.ref f)=true) (hb:vj X.K fd ps ds) (hd:zt dvs ds) (hx:qaZ CX X E)
  (ha:PA X (e::es) t) (hdb:(x==("__debug__":Str))=false:=by decide) (he:yac (e::es) X.env=(false,eval e X.env)::yac es X.env:=by rfl) (hpl:(yaN pos (yac es X.env)).any (·.1)=false:=by rfl) :
  PE X (.Call (.Name x p) (e::es) [] pos) (qn9 X.A sp dvs E t):=by
 intro pins s σ H Q I h
 refine yb5 (qcz I hg hm ?_ hdb)
 refine ye7 (h₀:=X.base) I.ok.mod.kin hk (thn (ha pos pins s σ H _ I h) λus s1 ⟨vs,H1,I1,r,q⟩=>⟨I1.kIn,?_⟩) he hpl
 exact qme F hr hb hd hx I1 r q.1 q.2
end
end L2
namespace L2.Sk
open PySem PySem.Spec PyProof.Rows
def isT (b:Bool):Value->Bool
 |.bool a=>a==b
 |_=>false
theorem qat:∀{bs:List Bool}{us:List Value},zt (bs.map V.bl) us->us=bs.map ybd
 | [],_,r=>by rw[ybJ]at r;cases r;rfl
 | b::bs,_,r=>by
  rw[mC_]at r
  cases r with
  |cons r1 r2=>
   have e:_=ybd b:=r1
   rw[e,qat r2];rfl
theorem qci (b:Bool):∀bs:List Bool,List.countP (isT b) (bs.map ybd)=bs.countP (·==b)
 | []=>rfl
 |a::bs=>by simp[yd6,qci b bs,isT]
def qkN:V->List V->Hp->VK->Prop:=λx vs H Q=>∃(l:Addr)(bs:List Bool)(b:Bool),x=.ref l/\vs=[.bl b]/\H l=some (.lst (bs.map V.bl))/\Q (.int (bs.countP (·==b))) H
def qkO:V->List V->Hp->VK->Prop:=λx vs H Q=>∃(l:Addr)(bs:List Bool)(b:Bool)(j:Nat),x=.ref l/\vs=[.bl b]/\H l=some (.lst (bs.map V.bl))/\bs.findIdx? (·==b)=some j/\Q (.int j) H
section
variable{X:Cx}
theorem qjJ:MtR X "list.count" qkN:=by
 intro pins s σ H x vs v us Q I rx rv h
 obtain⟨l,bs,b,rfl,rfl,hH,q⟩:=h
 cases rx
 obtain⟨u,rfl,ru⟩:=zt.one rv
 have ru':u=ybd b:=ru
 subst ru'
 obtain⟨z,its,n,r,hl,e⟩:=I.lstM hH
 have hi:=qat r
 subst hi
 refine ycm F.slot_list_count ⟨_,e,rfl⟩ F.entry_list_count (F.args_list_count_2 _ _) (SeqAt.list_countAt l (bs.map ybd).toArray n none #[] (.bool b) (isT b)) ⟨e,λy hy=>?_,?_⟩
 ·have hy':y∈bs.map ybd:=by simpa using hy
  obtain⟨a,_,rfl⟩:=mP_.mp hy'
  exact yc7 a b
 ·refine⟨.int _,H,I.tok _,⟨s.toks,?_⟩,q⟩
  show yb2 _ _=yb2 _ _
  rw[List.toList_toArray,qci]
theorem qjK:MtR X "list.index" qkO:=by
 intro pins s σ H x vs v us Q I rx rv h
 obtain⟨l,bs,b,j,rfl,rfl,hH,hj,q⟩:=h
 cases rx
 obtain⟨u,rfl,ru⟩:=zt.one rv
 have ru':u=ybd b:=ru
 subst ru'
 obtain⟨z,its,n,r,hl,e⟩:=I.lstM hH
 have hi:=qat r
 subst hi
 rw[List.findIdx?_eq_some_iff_getElem]at hj
 obtain⟨h1,h2,h3⟩:=hj
 have hz:bs.length<=yat:=by simpa using z
 rw[yaV]at hz
 refine ycm F.slot_list_index ⟨_,e,rfl⟩ F.entry_list_index (F.args_list_index_2 _ _) (SeqAt.list_indexAt l (bs.map ybd).toArray n none #[] (.bool b) (isT b) j (by simpa using h1) (by omega) ?_ ?_) ⟨e,λy hy=>?_,?_⟩
 ·simpa [isT] using h2
 ·intro m hm hmj
  have:=h3 m hmj
  simpa [isT] using this
 ·have hy':y∈bs.map ybd:=by simpa using hy
  obtain⟨a,_,rfl⟩:=mP_.mp hy'
  exact yc7 a b
 ·exact⟨.int _,H,I.tok _,⟨s.toks,rfl⟩,q⟩
end
def qdS (x:D) (ys:List D):OD:=match x,ys with
 |.lst ds,[.bl b]=>(ug ds).map λbs => .int (bs.countP (·==b))
 |_,_=>none
def qdT (x:D) (ys:List D):OD:=match x,ys with
 |.lst ds,[.bl b]=>(ug ds).bind λbs=>(bs.findIdx? (·==b)).map λj => .int j
 |_,_=>none
def qhZ (F:D->List D->OD) (f:M D) (g:M (List D)):M D:=bnd f λx=>match x with
 |.lst ds=>bnd g λys=>lift (F (.lst ds) ys)
 |_=>λ_ => .bad
def qmf(K:Fr0)(F:D->List D->OD)(r:V->List V->Hp->VK->Prop):Prop:=∀A H x ys d v vs (Q:VK),(∀a,H a=none->A a)->Is K A H x v->IsL K A H ys vs->F x ys=some d->(∀u H',zZ H H'->Is K A H' d u->Q u H')->r v vs H Q
theorem qeJ {K:Fr0}:qmf K qdS qkN:=by
 intro A H x ys d v vs Q hn ix iy e k
 unfold qdS at e
 split at e
 ·rename_i ds b
  obtain⟨u,rfl,e2⟩:=IsL.inv1 iy
  cases e2
  obtain⟨a,xs,rfl,_,ta,il⟩:=ix
  cases eb:ug ds with
  |none=>rw[eb]at e;cases e
  |some bs=>
   rw[eb]at e
   cases e
   rw[uR il eb]at ta
   exact⟨a,bs,b,rfl,rfl,ta,k _ H (zZ.refl H) rfl⟩
 ·cases e
theorem qeK {K:Fr0}:qmf K qdT qkO:=by
 intro A H x ys d v vs Q hn ix iy e k
 unfold qdT at e
 split at e
 ·rename_i ds b
  obtain⟨u,rfl,e2⟩:=IsL.inv1 iy
  cases e2
  obtain⟨a,xs,rfl,_,ta,il⟩:=ix
  cases eb:ug ds with
  |none=>rw[eb]at e;cases e
  | some bs=>
   rw[eb]at e
   cases ej:bs.findIdx? (·==b) with
   |none=>simp only[yd7,ej]at e;cases e
   |some j=>
    simp only[yd7,ej,ydd]at e
    cases e
    rw[uR il eb]at ta
    exact⟨a,bs,b,j,rfl,rfl,ta,ej,k _ H (zZ.refl H) rfl⟩
 ·cases e
section
variable{X:Cx}{c:Fc}{o e:Expr}{es:List Expr}{apos cpos:Pos}
theorem qh0 {id:String} {name:Str} {r:V->List V->Hp->VK->Prop} {F:D->List D->OD} {f:M D} {g:M (List D)} (slot:Slot "list" name id) (hty:typeOf (.builtin id)=pure (.type "method_descriptor")) (hm:MtR X id r) (hF:qmf X.K F r)
  (ho:DE X c o f) (ha:DA X c (e::es) g)
  (hbase:ydE o name X.env (eval o X.env)=eval o X.env:=by rfl)
  (hfew:((yaN cpos (yac (e::es) X.env)).all (λx => !x.1)&&(yck cpos (ybH [] X.env)).all (λx=>x.1.isSome)
   && decide ((e::es).length+([]:List yct).length+(if([]:List yct).isEmpty then 0 else 1)<30))=true:=by rfl)
  (hline:(apos.endLine==cpos.line)=true:=by rfl) (hs:yac (e::es) X.env=(false,eval e X.env)::yac es X.env:=by rfl) (hplain:(yaN cpos (yac es X.env)).any (·.1)=false:=by rfl) :
  DE X c (.Call (.Attribute o name apos) (e::es) [] cpos) (qhZ F f g):=by
 obtain⟨to,po,wo⟩:=ho
 obtain⟨t,pa,wa⟩:=ha
 refine⟨_,qly ycJ slot hty hm po pa hbase hfew hline hs hplain,λZ σ H Q r0 h=>wo Z σ H _ r0 (Wp.bnd h λx Z1 v H1 r1 i1 g1 h1=>?_)⟩
 cases x with
 |lst ds=>
  obtain⟨a,xs,rfl,ha,hH,il⟩:=i1
  refine⟨.inl ⟨rfl,xs,.inl (.inl hH)⟩,wa Z1 σ H1 _ r1 (WpL.bnd h1 λys Z2 vs H2 r2 i2 g2 h2=>?_)⟩
  obtain⟨d,ed,h3⟩:=h2.lift
  exact hF (Cn c σ) H2 (.lst ds) ys d (.ref a) vs Q (λa ha=>r2.new ha) (g2.is ⟨a,xs,rfl,ha,hH,il⟩) i2 ed λu H' sm i=>h3 u H' (r2.same sm) i (.of_same sm)
 |_=>exact h1.elim
end
def isI (b:Int):Value->Bool
 |.int a _=>a==b
 |_=>false
section
variable{X:Cx}
end
def qqk (x:D) (ys:List D):OD:=match x,ys with
 |.lst ds,[.int b]=>(vy ds).map λns => .int (ns.countP (·==b))
 |_,_=>none
@[reducible] def toX (X:Cx) (xe:Value->yab->Prop) (pn:List (Addr×Obj)):Cx:={X with xe:=xe,pn:=pn}
@[reducible] def hdX (X:Cx) (e:Addr):Cx:={X with A:=X.A.mark (some (.ref e)),calm:=false,xe:=λ_ _=>False}
section
variable{X:Cx}{pins:List (Addr×Obj)}{σ:St}{H:Hp}{s:yab}{xe:Value->yab->Prop}
theorem qob (I:Inv X pins σ H s):Inv (toX X xe (X.pn++pins)) [] σ H s :=
 let k:=I.ok
 ⟨⟨k.mod,k.kind,k.glob,k.blt,k.above,k.inj,k.has,k.cab,k.hd,k.frames,k.stk,k.exf,k.bs,k.bsz,k.noex,k.exfs,k.funs,k.frf⟩,I.os,I.bare,I.base,I.loc,I.cell,I.free,I.freeC,
  λp hp=>I.pin p (by rw[yaZ]at hp;exact hp),I.hok,I.len⟩
theorem wT {pins2:List (Addr×Obj)} (I:Inv (toX X xe (X.pn++pins)) pins2 σ H s):Inv X pins σ H s :=
 let k:=I.ok
 ⟨⟨k.mod,k.kind,k.glob,k.blt,k.above,k.inj,k.has,k.cab,k.hd,k.frames,k.stk,k.exf,k.bs,k.bsz,k.noex,k.exfs,k.funs,k.frf⟩,I.os,I.bare,I.base,I.loc,I.cell,I.free,I.freeC,
  λp hp=>I.pin p (ybx _ hp),I.hok,I.len⟩
theorem qkP (e:Addr) (I:Inv X pins σ H s):Inv (hdX X e) pins σ H s :=
 let k:=I.ok
 ⟨⟨k.mod,k.kind,k.glob,k.blt,k.above,k.inj,k.has,k.cab,λz=>(nomatch z),k.frames,k.stk,k.exf,k.bs,k.bsz,k.noex,k.exfs,k.funs,k.frf⟩,I.os,I.bare,I.base,I.loc,I.cell,I.free,I.freeC,I.pin,I.hok,I.len⟩
theorem qjL {e:Addr} {σ':St} {H':Hp} {s':yab} (k:X.Ok) (I:Inv (hdX X e) pins σ' H' s'):Inv X pins σ' H' s' :=
 ⟨k,I.os,I.bare,I.base,I.loc,I.cell,I.free,I.freeC,I.pin,I.hok,I.len⟩
theorem qgG {h':Heap} {m':Str->Option Value} {tk:Nat} (I:Inv X pins σ H s) (hn:h'.Ns X.env.locals m') (hs:ycd X.env.locals s.heap h') :
  Inv X pins (yaw X.N.length none) H {s with heap:=h',toks:=tk}:=by
 obtain⟨m,hn0,_⟩:=id I.loc
 obtain⟨oL,_,_,hoL,_⟩:=id hn0
 have ne:∀b o,X.s₀.heap.get? b=some o->b≠X.env.locals:=λb o q=>yar (yay (yai q) I.ok.above)
 refine⟨I.ok,I.os,I.bare,⟨λb o e n hb hx=>(hs.2 b (ne b o e)).trans (I.base.keep b o e n hb hx),λb o e n hb hx=>?_,I.base.free,λb o e hx=>?_,I.base.tups,I.base.frzs,I.base.tbls⟩,⟨m',hn,λj y v e1 e2 e3=>?_⟩,λy c e=>?_,I.free,I.freeC,λp hp=>?_,λb ob e=>?_,by simp⟩
 ·obtain⟨sl,q⟩:=I.base.slot b o e n hb hx
  exact⟨sl,(hs.2 b (ne b o e)).trans q⟩
 ·obtain⟨o',q⟩:=I.base.there b o e hx
  exact⟨o',(hs.2 b (ne b o e)).trans q⟩
 ·rw[List.getElem?_replicate]at e2
  split at e2<;>cases e2
 ·obtain⟨w',z⟩:=I.cell y c e
  exact⟨w',z.sameBut hs (I.cne y c e)⟩
 ·obtain⟨e,n,nl,nf,d⟩:=I.pin p hp
  exact⟨(hs.2 p.1 nl).trans e,n,nl,nf,d⟩
 ·refine(I.hok b ob e).stay (λc w' hc q=>(hs.2 c ?_).trans q) (λ_ q=>q) λ_ _ q=>q
  rintro rfl
  rcases hc with rfl|hc
  ·rw[I.free]at e;cases e
  ·rw[I.free]at hc;cases hc
theorem qh1 {H':Hp} {h':Heap} (I:Inv X pins σ H s) (u:Un (frs X.stack) [] H H' s.heap h'):h'.FunFrames X.base X.stack:=by
 have all:∀(l:List yaU),(∀b∈frs l,b∈frs X.stack)->s.heap.FunFrames X.base l->h'.FunFrames X.base l:=by
  intro l
  induction l with
  |nil=>intro _ _;trivial
  |cons env r ih=>
   intro hss hl
   obtain⟨hk,⟨L,o,hf',hn,ho,hd⟩,hr⟩:=hl
   have hfr:frs (env::r)=L::frs r:=by unfold frs;rw[ybh,hf']
   rw[hfr]at hss
   have hL:=hss L mS_
   obtain⟨sl,e⟩:=u.slot L o ho (I.stkFree L hL) hL (by simp)
   exact⟨hk,⟨L,_,hf',hn,e,hd⟩,ih (λb hb=>hss b (mM _ hb)) hr⟩
 exact all X.stack (λ_ z=>z) I.stack
theorem qkQ {H':Hp} {h1 h':Heap} {ch:List Addr} (u:Un (frs X.stack) [] H H' s.heap h1) (hchn:∀b∈ch,s.heap.get? b=none) (x:Lft h1 h' ch (frs X.stack)):Un (frs X.stack) [] H H' s.heap h':=by
 have nch:∀b o,s.heap.get? b=some o->b ∉ ch:=λb o q z=>by rw[hchn b z]at q;cases q
 refine⟨λb o q n hb hx=>x.keep b o (nch b o q) hb (u.keep b o q n hb hx),λb o q n hb hx=>?_,u.free,λb o q hx=>?_,u.tups,u.frzs,u.tbls⟩
 ·obtain⟨sl,q1⟩:=u.slot b o q n hb hx
  obtain⟨sl2,q2⟩:=x.slot b _ hb q1
  exact⟨sl2,q2⟩
 ·obtain ⟨o2,q2⟩:=u.there b o q hx
  by_cases hb:b∈frs X.stack
  ·obtain⟨sl,q3⟩:=x.slot b o2 hb q2
   exact⟨_,q3⟩
  ·exact⟨o2,x.keep b o2 (nch b o q) hb q2⟩
theorem qh2 {H':Hp} {h1 h':Heap} {ch:List Addr} (I:Inv X pins σ H s) (u:Un (frs X.stack) [] H H' s.heap h1) (hok:HOk X.prog X.w H' h1) (hch:∀b∈ch,H' b=none) (x:Lft h1 h' ch (frs X.stack)):HOk X.prog X.w H' h' :=
 qkM hok λb o hb1 q=>x.keep b o (λz=>by rw[hch b z]at hb1;cases hb1) (λz=>by
  obtain⟨_,o1,ho1,_⟩:=I.stack.mem z
  rw[u.free b o1 ho1 (I.stkFree b z) (by simp)]at hb1
  cases hb1) q
theorem un_held {H':Hp} {h':Heap} {e:Addr} {o:HO} (u:Un (frs X.stack) [] H H' s.heap h') (he:s.heap.get? e=none) (hHe:H' e=none):Un (frs X.stack) [] H (upd H' e o) s.heap h':=by
 have ne:∀b ob,s.heap.get? b=some ob->b≠e:=λb ob q z=>by rw[z,he]at q;cases q
 have ne':∀b u,H' b=some u->b≠e:=λb u q z=>by rw[z,hHe]at q;cases q
 refine⟨u.keep,u.slot,λb ob q n hx=>by rw[qw (ne b ob q)];exact u.free b ob q n hx,u.there,λb xs q=>?_,λb ob w q=>?_,λb ps y q=>?_⟩
 ·have:=u.tups b xs q
  rw[qw (ne' b _ this)];exact this
 ·have:=u.frzs b ob w q
  rw[qw (ne' b _ this)];exact this
 ·have:=u.tbls b ps y q
  rw[qw (ne' b _ this)];exact this
theorem qjM {P:yas} {w:World} {H':Hp} {h':Heap} {e:Addr} {oe:Obj} (hok:HOk P w H' h') (hHe:H' e=none) (he:h'.get? e=some oe):HOk P w (upd H' e (.frz oe (.own e))) h':=λb ob q=>by
 by_cases hb:b=e
 ·subst hb
  rw[qv]at q
  cases q
  exact⟨he,oe,he⟩
 ·rw[qw hb]at q
  have ne':∀c u,H' c=some u->c≠e:=λc u q z=>by rw[z,hHe]at q;cases q
  exact(hok b ob q).stay (λ_ _ _ q=>q) (λc q=>by rw[qw (ne' c _ q)];exact q) (λc xs q=>by rw[qw (ne' c _ q)];exact q) λc ob y q=>by rw[qw (ne' c _ q)];exact q
end
def qiZ (RN:List Str) (f:MS) (F:List D->R D):MS:=λZ=>match f Z with
 | .exc x Z'=>if RN.contains x.cls then match F [.exc x.cls] with
   |.ok d => .ok (.rt d Z')
   |_ => .bad
  else .bad
 |r=>r
def reE(c:Fc)(E:Exn->Hp->Prop):Fc:={c with E:=E}
theorem Rep.reE{K:Fr0}{c:Fc}{E:Exn->Hp->Prop}{Z:Env}{σ:St}{H:Hp}(r:Rep K c Z σ H):Rep K (Sk.reE c E) Z σ H:=⟨r.len,r.val,r.own,r.inj,r.b0,r.kp,r.dm,r.pO,r.ps⟩
theorem Rep.unE{K:Fr0}{c:Fc}{E:Exn->Hp->Prop}{Z:Env}{σ:St}{H:Hp}(r:Rep K (Sk.reE c E) Z σ H):Rep K c Z σ H:=⟨r.len,r.val,r.own,r.inj,r.b0,r.kp,r.dm,r.pO,r.ps⟩
structure qql (K:Fr0) (base:Heap) (RN:List Str) (S:Addr):Prop where
 sup:∃bm,XC base S bm
 own:∀n C,clR K RN n=some C->∃bm,XC base C bm/\(yaq C::bm).contains (.ref S)=true
 ki:∀n C,clR K RN n=some C->XK6 K C
def ch(H6:Hp):Fc:=⟨[],[],λa=>H6 a=none,H6,λ_=>False,λ_ _=>False,λ_=>none⟩
section
variable{X:Cx}{c:Fc}{pos np hpos p1 p2 p3 p4:Pos}{body:List Stmt}
theorem qoc {x n m:Str} {i:Nat} {S fm:Addr} {fd:yaS} {ps:List Str} {k:Nat} {F:List D->R D} {f:MS} {RN:List Str} (hN:X.N.Nodup) (hcx:X.stack=X.env::X.outer) (hf:X.env.frame=some X.env.locals)
  (hcl:qql X.K X.base RN S) (hgS:Gl X x) (hmS:X.mg x=some (.ref S))
  (G:qdR X.prog X.w X.K X.mg X.base CX0 k fm fd ps (spD X.K F)) (hr:yz k X.A) (hgm:Gl X m) (hmm:X.mg m=some (.ref fm)) (hkm:yaj X.K (.ref fm)=true) (hbm:vj X.K fd ps [])
  (hb:∀(xe:Value->yab->Prop)(pn:List (Addr×Obj))(E:XK)(cE:Exn->Hp->Prop),XL2 (toX X xe pn) (reE c cE) (clR X.K RN) E->DSs (toX X xe pn) (reE c cE) body f)
  (hi:X.N[i]? = some n:=by rfl) (hx:X.env.scope.names.lookup n=some .local:=by rfl) (hkn:X.env.kindOf n=some .local:=by rfl)
  (hdx:(x==("__debug__":Str))=false:=by decide) (hdm:(m==("__debug__":Str))=false:=by decide) (hdn:(n==("__debug__":Str))=false:=by decide) (hcn:(n==("__classdict__":Str))=false:=by decide)
  (hst:yac [.Name n p2] X.env=(false,eval (.Name n p2) X.env)::yac [] X.env:=by rfl) (hpl:(yaN p3 (yac [] X.env)).any (·.1)=false:=by rfl) :
  DS X c (.Try body [.ExceptHandler (some (.Name x np)) (some n) [.Return (some (.Call (.Name m p1) [.Name n p2] [] p3)) p4] hpos] [] [] pos) (qiZ RN f F):=by
 refine⟨λD σ H=>∃Z,Rep X.K c Z σ H/\WpS X.K c σ H D (qiZ RN f F Z),?_,λZ σ H D r h=>⟨Z,r,h⟩⟩
 rintro pins s σ H D I ⟨Z,r,w⟩
 refine wpAny_Try_except ?_
 have hk:=I.ok
 let xe:Value->yab->Prop:=λe sK=>wpAny (model X.prog X.w) X.A (yeg e X.env) (λ_ sQ=>wpAny (model X.prog X.w) X.A (ydw e none) (λ_ sV=>wpAny (model X.prog X.w) X.A (handleBy e X.env [.ExceptHandler (some (.Name x np)) (some n) [.Return (some (.Call (.Name m p1) [.Name n p2] [] p3)) p4] hpos]) (SP X pins D) X.xe sV) X.xe sQ) X.xe sK
 let cE:Exn->Hp->Prop:=λz H'=>∃Z' σ',f Z=.exc z Z'/\Rep X.K c Z' σ' H'/\GrS c.O σ H σ' H'
 let E:XK:=λcv _ H'=>∃C z,cv=.ref C/\clR X.K RN z.cls=some C/\cE z H'
 have L:XL2 (toX X xe (X.pn++pins)) (reE c cE) (clR X.K RN) E:=by
  refine⟨?_,λz C H' h1 h2=>⟨C,z,rfl,h1,h2⟩⟩
  intro pins2 σ2 H2 s2 u s' I2 hx2
  obtain⟨e,T,C,H',rfl,os,bare,un,hok,he,hT,hHe,hHT,Fl,C',z,hC',hz,Z',σ',ef,r',g'⟩:=hx2
  have eC:C=C':=Value.ref.inj hC'
  subst eC
  have I3:Inv X pins σ2 H2 s2:=wT I2
  have hz2:∀b∈[e,T],H' b=none:=λb hb=>by
   simp only[yax,nN_,or_false]at hb
   rcases hb with rfl|rfl
   ·exact hHe
   ·exact hHT
  have hz3:∀b∈[e,T],s2.heap.get? b=none:=λb hb=>by
   simp only[yax,nN_,or_false]at hb
   rcases hb with rfl|rfl
   ·exact he
   ·exact hT
  have hl:s'.heap.FunFrames X.base X.stack:=qh1 I3 un
  have hA:X.A.frames=some (X.env::X.outer):=by rw[<-hcx];exact hk.frames
  show wpAny _ _ _ _ _ _
  rw[hcx]at hl
  refine qdQ hA hl hf Fl λh3 T3 y1 y2 y3=>?_
  rw[<-hcx]at y1
  have un3:Un (frs X.stack) [] H2 H' s2.heap h3:=qkQ un hz3 y1
  have hok3:HOk X.prog X.w H' h3:=qh2 I3 un hok hz2 y1
  have I4:Inv X pins σ2 H' {s' with heap:=h3}:=I3.call' (s':={s' with heap:=h3}) (ch:=[]) os un3 hok3 bare (λb hb=>nomatch hb)
  have up:∀b,s'.heap.get? b=none->s2.heap.get? b=none:=λb hb=>by
   cases q:s2.heap.get? b with
   |none=>rfl
   |some o=>
    obtain⟨o',q'⟩:=un.there b o q (by simp)
    rw[hb]at q';cases q'
  have hT3:s2.heap.get? T3=none:=y3.elim (λz=>z▸hT) (up T3)
  have hHT3:H' T3=none:=y3.elim (λz=>z▸hHT) λz=>by
   cases q:H' T3 with
   |none=>rfl
   |some o=>
    obtain⟨o',q'⟩:=uT (hok _ _ q)
    rw[z]at q';cases q'
  refine wpAny_handleBy_cons (codeAny_handlers_test ?_) (by intro q;cases q)
  refine qcz (X:=hdX X e) (qkP e I4) hgS hmS ?_ hdx
  obtain⟨bmS,xS⟩:=hcl.sup
  obtain⟨bm,xC,hin⟩:=hcl.own _ _ hz
  obtain⟨nmS,qS,NS,bsS,hdctS,snS,subS,abS,colS,ddS,j0,j1,j2,j3,j5,newIdS,_,_,_,_,hS,_⟩:=xS.ex
  obtain⟨nm,q,N,bs,hdct,sn,sub,ab,col,dd,k0,k1,k2,k3,k5,newId,_,_,_,_,hC,_⟩:=xC.ex
  obtain⟨oe,vs,oT,ts,a0,hoe,hoc,hod,_⟩:=id y2
  refine qb1 (M:=model X.prog X.w) (A:=X.A.mark (some (.ref e))) (h:=h3) (g:=s'.gens) (d:=s'.drawn) (t:=s'.toks) (os:=s'.os) (I4.bk _ _ hC) (I4.bk _ _ hS) hoe hoc.1 xS.hasBase ?_
  rw[hin]
  show ycf _ _ _ _ _
  refine codeAny_handlers_suite_as ?_
  have hl3:h3.FunFrames X.base X.stack:=qh1 I3 un3
  refine qgD (s:={s' with heap:=h3}) hl3 y2 λh4 T4 z1 z2 z3=>?_
  have hz4:∀b∈[e,T3],H' b=none:=λb hb=>by
   simp only[yax,nN_,or_false]at hb
   rcases hb with rfl|rfl
   ·exact hHe
   ·exact hHT3
  have hz5:∀b∈[e,T3],s2.heap.get? b=none:=λb hb=>by
   simp only[yax,nN_,or_false]at hb
   rcases hb with rfl|rfl
   ·exact he
   ·exact hT3
  have un4:Un (frs X.stack) [] H2 H' s2.heap h4:=qkQ un3 hz5 z1
  have hok4:HOk X.prog X.w H' h4:=qh2 I3 un3 hok3 hz4 z1
  obtain⟨oe4,vs4,oT4,ts4,a04,hoe4,hoc4,hod4,_⟩:=id z2
  have I5:Inv X pins σ2 (upd H' e (.frz oe4 (.own e))) {s' with heap:=h4}:=I3.call' (s':={s' with heap:=h4}) (ch:=[]) os (un_held un4 he hHe) (qjM hok4 hHe hoe4) bare (λb hb=>nomatch hb)
  refine wB (v:=.ref e) I5 hN hi (.inl hx) rfl (λs5 I6=>?_) (.inr hx)
  have sm:zZ H' (upd H' e (.frz oe4 (.own e))):=qu hHe _
  have hil:IsL X.K (λ_=>False) (upd H' e (.frz oe4 (.own e))) [.exc z.cls] [.ref e]:=⟨.ref e,[],rfl,⟨e,rfl,C,(qff hz).2,hcl.ki _ _ hz,oe4,vs4,qv,hoc4.1,hod4⟩,rfl⟩
  cases em:F [.exc z.cls] with
  |bad=>simp only[qiZ,ef,(qff hz).1,em,if_true]at w;exact w.elim
  |exc z' Z''=>simp only[qiZ,ef,(qff hz).1,em,if_true]at w;exact w.elim
  | ok d=>
   simp only[qiZ,ef,(qff hz).1,em,if_true]at w
   have hσl:i<σ2.length:=by rw[I5.len];exact(gI_.mp hi).1
   have call:=qg6 (qg7 (pos:=p4) (qfy (X:=hdX X e) (E:=λ_ _ _=>False) (pos:=p3) (p:=p1) G ⟨hr.dp,hr.un,hr.gd⟩ hgm hmm hkm hbm .nil (λ_ _ _ _ _ _ _ z=>z.elim) (jH (uH (X:=hdX X e) (pos:=p2) hi (.inl hx) hdn hcn) vv hst) hdm hst hpl))
   have run:=call pins s5 _ _ ({nx:=λ_ _=>False,rt:=D.rt}:qg0) (qkP e I6) ⟨.ref e,List.getElem?_set_self hσl,⟨e,oe4,.own e,vs4,rfl,qv,hod4,hoc4.2.1⟩,[.exc z.cls],λ_=>False,hil,r'.tb.same sm,by
    rw[em]
    exact λv H6 sm6 i6=>w v σ' H6 (r'.same (λb o q=>sm6 b o (sm b o q))) (Is.ext Ext.refl (λa ha _=>ha.elim (λz=>z.elim) λhn=>r'.b0.1 a (r'.dm a (sm.free hn))) i6) (g'.trans (Gr.of_same (λb o q=>sm6 b o (sm b o q))).s)⟩
   refine ya1 run (λfl s6 h6=>?_) (λ_ _ z=>z.elim)
   cases fl with
   |next=>obtain⟨_,_,_,z⟩:=h6;exact z.elim
   |brk=>obtain⟨_,_,_,z⟩:=h6;exact z.elim
   |cont=>obtain⟨_,_,_,z⟩:=h6;exact z.elim
   |ret u=>
    obtain⟨v,σ7,H7,I7,rv,q7⟩:=h6
    have I8:=qjL hk I7
    obtain⟨m8,hn8,_⟩:=id I8.loc
    exact wpAny_nameGoes hkn hn8 (by rw[hk.kind];rfl) λh9 m9 hn9 hs9=>⟨v,_,H7,qgG I8 hn9 hs9,rv,q7⟩
 obtain⟨t,p,wt⟩:=hb xe (X.pn++pins) E cE L
 have w':WpS X.K (reE c cE) σ H D (f Z):=by
  cases ef:f Z with
  |bad=>simp only[qiZ,ef]at w;exact w
  |exc z Z'=>exact λσ' H' r' g'=>⟨Z',σ',ef,r'.unE,g'⟩
  |ok fl=>
   simp only[qiZ,ef]at w
   cases fl with
   |nx Z'=>exact λσ' H' r' g'=>w σ' H' r'.unE g'
   |rt d Z'=>exact λv σ' H' r' i' g'=>w v σ' H' r'.unE i' g'
   |bk Z'=>exact λσ' H' r' g'=>w σ' H' r'.unE g'
   |ct Z'=>exact λσ' H' r' g'=>w σ' H' r'.unE g'
 have run:=p [] s σ H D (qob I) (wt Z σ H D r.reE w')
 refine ya1 run (λfl s1 h1=>?_) (λ_ _ z=>z)
 cases fl with
 |next=>
  obtain⟨σ1,H1,I1,q1⟩:=h1
  exact ycw ⟨σ1,H1,wT I1,q1⟩
 |brk=>obtain⟨σ1,H1,I1,q1⟩:=h1;exact⟨σ1,H1,wT I1,q1⟩
 |cont=>obtain⟨σ1,H1,I1,q1⟩:=h1;exact⟨σ1,H1,wT I1,q1⟩
 |ret u=>obtain⟨v,σ1,H1,I1,rv,q1⟩:=h1;exact⟨v,σ1,H1,wT I1,rv,q1⟩
end
end L2.Sk
namespace L2.Sk
open PySem PySem.Spec PyProof.Rows PySem.W
def bmV:List Value:=[.type "ValueError",.type "Exception",.type "BaseException",.type "object"]
def qgH (K:Fr0) (C S:Addr):Bool:=match K.lookup C with
 |some ⟨_,_,.cls cd,_⟩=>cd.mro.contains (.ref S)
 |_=>false
theorem qfz {K:Fr0} {h:Heap} {C S:Addr} (X:K.In h) (q:excIn K C bmV "ValueError.__new__"=true) (hs:qgH K C S=true):∃bm,XC h C bm/\(yaq C::bm).contains (.ref S)=true:=by
 unfold excIn at q
 split at q
 ·rename_i dd cd sl ho
  split at q
  ·rename_i C' bm k0 k1 k2 k3 n k5 hm hl
   simp only[yag,beq_iff_eq,ydP]at q
   obtain⟨⟨⟨⟨⟨e1,e2⟩,hdel⟩,ht⟩,hok⟩,hni⟩:=q
   subst e1 e2
   unfold qgH at hs
   rw[ho]at hs
   dsimp only at hs
   rw[hm]at hs
   obtain⟨nm,bs,mro,ns,qn,hd,sn,sub,ab,col,del⟩:=cd
   dsimp only at hm hdel hok hni
   subst hm hdel
   have hz:sl = #[k0,k1,k2,k3,some (.builtin _),k5]:=Array.toList_inj.mp hl
   subst hz
   have hT:=tail_of_in X ht
   refine⟨bm,⟨hT.hasType (by decide +kernel),nm,qn,ns,bs,hd,sn,sub,ab,col,dd,k0,k1,k2,k3,k5,_,"ValueError.__init__","ValueError",bmV,_,X _ _ ho,.of_isNs (isNs_of_in X hok),nsMap_none_of_in X hok hni,hT,PySem.F.excBase_ValueError⟩,hs⟩
  ·cases q
 ·cases q
def qmg (K:Fr0) (D:Addr):Bool :=
 findIn K (.ref D) "__getattribute__"==some (some (.builtin "BaseException.__getattribute__"))&&findIn K (.ref D) "__getattr__"==some none &&
 findIn K (.ref D) "__class__"==some (some (.builtin "object.__class__"))&&mroIn K D (.type "object")==some true&&subIn K (.ref D) (.type "BaseException")==some true&&(clsIn K D).isSome &&
 (["int","bool","str","tuple","list","dict"].all λT=>kitOne K (.ref D) (.type T)==some false)
theorem qod {K:Fr0} {D:Addr} (h:qmg K D=true):XK6 K D:=by
 unfold qmg at h
 simp only[yag,beq_iff_eq]at h
 obtain⟨⟨⟨⟨⟨⟨h1,h2⟩,h3⟩,h4⟩,h5⟩,h6⟩,h7⟩:=h
 exact⟨h1,h2,h3,h4,h5,h6,λT hT=>by simpa using List.all_eq_true.mp h7 T hT⟩
def uz(n m:Str):Bool:=n==m||m=="SackError"
def qoe (K:Fr0) (S:Addr) (TN:List Str) (n:Str):Bool:=match vw K n with
 | some C=>excIn K C bmV "ValueError.__new__"&&qgH K C S&&qmg K C&&kitOne K (.ref C) (.type "ValueError")==some true &&
  TN.all λm=>match vw K m with
   |some Cm=>kitOne K (.ref C) (.ref Cm)==some (uz n m)
   |none=>false
 |none=>false
def qpE (K:Fr0) (RN TN:List Str):Bool:=match vw K "SackError" with
 |some S=>excIn K S bmV "ValueError.__new__"&&qgH K S S&&RN.all (qoe K S TN)
 |none=>false
structure XT (K:Fr0) (mg:Str->Option Value) (RN TN:List Str):Prop where
 all:qpE K RN TN=true
 mgc:∀n C,vw K n=some C->mg n=some (.ref C)
theorem qjN {K:Fr0} {h:Heap} {mg:Str->Option Value} (X:K.In h) (G:h.Ns yae mg) (n:Str) (C:Addr) (e:vw K n=some C):mg n=some (.ref C):=by
 unfold vw at e
 split at e
 ·rename_i C' q
  cases e
  exact mg_of X G q
 ·cases e
section
variable{K:Fr0}{mg:Str->Option Value}{RN TN:List Str}
theorem XT.sup (t:XT K mg RN TN):∃S,vw K "SackError"=some S/\excIn K S bmV "ValueError.__new__"=true/\qgH K S S=true/\RN.all (qoe K S TN)=true:=by
 have h:=t.all
 unfold qpE at h
 split at h
 ·rename_i S e
  simp only[yag]at h
  exact⟨S,e,h.1.1,h.1.2,h.2⟩
 ·cases h
theorem XT.row (t:XT K mg RN TN) {S:Addr} (hS:vw K "SackError"=some S) {n:Str} (hn:RN.contains n=true):qoe K S TN n=true:=by
 obtain⟨S',e,_,_,h⟩:=t.sup
 rw[hS]at e
 cases e
 exact List.all_eq_true.mp h n (by simpa using hn)
theorem XT.cls (t:XT K mg RN TN) {n:Str} {C:Addr} (h:clR K RN n=some C):vw K n=some C/\∃S,vw K "SackError"=some S/\excIn K C bmV "ValueError.__new__"=true/\qgH K C S=true/\XK6 K C/\kitOne K (.ref C) (.type "ValueError")=some true /\
  ∀m∈TN,∃Cm,vw K m=some Cm/\kitOne K (.ref C) (.ref Cm)=some (uz n m):=by
 unfold clR at h
 split at h
 ·rename_i hn
  obtain⟨S,hS,_⟩:=t.sup
  have r:=t.row hS hn
  unfold qoe at r
  rw[h]at r
  simp only[yag,beq_iff_eq]at r
  obtain⟨⟨⟨⟨r1,r2⟩,r3⟩,r4⟩,r5⟩:=r
  refine⟨h,S,hS,r1,r2,qod r3,r4,λm hm=>?_⟩
  have:=List.all_eq_true.mp r5 m hm
  split at this
  ·rename_i Cm e
   exact⟨Cm,e,by simpa using this⟩
  ·cases this
 ·cases h
theorem XT.has (t:XT K mg RN TN) {n:Str} (hn:RN.contains n=true):∃C,clR K RN n=some C:=by
 obtain⟨S,hS,_⟩:=t.sup
 have r:=t.row hS hn
 unfold qoe at r
 split at r
 ·rename_i C e
  exact⟨C,by unfold clR;rw[if_pos hn];exact e⟩
 ·cases r
theorem XT.ask (t:XT K mg RN TN) {n m:Str} (hn:RN.contains n=true) (hm:m∈TN):∃Cm,vw K m=some Cm:=by
 obtain⟨C,hC⟩:=t.has hn
 obtain⟨_,_,_,_,_,_,_,h⟩:=t.cls hC
 obtain⟨Cm,e,_⟩:=h m hm
 exact⟨Cm,e⟩
theorem XT.xcls (t:XT K mg RN TN) {base:Heap} (X:K.In base):∃S,mg "SackError"=some (.ref S)/\qql K base RN S:=by
 obtain⟨S,hS,h1,h2,_⟩:=t.sup
 refine⟨S,t.mgc _ _ hS,⟨(qfz X h1 h2).imp λbm h=>h.1,λn C h=>?_,λn C h=>?_⟩⟩
 ·obtain⟨_,S',hS',r1,r2,_⟩:=t.cls h
  rw[hS]at hS'
  cases hS'
  exact qfz X r1 r2
 ·obtain⟨_,_,_,_,_,r,_⟩:=t.cls h
  exact r
end
theorem qjO:typeOf (.builtin "list.count")=pure (.type "method_descriptor"):=by kernel_rfl
theorem qjP:typeOf (.builtin "list.index")=pure (.type "method_descriptor"):=by kernel_rfl
def qgI (RN:List Str) (m:Str) (f:M D):M D:=bnd f λd=>match d with
 |.exc n=>if RN.contains n then ret (.bl (m=="ValueError"||uz n m))else λ_ => .bad
 |_=>λ_ => .bad
section
variable{X:Cx}{c:Fc}{a b e:Expr}{pos:Pos}{RN TN:List Str}
def qqm(K:Fr0)(RN:List Str)(m:Str)(Cm:V):List V->Hp->VK->Prop:=λxs H Q=>∃v n A,xs=[v,Cm]/\RN.contains n=true/\Is K A H (.exc n) v/\Q (.bl (m=="ValueError"||uz n m)) H
theorem qfA {m:Str} {Cm:V} {um:Value} (hr:jG Cm um) (hu:∀u,jG Cm u->u=um) (hk:∀n C,vw X.K n=some C->RN.contains n=true->kitOne X.K (.ref C) um=some (m=="ValueError"||uz n m)):yK X (.builtin "isinstance") (qqm X.K RN m Cm):=by
 intro pins s σ H xs us Q I r h
 obtain⟨v,n,A,rfl,hn,hi,q⟩:=h
 obtain⟨u,w,rfl,r1,r2⟩:=zt.two r
 rw[hu w r2]
 obtain⟨z,rfl,C,hC,h1,h2⟩:=hi
 cases (show u=yaq z from r1)
 exact qcd I h1 h2 (hk n C hC hn) λtk=>⟨.bl _,H,I.tok tk,rfl,q⟩
theorem qh3 {m:Str} {f:M D} {t:TE} {Cm:V} (w:∀Z σ H Q,Rep X.K c Z σ H->Wp X.K c σ H Q (f Z)->t σ H Q):∀Z σ H Q,Rep X.K c Z σ H->Wp X.K c σ H Q (qgI RN m f Z)->tCB (qqm X.K RN m Cm) (qjb t (qjb (tC Cm) qpu)) σ H Q:=λZ σ H Q r h=>w Z σ H _ r (Wp.bnd h λd Z1 v H1 r1 i1 g1 h1=>by
 cases d with
 | exc n=>
  dsimp only at h1
  by_cases hn:RN.contains n=true
  ·rw[if_pos hn]at h1
   exact⟨v,n,_,rfl,hn,i1,h1 _ H1 r1 rfl .refl⟩
  ·rw[if_neg hn]at h1
   exact h1.elim
 |_=>exact h1.elim)
theorem qbx {m:Str} {mgl:Str->Option Value} {p p2:Pos} {f:M D} (t:XT X.K X.mg RN TN) (hm:m∈TN) (hne:(m=="ValueError")=false) (hg:Gl X "isinstance") (hmi:X.mg "isinstance"=none) (hg2:Gl X m) (ha:DE X c a f)
  (hs:∃Cm,vw X.K m=some Cm)
  (hv:yaB "isinstance"=some (.builtin "isinstance"):=by first|rfl|exact PySem.boot_isinstance) (hdb2:(m==("__debug__":Str))=false:=by decide)
  (he:yac [a,.Name m p2] X.env=(false,eval a X.env)::yac [.Name m p2] X.env:=by rfl) (hpl:(yaN pos (yac [.Name m p2] X.env)).any (·.1)=false:=by rfl):DE X c (.Call (.Name "isinstance" p) [a,.Name m p2] [] pos) (qgI RN m f):=by
 obtain⟨ta,pa,w⟩:=ha
 obtain⟨Cm,hCm⟩:=hs
 refine⟨_,vM (qfA (RN:=RN) (m:=m) (Cm:=.ref Cm) (um:=.ref Cm) rfl (λu h=>h) λn C hC hn=>?_) hg hmi hv (jH pa (jH (qcA (v:=.ref Cm) hg2 (t.mgc m Cm hCm) rfl hdb2) vv (by rfl)) he) (by decide) (by decide) he hpl,qh3 w⟩
 have hcl:clR X.K RN n=some C:=by unfold clR;rw[if_pos hn];exact hC
 obtain⟨_,_,_,_,_,_,_,h⟩:=t.cls hcl
 obtain⟨Cm',e1,e2⟩:=h m hm
 rw[hCm]at e1
 cases e1
 rw[e2,hne];rfl
theorem qmh {p p2:Pos} {f:M D} (t:XT X.K X.mg RN TN) (hg:Gl X "isinstance") (hmi:X.mg "isinstance"=none) (hg2:Gl X "ValueError") (hm2:X.mg "ValueError"=none) (ha:DE X c a f)
  (hv:yaB "isinstance"=some (.builtin "isinstance"):=by first|rfl|exact PySem.boot_isinstance) (hv2:yaB "ValueError"=some (.type "ValueError"):=by rfl)
  (he:yac [a,.Name "ValueError" p2] X.env=(false,eval a X.env)::yac [.Name "ValueError" p2] X.env:=by rfl) (hpl:(yaN pos (yac [.Name "ValueError" p2] X.env)).any (·.1)=false:=by rfl):DE X c (.Call (.Name "isinstance" p) [a,.Name "ValueError" p2] [] pos) (qgI RN "ValueError" f):=by
 obtain⟨ta,pa,w⟩:=ha
 refine⟨_,vM (qfA (RN:=RN) (m:="ValueError") (Cm:=.ty "ValueError") (um:=.type "ValueError") rfl (λu h=>h) λn C hC hn=>?_) hg hmi hv (jH pa (jH (qg5 (v:=.ty "ValueError") hg2 hm2 hv2 rfl (by decide) (by decide)) vv (by rfl)) he) (by decide) (by decide) he hpl,qh3 w⟩
 have hcl:clR X.K RN n=some C:=by unfold clR;rw[if_pos hn];exact hC
 obtain⟨_,_,_,_,_,_,h,_⟩:=t.cls hcl
 rw[h];rfl
end
section
variable{P:yas}{w:World}{K:yaf}{mg:Str->Option Value}{base:Heap}
theorem qjQ {x qual:Str} {st:Stmt} {f:Addr} {fd:yaS} {N ps:List Str} {k:Nat} {O:List Nat} {body:MS} (F:Fun K x qual st f fd) (S:qz N ps (qe st)) (hO:∀i∈O,ps.length<=i)
  (hb:∀(cdv:Value)(A:yav)(outer:List yaU)(s:yab)(H:Hp)(E:XK)(B:Addr->Prop),vE k (A.deeper (ybj qual (qe st) s.heap.objs.size f cdv))->AloneA (A.deeper (ybj qual (qe st) s.heap.objs.size f cdv)) H ->
   DSs (qgE CX0 P w K mg base N qual (qe st) f cdv A outer s H E).nox (cfn O [] B H (λ_=>False) (λ_ _=>False) λ_=>none) (qy st) body) :
  qdR P w K mg base CX0 (k+1) f fd ps (spD K (dfn N.length ps.length body)):=by
 obtain⟨oc,od,kV,doc,pm,an,cdv,ct,osl,rfl,lk,hcd⟩:=F.ex
 refine qoa lk hcd S (λvs H Q E h=>?_) (λA outer s H vs Q E hr al h=>?_)
 ·obtain⟨ds,B,il,_,h⟩:=h
  unfold dfn at h
  by_cases e:ds.length=ps.length
  ·rw[il.length];exact e
  ·rw[if_neg e]at h;exact h.elim
 ·obtain ⟨ds,B,il,tb,h⟩:=h
  obtain⟨t,p,wt⟩:=hb cdv A outer s H E B hr al
  refine⟨t,p.nox,?_⟩
  unfold dfn at h
  by_cases e:ds.length=ps.length
  ·rw [if_pos e]at h
   refine wt (yL N.length ds) (ji N vs) H _ (qbk il tb (λi hi=>by rw[e];exact hO i hi)) ?_
   have same:∀{Z:Env}{σ:St}{H':Hp},Rep K (cfn O [] B H (λ_=>False) (λ_ _=>False) λ_=>none) Z σ H'->zZ H H':=λr b o hb=>r.kp b o hb λz=>z
   cases eb:body (yL N.length ds) with
   |bad=>rw[eb]at h;exact h.elim
   |exc z Z=>rw[eb]at h;exact h.elim
   |ok fl=>
    rw[eb]at h
    cases fl with
    |nx Z=>exact λσ' H' r' _=>h .non H' (same r') rfl
    |rt d Z=>exact λv σ' H' r' i' _=>h v H' (same r') i'
    |bk Z=>exact h.elim
    |ct Z=>exact h.elim
  ·rw[if_neg e]at h;exact h.elim
structure qh4 (P:yas) (w:World) (K:yaf) (mg:Str->Option Value) (base:Heap) (k:Nat) (x:Str) (ps:List Str) (sp:Sp):Prop where
 ex:∃f fd,qdR P w K mg base CX0 k f fd ps sp/\mg x=some (.ref f)/\yaj K (.ref f)=true/\vj K fd ps []
end
end L2.Sk
namespace L2.Sk
open PySem PySem.Spec PyProof.Rows
section
variable{Z:Env}{f g:M D}{l:M (List D)}{p q:MS}{RN:List Str}
theorem wU (F:List D->R D):yT RN F l Z=match l Z with|.ok (xs,Z1)=>(match F xs with|.ok d => .ok (d,Z1)|.exc x _=>(if RN.contains x.cls then .exc x Z1 else .bad)|.bad => .bad)|.exc x Z' => .exc x Z'|.bad => .bad:=by
 simp only[yT,bnd]
 cases l Z with
 |ok z=>obtain⟨z1,Z1⟩:=z;cases F z1<;>rfl
 |exc x Z'=>rfl
 |bad=>rfl
theorem qaW (F:List D->R D):jf F l Z=match l Z with|.ok (xs,Z1)=>(match F xs with|.ok d => .ok (d,Z1)|_ => .bad)|.exc x Z' => .exc x Z'|.bad => .bad:=by
 simp only[jf,bnd]
 cases l Z with
 |ok z=>obtain⟨z1,Z1⟩:=z;cases F z1<;>rfl
 |exc x Z'=>rfl
 |bad=>rfl
theorem qfB(x:Str):qbu x l Z=match l Z with|.ok (ds,Z')=>(if zp ds.length then .exc ⟨x,.non⟩ Z' else .bad)|.exc z Z' => .exc z Z'|.bad => .bad:=rfl
theorem qof(F:List D->R D):qiZ RN p F Z=match p Z with|.exc x Z'=>(if RN.contains x.cls then(match F [.exc x.cls] with|.ok d => .ok (.rt d Z')|_ => .bad)else .bad)|r=>r:=rfl
theorem qkR (m:Str):qgI RN m f Z=match f Z with|.ok (.exc n,Z1)=>(if RN.contains n then .ok (.bl (m=="ValueError"||uz n m),Z1)else .bad)|.ok _ => .bad|.exc x Z' => .exc x Z'|.bad => .bad:=by
 simp only[qgI,bnd]
 cases f Z with
 |ok z=>
  obtain⟨z1,Z1⟩:=z
  cases z1<;>first|rfl|(dsimp only;split<;>rfl)
 |exc x Z'=>rfl
 |bad=>rfl
theorem qh5 (F:D->List D->OD):qhZ F f l Z=match f Z with
  |.ok (.lst ds,Z1)=>(match l Z1 with|.ok (ys,Z2)=>(match F (.lst ds) ys with|some d => .ok (d,Z2)|none => .bad)|.exc x Z' => .exc x Z'|.bad => .bad)
  |.ok _ => .bad|.exc x Z' => .exc x Z'|.bad => .bad:=by
 simp only[qhZ,bnd]
 cases f Z with
 | ok z=>
  obtain⟨z1,Z1⟩:=z
  cases z1 with
  |lst ds=>
   show bnd l (λys=>lift (F (D.lst ds) ys)) Z1=(match l Z1 with|.ok (ys,Z2)=>(match F (.lst ds) ys with|some d => .ok (d,Z2)|none => .bad)|.exc x Z' => .exc x Z'|.bad => .bad)
   unfold bnd
   cases l Z1 with
   |ok z=>obtain⟨z2,Z2⟩:=z;(dsimp only;cases F (.lst ds) z2<;>rfl)
   |exc x Z'=>rfl
   |bad=>rfl
  |_=>rfl
 |exc x Z'=>rfl
 |bad=>rfl
end
theorem qeL {n p:Nat} {body:MS} {ds:List D} {d:D} (h:ds.length=p) (e:∃Z,body (yL n ds)=.ok (.rt d Z)):qbt n p body ds=.ok d:=by
 obtain⟨Z,e⟩:=e
 unfold qbt;rw[if_pos h,e]
theorem qfC {n p:Nat} {body:MS} {ds:List D} (h:ds.length=p) (e:∃Z,body (yL n ds)=.ok (.nx Z)):qbt n p body ds=.ok .non:=by
 obtain⟨Z,e⟩:=e
 unfold qbt;rw[if_pos h,e]
theorem qaK {n p:Nat} {body:MS} {ds:List D} {x:Exn} {Z:Env} (h:ds.length=p) (e:body (yL n ds)=.exc x Z):qbt n p body ds=.exc x Z:=by
 unfold qbt;rw[if_pos h,e]
theorem qdU{p q:MS}{Z Z':Env}{x:Exn}(h:p Z=.exc x Z'):qH p q Z=.exc x Z':=by unfold qH;rw[h]
def unO(_:Nat)(c:Fc):Fc:={c with O:=[],P:=[],B:=λ_=>True}
theorem Gr.unSame{c:Fc}{σ:St}{H H':Hp}{i:Nat}(g:Gr (unO i c).O σ H H'):zZ H H':=λb o h=>g.ext.at_ b o (λj hj=>by cases hj) h
theorem Rep.un {K:Fr0} {c:Fc} {Z:Env} {σ:St} {H:Hp} {i:Nat} (r:Rep K c Z σ H) (_:i∈c.O):Rep K (unO i c) Z σ H:=by
 have all:∀b:Addr,Cn (unO i c) σ b:=λb=>⟨trivial,λj hj=>by cases hj⟩
 refine⟨r.len,λk d hk=>?_,λj hj=>(by cases hj),λk j a hk=>(by cases hk),⟨λ_ _=>trivial,r.b0.2⟩,r.kp,r.dm,λj hj=>(by cases hj),λj hj=>(by cases hj)⟩
 obtain⟨v,h1,h2⟩:=r.val k d hk
 refine⟨v,h1,.inr ⟨λz=>(by cases z),?_⟩⟩
 rcases h2 with⟨hk2,ds,a,xs,h3,h5,h6,h7⟩|⟨hk2,h3⟩
 ·subst h3 h5
  exact⟨a,xs,rfl,all a,h6,IsL.ext Ext.refl (λb _ _=>all b) h7⟩
 ·exact Is.ext Ext.refl (λb _ _=>all b) h3
theorem Gr.un{c:Fc}{σ:St}{H H':Hp}{i:Nat}(g:Gr (unO i c).O σ H H'):Gr c.O σ H H':=.of_same g.unSame
theorem Rep.re{K:Fr0}{c:Fc}{Z:Env}{σ:St}{H H':Hp}{i:Nat}(r:Rep K c Z σ H)(_:i∈c.O)(_:Rep K (unO i c) Z σ H')(g:Gr (unO i c).O σ H H'):Rep K c Z σ H':=r.same g.unSame
open Classical in
open Classical in
noncomputable def qcO (f:M Bool):M Bool:=λZ=>match f Z with
 |.ok (d,Z')=>if Z'=Z then .ok (d,Z)else .bad
 |.exc x Z'=>if Z'=Z then .exc x Z else .bad
 |.bad => .bad
open Classical in
noncomputable def qq2 (f:M (List D)):M (List D):=λZ=>match f Z with
 |.ok (d,Z')=>if immL d=true/\Z'=Z then .ok (d,Z)else .bad
 |.exc x Z'=>if Z'=Z then .exc x Z else .bad
 |.bad => .bad
section
variable{X:Cx}{c:Fc}{e:Expr}{pos:Pos}
theorem qmi {i:Nat} {f:M Bool} (h:DT X (unO i c) e f) (ho:i∈c.O:=by exact of_decide_eq_true rfl):DT X c e (qcO f):=by
 obtain⟨t,p,w⟩:=h
 refine⟨t,p,λZ σ H Q r h=>w Z σ H Q (r.un ho) ?_⟩
 unfold qcO at h
 cases ef:f Z with
 |bad=>rw[ef]at h;exact h.elim
 | exc x Z'=>
  rw[ef]at h
  simp only at h
  split at h
  ·rename_i e1
   subst e1
   exact λH' r' g'=>h H' (r.re ho r' g') g'.un
  ·exact h.elim
 | ok q=>
  obtain⟨d,Z'⟩:=q
  rw[ef]at h
  simp only at h
  split at h
  ·rename_i e2
   subst e2
   exact λH' r' g'=>h H' (r.re ho r' g') g'.un
  ·exact h.elim
def qmT(f:M (List D)):M D:=bnd f λds=>ret (.lst ds)
theorem qmj {K:Fr0} {σ:St} {H:Hp} {Q:VK} {f:M (List D)} {Z:Env} (r:Rep K c Z σ H) (h:Wp K c σ H Q (qmT f Z)):WpN K c σ H Q (f Z):=by
 unfold qmT bnd at h
 cases ef:f Z with
 |bad=>rw[ef]at h;exact h
 |exc x Z'=>rw[ef]at h;exact h
 |ok q=>
  rw[ef]at h
  exact λa xs H' hn r' ap ha him il g'=>h _ H' r' ⟨a,xs,rfl,r.new hn,ha,IsL.ext Ext.refl (λ_ h _=>h.1) il⟩ g'
theorem qpF {f:M (List D)} (h:DN X c e f):DE X c e (qmT f):=by
 obtain⟨t,p,w⟩:=h
 exact⟨t,p,λZ σ H Q r h=>w Z σ H Q r (qmj r h)⟩
def qrg:List D->Option (List D)
 | [.int i,.int j]=>if decide (-(2 ^ 62)<=i)&&decide (i<2 ^ 62)&&decide (-(2 ^ 62)<=j)&&decide (j<2 ^ 62)then some (qcJ i (j-i).toNat)else none
 |_=>none
theorem XL2.un{i:Nat}{cl:Str->Option Addr}{E:XK}(L:XL2 X c cl E):XL2 X (unO i c) cl E:=⟨L.pass,L.wish⟩
def qkS (i n:Nat) (g:D->Env->Option Env) (b:MS):Nat->MS
 |0,Z=>match zM i Z with
  |some ds=>if ds.length<=n then .ok (.nx Z)else .bad
  |none => .bad
 | m + 1,Z=>match zM i Z with
  | some ds=>match ds[n-(m+1)]? with
   |none => .bad
   | some d=>match g d Z with
    |none => .bad
    |some Z1=>match b Z1 with
     |.ok (.nx Z2)=>qkS i n g b m Z2
     |.ok (.ct Z2)=>qkS i n g b m Z2
     |.ok (.bk Z2) => .ok (.nx Z2)
     |.ok (.rt r Z2) => .ok (.rt r Z2)
     |.exc x Z2 => .exc x Z2
     |.bad => .bad
  |none => .bad
end
section
variable{Z:Env}{f:M D}{t:M Bool}{n:M (List D)}
open Classical in
open Classical in
theorem qmk:qcO t Z=match t Z with|.ok (d,Z')=>(if Z'=Z then .ok (d,Z)else .bad)|.exc x Z'=>(if Z'=Z then .exc x Z else .bad)|.bad => .bad:=rfl
open Classical in
theorem qog:qmT n Z=match n Z with|.ok (ds,Z') => .ok (.lst ds,Z')|.exc x Z' => .exc x Z'|.bad => .bad:=by
 unfold qmT bnd
 cases n Z<;>rfl
end
theorem qpG {f:M Bool} {Z:Env} {b:Bool} (h:f Z=.ok (b,Z)):qcO f Z=.ok (b,Z):=by
 rw[qmk,h]
 exact if_pos rfl
def qo5(K:Fr0)(neg:Bool):R2:=λx y H Q=>∃d e ds A,Is K A H d x/\Is K A H e y/\sqD e=some ds/\v7 d=true/\v7 e=true/\Q (.bl (if neg then !((toPDs ds).any λy=>ybf y (zF d)) else(toPDs ds).any λy=>ybf y (zF d))) H
def inA (x y:D):OD:=match sqD y with
 |some ds=>if v7 x&&v7 y then some (.bl ((toPDs ds).any λy=>ybf y (zF x)))else none
 |none=>none
section
variable{X:Cx}
theorem qcP {d:D} (h:v7 d=true):(zF d).canLay0=true/\(zF d).depth<=50:=by
 unfold v7 at h
 rw[yag,decide_eq_true_eq]at h
 exact h
theorem qoh {k:Nat} (hr:yz k X.A):OpR X (yaP .In) (qo5 X.K false):=by
 intro pins s σ H x y v u Q I rx ry h
 obtain⟨d,e,ds,A,h1,h2,es,o1,o2,q⟩:=h
 obtain⟨as,r1,_⟩:=uB I (qcg o1) h1 rx
 obtain⟨bs,r2,_⟩:=uB I (qcg o2) h2 ry
 have c1:=(qcP o1).1
 have c2:=(qcP o2).1
 have u1:=(qcP o1).2
 have u:=hr.units
 cases e<;>simp only[sqD]at es<;>try (cases es;done)
 ·cases es
  exact SeqAt.in_tuple_reads r2 r1 (by simpa [zF,ya6] using c2) c1 (by omega) ⟨.bl _,H,I,rfl,by simpa using q⟩
 ·cases es
  exact SeqAt.in_list_reads r2 r1 (by simpa [zF,ya6] using c2) c1 (by omega) ⟨.bl _,H,I,rfl,by simpa using q⟩
end
theorem qml {K:Fr0}:OpS K inA (qo5 K false):=by
 intro A H x y d v u Q hn ix iy e k
 unfold inA at e
 split at e
 ·rename_i ds es
  obtain⟨e1,e2⟩:=z0 e
  subst e2
  rw[yag]at e1
  exact⟨x,y,ds,A,ix,iy,es,e1.1,e1.2,k _ H (zZ.refl H) rfl⟩
 ·cases e
def inB(x y:D):OD:=(inD x y).or (inA x y)
theorem qoi{X:Cx}{k:Nat}(hr:yz k X.A):OpR X (yaP .In) (λx y H Q=>rIn X.K false x y H Q\/qo5 X.K false x y H Q):=OpR.or qhr (qoh hr)
theorem qmm {K:Fr0}:OpS K inB (λx y H Q=>rIn K false x y H Q\/qo5 K false x y H Q):=by
 intro A H x y d v u Q hn ix iy e k
 unfold inB at e
 cases e1:inD x y with
 |some b=>rw[e1]at e;exact .inl (qn7 A H x y d v u Q hn ix iy (by rw[e1];exact e) k)
 |none=>rw[e1]at e;exact .inr (qml A H x y d v u Q hn ix iy e k)
section
variable{prog:yas}{w:World}{A:yav}{R:ye6->yab->Prop}{I:Addr}{fp wr:List Addr}{n:Nat}{P:Nat->Value->Prop}{St:Nat->Heap->Prop}
end
section
variable{prog:yas}{w:World}{A:yav}{E:Value->yab->Prop}{s:yab}
end
def qoj:List D->Option (List (List Int))
 | []=>some []
 |.tup ts::r=>match vy ts,qoj r with
  |some n,some ns=>some (n::ns)
  |_,_=>none
 |_=>none
def qpH(ns:List (List Int))(i:Nat):List Int:=(ns[i]?).getD []
def qpI(ns:List (List Int)):Nat:=argBest (λi j=>HT.lexLt (qpH ns i) (qpH ns j)) (ns.length-1)
def qq3:List D->OD
 | [.lst ds]=>match qoj ds with
  |some (n::ns)=>some (.tup ((qpH (n::ns) (qpI (n::ns))).map .int))
  |_=>none
 |_=>none
section
variable{X:Cx}
end
def qqn (x:D) (ys:List D):OD:=match x,ys with
 |.lst ds,[d]=>if ds.all v7&&v7 d then(ds.findIdx? λe=>ybf (zF e) (zF d)).map λj => .int j else none
 |_,_=>none
section
variable{prog:yas}{w:World}{A:yav}{E:Value->yab->Prop}{s:yab}
end
section
variable{X:Cx}{c:Fc}{a b e:Expr}{pos:Pos}{es:List Expr}{kk:Nat}{tp:Pos}
end
section
variable{X:Cx}{c:Fc}{a b e:Expr}{pos:Pos}{es:List Expr}{kk:Nat}{tp:Pos}
def qok:List D->Option (List D)
 | [.lst xs]=>some (ql6 0 xs)
 |_=>none
def qol(f:M (List D)):M (List D):=bnd f λds=>lift (qok ds)
end
section
variable{X:Cx}{c:Fc}{pos:Pos}
end
section
variable{prog:yas}{w:World}{A:yav}{E:Value->yab->Prop}{s:yab}
end
theorem AloneA.laid {A:yav} {H:Hp} {p:Addr} {o:HO} (x:AloneA A H) (h:H p=none):AloneA A (upd H p o):=by
 obtain⟨e,oe,u,vs,h1,h2,h3⟩:=x
 exact⟨e,oe,u,vs,h1,by rw[qw (za h2 h)];exact h2,h3⟩
theorem AloneA.rep {K:Fr0} {c:Fc} {A:yav} (x:AloneA A c.H0) (hio:∀a,¬c.Io a) (Z:Env) (σ:St) (H:Hp) (r:Rep K c Z σ H):AloneA A H:=by
 obtain⟨e,oe,u,vs,h1,h2,h3⟩:=x
 exact⟨e,oe,u,vs,h1,r.kp _ _ h2 (hio e),h3⟩
end L2.Sk
namespace L2
open PySem PySem.Spec PyProof.Rows L2.Sk
structure qq4 (P:yas) (w:World) (K:yaf) (tg:Expr) (J:It) (fp:List Addr) (it:Addr) (tn:Nat->Heap->Prop):Prop where
 mem:it∈fp
 obj:∀i h,tn i h->∀b∈fp,∃o,h.get? b=some o/\∀v,o.data ≠ .cell v
 keep:∀i h h',tn i h->(∀b∈fp,∀o,h.get? b=some o->h'.get? b=some o)->tn i h'
 item:∀(X:Cx),X.prog=P->X.w=w->X.K=K->AloneA X.A X.H₀->∀(i:Nat)(pins:List (Addr×Obj))(s:yab)(σ:St)(H:Hp)(E:Value->yab->Prop),Inv X pins σ H s->(∀b∈fp,qeq X pins H b)->tn i s.heap->J.go i H ->
  wpAny (model P w) X.A (yeq (.ref it)) (λr s1=>∃u,r=some u /\
   wpAny (model P w) X.A (ycx tg (.ref it) u) (λ_ s2=>∃x H',Inv X pins σ H' s2/\jG x u/\J.yld i H x H'/\tn (i+1) s2.heap/\∀b∈fp,H' b=none) E s1) E s
 done:∀(X:Cx),X.prog=P->X.w=w->X.K=K->AloneA X.A X.H₀->∀(i:Nat)(pins:List (Addr×Obj))(s:yab)(σ:St)(H:Hp)(E:Value->yab->Prop),Inv X pins σ H s->(∀b∈fp,qeq X pins H b)->tn i s.heap->J.stop i H ->
  wpAny (model P w) X.A (yeq (.ref it)) (λr s1=>r=none/\Inv X pins σ H s1) E s
 self:∀(A:yav)(i:Nat)(s:yab)(Q:Value->yab->Prop)(E:Value->yab->Prop),tn i s.heap->Q (.ref it) s->wpAny (model P w) A (pyIter (.ref it)) Q E s
section
variable{X:Cx}{tg:Expr}
end
end L2
namespace L2.Sk
open PySem PySem.Spec PyProof.Rows
section
variable{X:Cx}{tg iter elt:Expr}{ifs:List Expr}{scope:Scope}{pos:Pos}{wi:TI}{N':List Str}{nt:Nat}{fr:List Nat}
end
section
variable{X:Cx}{c:Fc}{tg a b e:Expr}{pos:Pos}
end
theorem vE.units{k:Nat}{A:yav}(r:vE k A):A.units+64<cLine:=by have:=r.un;omega
section
variable{X:Cx}{c:Fc}{e:Expr}{es:List Expr}{pos:Pos}
theorem qjR {k:Nat} {f:Addr} {fd:yaS} {ps:List Str} {F:List D->R D} {x:Str} {p:Pos} {g:M (List D)} (hal:∀Z σ H,Rep X.K c Z σ H->AloneA X.A H)
  (G:qdR X.prog X.w X.K X.mg X.base CX0 k f fd ps (spD X.K F)) (hr:vE k X.A) (hg:Gl X x) (hm:X.mg x=some (.ref f)) (hk:yaj X.K (.ref f)=true) (hb:vj X.K fd ps [])
  (ha:DA X c (e::es) g) (hd:(x==("__debug__":Str))=false:=by decide) (he:yac (e::es) X.env=(false,eval e X.env)::yac es X.env:=by rfl) (hpl:(yaN pos (yac es X.env)).any (·.1)=false:=by rfl):DE X c (.Call (.Name x p) (e::es) [] pos) (qp F g):=by
 obtain⟨t,pa,w⟩:=ha
 refine⟨_,qfy (E:=λ_ _ _=>False) G hr hg hm hk hb .nil (λ_ _ _ _ _ _ _ z=>z.elim) pa hd he hpl,λZ σ H Q r h=>w Z σ H _ r (WpL.bnd h λds Z1 vs H1 r1 i1 g1 h1=>⟨hal _ _ _ r1,?_⟩)⟩
 rw[yaZ]
 refine⟨ds,Cn c σ,i1,r1.tb,?_⟩
 cases ef:F ds with
 |bad=>simp only[ef]at h1;exact h1.elim
 |exc z Z'=>simp only[ef]at h1;exact h1.elim
 |ok d=>
  simp only[ef]at h1
  exact λv H' sm i=>h1 v H' (r1.same sm) (Is.ext Ext.refl (λa ha _=>ha.elim id r1.new) i) (.of_same sm)
end
section
variable{prog:yas}{w:World}{A:yav}{R:ye6->yab->Prop}{I:Addr}{fp wr:List Addr}{n:Nat}{P:Nat->Value->Prop}{St:Nat->Heap->Prop}{dv:Value}
end
section
variable{prog:yas}{w:World}{A:yav}{E:Value->yab->Prop}{s:yab}
end
section
variable{prog:yas}{w:World}{A:yav}{R:ye6->yab->Prop}{I:Addr}{fp wr:List Addr}{n:Nat}{P:Nat->Value->Prop}{St:Nat->Heap->Prop}{dv:Value}
end
section
variable{prog:yas}{w:World}{A:yav}{E:Value->yab->Prop}{s:yab}
end
section
variable{prog:yas}{w:World}{A:yav}{E:Value->yab->Prop}{s:yab}
end
section
variable{X:Cx}
end
section
variable{X:Cx}{c:Fc}{a b e:Expr}{pos:Pos}
def qkT(F:List D->List D->OD)(f g:M (List D)):M D:=bnd f λxs=>bnd g λzs=>lift (F xs zs)
def CallKS(K:Fr0)(F:List D->List D->OD)(r:List V->List V->Hp->VK->Prop):Prop:=∀A H xs zs d vs ws (Q:VK),(∀a,H a=none->A a)->IsL K A H xs vs->IsL K A H zs ws->F xs zs=some d->(∀u H',zZ H H'->Is K A H' d u->Q u H')->r vs ws H Q
end
def qq5 (xs zs:List D):OD:=match xs,zs with
 | [.lst ds],[z]=>(vy ds).map λns=>if ns=[]then z else .int (qo3 ns)
 |_,_=>none
def slB (x:D) (lo hi:Option Int):OD:=match x with
 |.tup ds=>some (.tup (qfn ds lo hi))
 |.lst ds=>some (.lst (qfn ds lo hi))
 |_=>none
def qcQ(f:M D)(g k:M (Option Int)):M D:=bnd f λd=>bnd g λl=>bnd k λu=>lift (slB d l u)
section
variable{X:Cx}{c:Fc}{a b e:Expr}{pos p2:Pos}
theorem uk {lo hi:Option Expr} {f:M D} {g k:M (Option Int)} (ha:DE X c a f) (hl:DO X c lo g) (hu:DO X c hi k):DE X c (.Subscript a (.Slice lo hi none p2) pos) (qcQ f g k):=by
 obtain⟨ta,pa,wa⟩:=ha
 obtain⟨tl,pl,wl⟩:=hl
 obtain⟨tu,pu,wu⟩:=hu
 refine⟨_,qjf (SlR.or qnI qlx) pa pl pu,λZ σ H Q r h=>wa Z σ H _ r (Wp.bnd h λd Z1 v H1 r1 i1 g1 h1=>?_)⟩
 refine wl Z1 σ H1 _ r1 (λl Z2 e2 H2 r2 g2=>?_) (λx Z2 e2 H2 r2 g2=>?_) (λe2=>?_)
 ·rw [qkt e2]at h1
  have h1:=h1.gr g2
  refine wu Z2 σ H2 _ r2 (λu Z3 e3 H3 r3 g3=>?_) (λx Z3 e3 H3 r3 g3=>?_) (λe3=>?_)
  ·rw [qkt e3]at h1
   obtain⟨d',e4,h4⟩:=h1.lift
   have i3:=g3.is (g2.is i1)
   clear h1
   cases d<;>simp only[slB]at e4<;>try (cases e4;done)
   ·rename_i ds
    cases e4
    obtain⟨a,xs,rfl,ta,il⟩:=i3
    refine .inl ?_
    by_cases hw:HT.sIx xs.length 0 l=0/\HT.sIx xs.length xs.length u=xs.length
    ·refine .inl ⟨a,xs,rfl,ta.sq,hw,h4 _ H3 r3 ⟨a,xs,rfl,ta,?_⟩ g3⟩
     have e5:qfn ds l u=ds:=by
      unfold qfn
      rw[<-il.length,hw.1,hw.2]
      simp[il.length]
     rw[e5];exact il
    ·refine .inr ⟨a,xs,rfl,ta.sq,hw,λp hp=>h4 _ _ (r3.laid hp _) ⟨p,qiX xs l u,rfl,.inl qv,?_⟩ (g3.trans (.of_same (qu hp _)))⟩
     refine IsL.ext (Ext.of_same (qu hp _)) (λ_ h _=>h) ?_
     unfold qfn qiX
     rw[<-il.length]
     exact IsL.take _ (IsL.drop _ il)
   ·rename_i ds
    cases e4
    obtain⟨a,xs,rfl,hA,ta,il⟩:=i3
    refine .inr ⟨a,xs,rfl,.inl (.inl ta),λp hp=>h4 _ _ (r3.laid hp _) ⟨p,qiX xs l u,rfl,r3.new hp,qv,?_⟩ (g3.trans (.of_same (qu hp _)))⟩
    refine IsL.ext (Ext.of_same (qu hp _)) (λ_ h _=>h) ?_
    unfold qfn qiX
    rw[<-il.length]
    exact IsL.take _ (IsL.drop _ il)
  ·unfold bnd at h1;rw[e3]at h1;exact h1 H3 r3 g3
  ·unfold bnd at h1;rw[e3]at h1;exact h1
 ·unfold bnd at h1;rw[e2]at h1;exact h1 H2 r2 g2
 ·unfold bnd at h1;rw[e2]at h1;exact h1
def qpJ (x y:D):Option (List D):=match x,y with
 |.lst ds,.int k=>if(decide (-(2 ^ 62)<=k)&&decide (k<2 ^ 62))&&(zp (ds.length*k.toNat)&&immL ds)then some (yaw k.toNat ds).flatten else none
 |_,_=>none
def qqo(f g:M D):M (List D):=bnd f λx=>bnd g λy=>lift (qpJ x y)
def qq6 (f:M D):M (List D):=bnd f λx=>lift (match x with
 |.lst ds=>if immL ds then some ds else none
 |.tup ds=>if immL ds then some ds else none
 |_=>none)
def vF (i:Nat) (f:M D):M D:=λZ=>match zM i Z with
 |none => .bad
 |some _=>(bnd f λd Z=>match d,zM i Z with
  |.lst es,some ds=>if immL es&&zp (ds.length+es.length)then .ok (.non,Z.set i (some (.lst (ds++es))))else .bad
  |_,_ => .bad) Z
theorem qh6 {i:Nat} {x:Str} {p1 apos:Pos} {f:M D} (he:DE X c e f) (ho:i∈c.O:=by exact of_decide_eq_true rfl) (hN:X.N[i]? = some x:=by rfl) (hv:Vis X.env.scope x:=by first|exact ya4 rfl|exact yaI (ya4 rfl)|exact yaI (yaI rfl)) (hd:(x==("__debug__":Str))=false:=by decide) (hcd:(x==("__classdict__":Str))=false:=by decide)
  (hbase:ydE (.Name x p1) "extend" X.env (eval (.Name x p1) X.env)=eval (.Name x p1) X.env:=by rfl)
  (hfew:((yaN pos (yac [e] X.env)).all (λx => !x.1)&&(yck pos (ybH [] X.env)).all (λx=>x.1.isSome)
   && decide ([e].length+([]:List yct).length+(if([]:List yct).isEmpty then 0 else 1)<30))=true:=by rfl)
  (hline:(apos.endLine==pos.line)=true:=by rfl) (hs:yac [e] X.env=(false,eval e X.env)::yac [] X.env:=by rfl) (hplain:(yaN pos (yac [] X.env)).any (·.1)=false:=by rfl) :
  DE X c (.Call (.Attribute (.Name x p1) "extend" apos) [e] [] pos) (vF i f):=by
 obtain⟨t,p,w⟩:=he
 refine⟨_,qly ycJ PySem.F.slot_list_extend PySem.F.type_list_extend qhs (uH hN hv hd hcd) (jH p vv hs) hbase hfew hline hs hplain,λZ σ H Q r h=>?_⟩
 unfold vF at h
 cases e0:zM i Z with
 |none=>rw[e0]at h;exact h.elim
 | some ds0=>
  simp only[e0]at h
  obtain⟨l,xs0,_,hl,hH,_⟩:=r.getLO ho e0
  refine⟨.ref l,hl,.inl ⟨rfl,xs0,.inl (.inl hH)⟩,w Z σ H _ r (Wp.bnd h λd Z1 v H1 r1 i1 g1 h1=>?_)⟩
  cases e1:zM i Z1 with
  |none=>cases d<;>simp only[e1]at h1<;>exact h1.elim
  | some ds=>
   cases d with
   | lst es=>
    simp only[e1]at h1
    by_cases hb:(immL es&&zp (ds.length+es.length))=true
    ·rw [if_pos hb]at h1
     rw[yag]at hb
     obtain⟨l',xs,him,hl',hH',il⟩:=r1.getLO ho e1
     rw[hl]at hl'
     cases hl'
     obtain⟨b,zs,rfl,hA,hB,iz⟩:=i1
     have hsz:ds.length+es.length<=yat:=of_decide_eq_true hb.2
     have ext:Ext (Cn c σ) H1 (upd H1 l (.lst (xs++zs))):=⟨λb us hb=>z9 (wA hb hH' (by intro z;cases z)) hb,λb o u hb=>z9 (wA hb hH' (by intro z;cases z)) hb,λb o hb hq=>z9 (λe=>hb.2 i ho (by rw[hl,e])) hq⟩
     obtain ⟨r2,g2⟩:=r1.io (H':=upd H1 l (.lst (xs++zs))) (bs:=ds++es) ho hl (λb o hb ho=>z9 hb ho) qv trivial
      (IsL.append (IsL.ext ext (λ_ h _=>h) il) (IsL.ext ext (λ_ h _=>h) iz)) (λb hb=>qeE hb)
     exact⟨l,b,xs,zs,rfl,rfl,hH',hB,by rw[il.length,iz.length];exact hsz,h1 _ _ r2 rfl g2⟩
    ·rw[if_neg hb]at h1;exact h1.elim
   |_=>simp only[e1]at h1;exact h1.elim
theorem qjS {pins:List (Addr×Obj)} {σ:St} {H:Hp} {s:yab} (I:Inv X pins σ H s) (j:Nat):Inv X pins (σ.set j none) H s:=by
 refine⟨I.ok,I.os,I.bare,I.base,?_,I.cell,I.free,I.freeC,I.pin,I.hok,by rw[lS_];exact I.len⟩
 obtain⟨m,hn,hl⟩:=I.loc
 refine⟨m,hn,λi x v e1 e2 e3=>?_⟩
 by_cases hij:j=i
 ·subst hij
  rw[List.getElem?_set]at e2
  simp only[if_true]at e2
  split at e2<;>cases e2
 ·rw[List.getElem?_set_ne hij]at e2
  exact hl i x v e1 e2 e3
def qjT (i j:Nat):MS:=λZ=>match zM j Z with
 |some ds => .ok (.nx ((Z.set i (some (.lst ds))).set j none))
 |none => .bad
theorem Rep.moved {K:Fr0} {Z:Env} {σ:St} {H:Hp} {i j:Nat} {ds:List D} (r:Rep K c Z σ H) (hj:j∈c.O) (hP:j ∉ c.P) (hi:i ∉ c.O) (hd:Z[j]? = some (some (.lst ds))) (hil:i<σ.length):∃a,σ[j]? = some (some (.ref a)) /\
  Rep K c ((Z.set i (some (.lst ds))).set j none) ((σ.set i (some (.ref a))).set j none) H/\GrS c.O σ H ((σ.set i (some (.ref a))).set j none) H:=by
 obtain⟨ds',a,xs,e1,hσ,hH,il⟩:=r.getO hj hd
 cases e1
 have hij:i≠j:=λe=>hi (e▸hj)
 have hB:c.B a:=by
  obtain⟨a',_,e2,_,e3⟩:=r.own j hj _ hσ
  cases e2
  exact r.b0.1 a (e3.resolve_right λz=>hP z.1)
 have get:∀k,k≠i->k≠j->((σ.set i (some (.ref a))).set j none)[k]? = σ[k]? := λk h1 h2=>by
  rw[List.getElem?_set_ne (ybo h2),List.getElem?_set_ne (ybo h1)]
 have getj:∀{v:V},((σ.set i (some (.ref a))).set j none)[j]? ≠ some (some v):=λ{v} e=>by
  rw[List.getElem?_set]at e
  simp only[if_true]at e
  split at e<;>cases e
 have cl:∀b,Cl c.O σ b->Cl c.O ((σ.set i (some (.ref a))).set j none) b:=λb hb k hk e=>by
  by_cases h2:k=j
  ·subst h2;exact getj e
  ·exact hb k hk (by rw[<-get k (λe=>hi (e▸hk)) h2];exact e)
 have cla:Cl c.O ((σ.set i (some (.ref a))).set j none) a:=λk hk e=>by
  by_cases h2:k=j
  ·subst h2;exact getj e
  ·rw[get k (λe=>hi (e▸hk)) h2]at e
   exact h2 (r.inj k j a hk hj e hσ)
 refine⟨a,hσ,⟨?_,λk d hk=>?_,λk hk v hv=>?_,λk l b hk hl h1 h2=>?_,r.b0,r.kp,r.dm,r.pO,λk hk=>?_⟩,⟨Ext.refl,λb hb _=>cl b hb,λ_ h=>h⟩⟩
 ·simp only[lS_];exact r.len
 ·have kj:k≠j:=λe=>by
   subst e
   rw[List.getElem?_set]at hk
   simp only[if_true]at hk
   split at hk<;>cases hk
  rw[List.getElem?_set_ne (ybo kj)]at hk
  by_cases ki:k=i
  ·subst ki
   rw[List.getElem?_set_self (by rw[r.len];exact hil)]at hk
   cases hk
   refine⟨.ref a,by rw[List.getElem?_set_ne (ybo kj),List.getElem?_set_self hil],.inr ⟨hi,a,xs,rfl,⟨hB,cla⟩,hH,IsL.ext Ext.refl (λb hb _=>⟨hb.1,cl b hb.2⟩) il⟩⟩
  ·rw[List.getElem?_set_ne (ybo ki)]at hk
   obtain⟨v,h1,h2⟩:=r.val k d hk
   refine⟨v,by rw[get k ki kj];exact h1,?_⟩
   rcases h2 with⟨g1,ds2,b2,xs2,g3,g5,g6,g7⟩|⟨h3,h4⟩
   ·exact .inl ⟨g1,ds2,b2,xs2,g3,g5,g6,IsL.ext Ext.refl (λb hb _=>⟨hb.1,cl b hb.2⟩) g7⟩
   ·exact .inr ⟨h3,Is.ext Ext.refl (λb hb _=>⟨hb.1,cl b hb.2⟩) h4⟩
 ·have kj:k≠j:=λe=>by subst e;exact getj hv
  rw[get k (λe=>hi (e▸hk)) kj]at hv
  exact r.own k hk v hv
 ·have kj:k≠j:=λe=>by subst e;exact getj h1
  have lj:l≠j:=λe=>by subst e;exact getj h2
  rw[get k (λe=>hi (e▸hk)) kj]at h1
  rw[get l (λe=>hi (e▸hl)) lj]at h2
  exact r.inj k l b hk hl h1 h2
 ·have kO:=r.pO k hk
  rw[get k (λe=>hi (e▸kO)) (λe=>hP (e▸hk))]
  exact r.ps k hk
theorem qmn {i j:Nat} {x y:Str} {pos' p1:Pos} (hN:X.N.Nodup) (hj:j∈c.O:=by exact of_decide_eq_true rfl) (hP:j ∉ c.P:=by exact of_decide_eq_false rfl) (ho:i ∉ c.O:=by exact of_decide_eq_false rfl) (hi:X.N[i]? = some x:=by rfl) (hjN:X.N[j]? = some y:=by rfl) (hx:Loc X.env.scope x:=by first|exact ya4 rfl|exact yaI rfl)
  (hv:Vis X.env.scope y:=by first|exact ya4 rfl|exact yaI (ya4 rfl)|exact yaI (yaI rfl)) (hd:(y==("__debug__":Str))=false:=by decide) (hcd:(y==("__classdict__":Str))=false:=by decide)
  (hs:ycA (.Name y p1) (some (.Name x pos')) pos.line X.env=pure false:=by rfl) (hf:X.fn x=true\/X.env.scope.names.lookup x=some .local:=by first|exact .inl rfl|exact .inr rfl|assumption) :
  DS X c (.Assign [.Name x pos'] (.Name y p1) pos) (qjT i j):=by
 refine⟨λD σ H=>σ.length=X.N.length->∃v,σ[j]? = some (some v)/\D.nx ((σ.set i (some v)).set j none) H,?_,λZ σ H D r h hl=>?_⟩
 ·intro pins s σ H D I hq
  obtain⟨v,hσ,q⟩:=hq I.len
  have p:=qg8 (pos:=pos) (pos':=pos') hN hi hx (uH (pos:=p1) hjN hv hd hcd) hs hf pins s σ H ({D with nx:=λσ' H'=>σ'=σ.set i (some v)/\H'=H}:qg0) I ⟨v,hσ,rfl,rfl⟩
  refine ya1 p (λfl s1 h1=>?_) (λ_ _ z=>z)
  cases fl with
  |next=>
   obtain⟨σ1,H1,I1,rfl,rfl⟩:=h1
   exact⟨_,_,qjS I1 j,q⟩
  |brk=>exact h1
  |cont=>exact h1
  |ret u=>exact h1
 ·unfold qjT at h
  cases e0:zM j Z with
  |none=>rw[e0]at h;exact h.elim
  | some ds=>
   rw[e0]at h
   have hd:Z[j]? = some (some (.lst ds)):=by
    unfold zM at e0
    split at e0
    ·rename_i z e;cases e0;exact e
    ·cases e0
   have hil:i<σ.length:=by rw[hl];exact(gI_.mp hi).1
   obtain⟨a,hσ,r2,g2⟩:=r.moved hj hP ho hd hil
   exact⟨.ref a,hσ,h _ H r2 g2⟩
def qqp (f:M (List D)):M (List D):=λZ=>match f Z with
 |.ok ([.tup _],_)=>ql8 f Z
 |_=>qol f Z
end
section
variable{Z:Env}{f g:M D}{l k:M (List D)}
theorem qo6 (F:List D->List D->OD):qkT F l k Z=match l Z with|.ok (xs,Z1)=>(match k Z1 with|.ok (zs,Z2)=>(match F xs zs with|some d => .ok (d,Z2)|none => .bad)|.exc x Z' => .exc x Z'|.bad => .bad)|.exc x Z' => .exc x Z'|.bad => .bad:=by
 simp only[qkT,bnd]
 cases l Z with
 |ok z=>
  obtain⟨z1,Z1⟩:=z
  dsimp only
  cases k Z1 with
  |ok z=>obtain⟨z2,Z2⟩:=z;(dsimp only;cases F z1 z2<;>rfl)
  |exc x Z'=>rfl
  |bad=>rfl
 |exc x Z'=>rfl
 |bad=>rfl
theorem qqq:qqo f g Z=match f Z with|.ok (x,Z1)=>(match g Z1 with|.ok (y,Z2)=>(match qpJ x y with|some ds => .ok (ds,Z2)|none => .bad)|.exc x Z' => .exc x Z'|.bad => .bad)|.exc x Z' => .exc x Z'|.bad => .bad:=by
 simp only[qqo,bnd]
 cases f Z with
 |ok z=>
  obtain⟨z1,Z1⟩:=z
  dsimp only
  cases g Z1 with
  |ok z=>obtain⟨z2,Z2⟩:=z;(dsimp only;cases qpJ z1 z2<;>rfl)
  |exc x Z'=>rfl
  |bad=>rfl
 |exc x Z'=>rfl
 |bad=>rfl
theorem qh7 (i:Nat):vF i f Z=match zM i Z with
  |none => .bad
  |some _=>(match f Z with|.ok (d,Z1)=>(match d,zM i Z1 with|.lst es,some ds=>(if immL es&&zp (ds.length+es.length)then .ok (.non,Z1.set i (some (.lst (ds++es))))else .bad)|_,_ => .bad)|.exc x Z' => .exc x Z'|.bad => .bad):=by
 unfold vF
 cases zM i Z with
 |none=>rfl
 |some z=>
  simp only[bnd]
  cases f Z with
  |ok z=>obtain⟨z1,Z1⟩:=z;rfl
  |exc x Z'=>rfl
  |bad=>rfl
theorem qby (p q:M (Option Int)):qcQ f p q Z=match f Z with|.ok (d,Z1)=>(match p Z1 with|.ok (l,Z2)=>(match q Z2 with|.ok (u,Z3)=>(match slB d l u with|some r => .ok (r,Z3)|none => .bad)|.exc x Z' => .exc x Z'|.bad => .bad)|.exc x Z' => .exc x Z'|.bad => .bad)|.exc x Z' => .exc x Z'|.bad => .bad:=by
 simp only[qcQ,bnd]
 cases f Z with
 | ok z=>
  obtain⟨z1,Z1⟩:=z
  dsimp only
  cases p Z1 with
  |ok z=>
   obtain⟨z2,Z2⟩:=z
   dsimp only
   cases q Z2 with
   |ok z=>obtain⟨z3,Z3⟩:=z;(dsimp only;cases slB z1 z2 z3<;>rfl)
   |exc x Z'=>rfl
   |bad=>rfl
  |exc x Z'=>rfl
  |bad=>rfl
 |exc x Z'=>rfl
 |bad=>rfl
end
section
variable{X:Cx}{c:Fc}{e:Expr}{es:List Expr}{pos:Pos}
theorem dC {k j:Nat} {ps:List Str} {F:List D->R D} {x:Str} {p:Pos} {g:M (List D)} (C:zD X.prog X.w X.K X.mg X.base k x ps (spD X.K F)) (hr:yz j X.A) (ha:DA X c (e::es) g)
  (hk:k<=j:=by decide) (hg:Gl X x:=by rfl) (hd:(x==("__debug__":Str))=false:=by decide) (he:yac (e::es) X.env=(false,eval e X.env)::yac es X.env:=by rfl) (hpl:(yaN pos (yac es X.env)).any (·.1)=false:=by rfl):DE X c (.Call (.Name x p) (e::es) [] pos) (qp F g):=by
 obtain⟨f,fd,G,m,kk,b⟩:=C.ex
 exact qlP G (hr.mono hk) hg m kk b ha hd he hpl
theorem nC {k j:Nat} {ps:List Str} {F:List D->R D} {x:Str} {p:Pos} {g:M (List D)} (C:zD X.prog X.w X.K X.mg X.base k x ps (spD X.K F)) (hr:yz j X.A) (ha:DA X c (e::es) g)
  (hk:k<=j:=by decide) (hg:Gl X x:=by rfl) (hd:(x==("__debug__":Str))=false:=by decide) (he:yac (e::es) X.env=(false,eval e X.env)::yac es X.env:=by rfl) (hpl:(yaN pos (yac es X.env)).any (·.1)=false:=by rfl):DN X c (.Call (.Name x p) (e::es) [] pos) (qdM F g):=by
 obtain⟨f,fd,G,m,kk,b⟩:=C.ex
 exact qlZ G (hr.mono hk) hg m kk b ha hd he hpl
theorem iC {k j i:Nat} {ps:List Str} {F:List D->List D->R (D×List D)} {x y:Str} {p p1:Pos} {g:M (List D)} (C:zD X.prog X.w X.K X.mg X.base k x ps (qes X.K F)) (hr:yz j X.A) (ha:DA X c es g)
  (hk:k<=j:=by decide) (hg:Gl X x:=by rfl) (ho:i∈c.O:=by exact of_decide_eq_true rfl) (hN:X.N[i]? = some y:=by rfl) (hv:Vis X.env.scope y:=by first|exact ya4 rfl|exact yaI (ya4 rfl)|exact yaI (yaI rfl)) (hdy:(y==("__debug__":Str))=false:=by decide) (hcd:(y==("__classdict__":Str))=false:=by decide)
  (hd:(x==("__debug__":Str))=false:=by decide) (he:yac (.Name y p1::es) X.env=(false,eval (.Name y p1) X.env)::yac es X.env:=by rfl) (hpl:(yaN pos (yac es X.env)).any (·.1)=false:=by rfl):DE X c (.Call (.Name x p) (.Name y p1::es) [] pos) (qj F i g):=by
 obtain⟨f,fd,G,m,kk,b⟩:=C.ex
 exact qhH G (hr.mono hk) hg m kk b ha ho hN hv hdy hcd hd he hpl
theorem xC {k j:Nat} {ps:List Str} {F:List D->R D} {x:Str} {p:Pos} {g:M (List D)} {E:XK} {cl:Str->Option Addr} {RN:List Str} (L:XL2 X c cl E) (hcl:∀n,RN.contains n=true->(cl n).isSome=true) (C:uU X.prog X.w X.K X.mg X.base k x ps (spX X.K cl F)) (hr:yz j X.A) (ha:DA X c (e::es) g)
  (hk:k<=j:=by decide) (hg:Gl X x:=by rfl) (hd:(x==("__debug__":Str))=false:=by decide) (he:yac (e::es) X.env=(false,eval e X.env)::yac es X.env:=by rfl) (hpl:(yaN pos (yac es X.env)).any (·.1)=false:=by rfl):DE X c (.Call (.Name x p) (e::es) [] pos) (yT RN F g):=by
 obtain⟨f,fd,G,m,kk,b⟩:=C.ex
 exact qjH L hcl G (hr.mono hk) hg m kk b ha hd he hpl
theorem pC {k j:Nat} {ps:List Str} {F:List D->R D} {x:Str} {p:Pos} {g:M (List D)} {cl:Str->Option Addr} (C:uU X.prog X.w X.K X.mg X.base k x ps (spX X.K cl F)) (hr:yz j X.A) (ha:DA X c (e::es) g)
  (hk:k<=j:=by decide) (hg:Gl X x:=by rfl) (hd:(x==("__debug__":Str))=false:=by decide) (he:yac (e::es) X.env=(false,eval e X.env)::yac es X.env:=by rfl) (hpl:(yaN pos (yac es X.env)).any (·.1)=false:=by rfl):DE X c (.Call (.Name x p) (e::es) [] pos) (jf F g):=by
 obtain⟨f,fd,G,m,kk,b⟩:=C.ex
 exact qjI G (hr.mono hk) hg m kk b ha hd he hpl
theorem lC {k j:Nat} {ps:List Str} {F:List D->R D} {x:Str} {p:Pos} {g:M (List D)} (hal:∀Z σ H,Rep X.K c Z σ H->AloneA X.A H) (C:qh4 X.prog X.w X.K X.mg X.base k x ps (spD X.K F)) (hr:vE j X.A) (ha:DA X c (e::es) g)
  (hk:k<=j:=by decide) (hg:Gl X x:=by rfl) (hd:(x==("__debug__":Str))=false:=by decide) (he:yac (e::es) X.env=(false,eval e X.env)::yac es X.env:=by rfl) (hpl:(yaN pos (yac es X.env)).any (·.1)=false:=by rfl):DE X c (.Call (.Name x p) (e::es) [] pos) (qp F g):=by
 obtain⟨f,fd,G,m,kk,b⟩:=C.ex
 exact qjR hal G (hr.mono hk) hg m kk b ha hd he hpl
theorem gI {x:Str} {i:Int} (h:∃t,X.mg x=some (.int i t)) (hg:Gl X x:=by rfl) (hd:(x==("__debug__":Str))=false:=by decide):DE X c (.Name x pos) (ret (.int i)):=by
 obtain⟨t,h⟩:=h
 exact qhv (v:=.int i) (d:=.int i) hg h ⟨_,rfl⟩ (λ_ _=>rfl) hd
theorem gT {x:Str} {ns:List Int} (h:∃a,X.mg x=some (.ref a)/\qo4 X.K a ns) (hg:Gl X x:=by rfl) (hd:(x==("__debug__":Str))=false:=by decide):DE X c (.Name x pos) (ret (.tup (ns.map .int))):=by
 obtain⟨a,h1,h2⟩:=h
 exact qjE hg h1 h2 hd
end
theorem nd(N:List Str)(h:N.Nodup:=by decide +kernel):N.Nodup:=h
theorem cs {X:Cx} (N N':List Str) (nt:Nat) (fr:List Nat) (outer:Scope) {scope:Scope} (h0:scope.kind=.function:=by rfl) (h1:∀y∈scope.names,y.2 ≠ .cell:=by decide +kernel) (h2:∀y∈scope.names,y.2=.local->scope.names.lookup y.1=some .local:=by decide +kernel)
  (h3:∀y∈scope.names,y.2=.free->outer.names.lookup y.1=some .cell:=by decide +kernel) (h4:N'.length=nt+fr.length:=by rfl) (h5:∀p∈fr.zipIdx,N'[nt+p.2]? = N[p.1]? /\ ((N[p.1]?).bind λx=>scope.names.lookup x)=some .free:=by decide +kernel)
  (h6:X.env.scope=outer:=by rfl) (h7:X.N=N:=by rfl):yB X scope N' nt fr:=ql0.ok (outer:=outer) (N:=N) ⟨h0,h1,h2,h3,h4,h5⟩ h6 h7
theorem f0{c:Fc}{nt:Nat}(fr O:List Nat)(e:c.O=O:=by rfl)(h:∀j∈fr,j ∉ O:=by decide):qlK c nt fr none:=λj hj=>by rw[e];exact h j hj
theorem f1 {c:Fc} (nt:Nat) (fr O:List Nat) (i j:Nat) (e:c.O=O:=by rfl) (h1:j∈O:=by decide) (h2:nt<=i:=by decide) (h3:fr[i-nt]? = some j:=by rfl) (h4:∀p∈fr.zipIdx,nt+p.2≠i->p.1 ∉ O:=by decide):qlK c nt fr (some (i,j)) :=
 ql2 (by rw[e];exact h1) h2 h3 (by rw[e];exact h4)
section
variable{X:Cx}{c:Fc}
end
end L2.Sk
namespace L2.Sk
open PySem PySem.Spec PyProof.Rows
section
variable{X:Cx}{c:Fc}{a b e:Expr}{pos:Pos}
def qh8 (i:Nat) (f:M D):M D:=λZ=>match zM i Z with
 |none => .bad
 |some _=>(bnd f λd Z=>match zM i Z with
  |some ds=>if zp (ds.length+1)then .ok (.non,Z.set i (some (.lst (d::ds))))else .bad
  |none => .bad) Z
end
section
variable{prog:yas}{w:World}{A:yav}{E:Value->yab->Prop}{s:yab}
end
section
variable{X:Cx}{c:Fc}{a e:Expr}{pos:Pos}{tg:Expr}
def qpK:List D->Option (List D)
 | [.tup xs]=>some xs.reverse
 |_=>none
def qqr(f:M (List D)):M (List D):=bnd f λds=>lift (qpK ds)
theorem qqs {l:M (List D)} {Z:Env}:qqr l Z=match l Z with|.ok (d,Z1)=>(match qpK d with|some ds => .ok (ds,Z1)|none => .bad)|.exc x Z' => .exc x Z'|.bad => .bad:=by
 simp only[qqr,bnd]
 cases l Z with
 |ok z=>obtain⟨z1,Z1⟩:=z;(dsimp only;cases qpK z1<;>rfl)
 |exc x Z'=>rfl
 |bad=>rfl
theorem qom {f:M D} {Z:Env} (i:Nat):qh8 i f Z=match zM i Z with
  |none => .bad
  |some _=>(match f Z with
   |.ok (d,Z1)=>(match zM i Z1 with|some ds=>(if zp (ds.length+1)then .ok (.non,Z1.set i (some (.lst (d::ds))))else .bad)|none => .bad)
   |.exc x Z' => .exc x Z'|.bad => .bad):=by
 unfold qh8
 cases zM i Z with
 |none=>rfl
 |some z=>
  simp only[bnd]
  cases f Z with
  |ok z=>obtain⟨z1,Z1⟩:=z;rfl
  |exc x Z'=>rfl
  |bad=>rfl
end
end L2.Sk
namespace HT
open PySem PySem.Spec PyProof.Rows
section
variable{prog:yas}{w:World}{A:yav}{E:Value->yab->Prop}{s:yab}
theorem qh9 (n:Nat):((yal n).map λk=>n-1-k)=(yal n).reverse:=by
 refine List.ext_getElem (by simp) λi h1 h2=>?_
 simp
theorem qfD {α β:Type} {f g:α->Option β}:∀l:List α,(∀a∈l,f a=g a)->l.filterMap f=l.filterMap g
 | [],_=>rfl
 |a::l,h=>by rw[ybh,ybh,h a mS_,qfD l λx hx=>h x (mM _ hx)]
theorem qfE (xs:Array Value):((yal xs.size).filterMap λ(m:Nat)=>xs[(((xs.size:Int)-1)+(m:Int) * -1).toNat]?)=xs.toList.reverse:=by
 have e:((yal xs.size).filterMap λ(m:Nat)=>xs[(((xs.size:Int)-1)+(m:Int) * -1).toNat]?)=((yal xs.size).map λk=>xs.size-1-k).filterMap λx=>xs[x]? := by
  rw[ycE]
  refine qfD _ λm hm=>?_
  have:=mR_.mp hm
  have e:(((xs.size:Int)-1)+(m:Int) * -1).toNat=xs.size-1-m:=by omega
  rw[e]
  rfl
 rw[e,qh9,List.filterMap_reverse]
 have:=pick_run xs 0 xs.size
 rw[ycE]at this
 have e2:((λx=>xs[x]?)∘λx=>0+x)=λx=>xs[x]? := by
  funext x
  show xs[0+x]? = _
  rw[ybr]
 rw[e2]at this
 rw[this,List.drop_zero]
 congr 1
 exact ybI (by simp)
theorem qeM {sl:Addr} {vk:Value} {n:Nat} {Q:Int×Int×Nat->yab->Prop} (hs:s.heap.IsSliceOf sl .none .none vk) (pk:ycD vk (some (-1)))
  (h:Q ((n:Int)-1,-1,n) s):wpAny (model prog w) A (ybQ (.ref sl) (pure (n:Int))) Q E s:=by
 obtain⟨os,hos,hcs,hds⟩:=id hs
 unfold ybQ ydQ
 refine yaa (yaa (yaJ hos hds (x:=.none) rfl (yaa (yaJ hos hds (x:=.none) rfl (yaa (yaJ hos hds (x:=vk) rfl (yah ?_)))))))
 refine yaa (qaj pk ?_)
 show wpAny _ _ (if((-1:Int)==0)=true then _ else _) _ _ s
 rw[if_neg (by decide)]
 refine yaa (ydm (yaa (ydm (yaa (yah ?_)))))
 show wpAny _ _ (pure ((n:Int)-1,(-1:Int),ya9 ((n:Int)-1) (-1) (-1))) _ _ s
 have e:ya9 ((n:Int)-1) (-1) (-1)=n:=by
  unfold ya9
  rw[if_neg (by decide),show(- -1:Int)=1 from rfl,yfb]
  split<;>omega
 rw[e]
 exact yah h
theorem getItem_tuple_rev {t sl:Addr} {items:Array Value} {vk:Value} {Q:Value->yab->Prop} (ht:IsTup s.heap t items) (hs:s.heap.IsSliceOf sl .none .none vk) (pk:ycD vk (some (-1)))
  (h:Q (.ref s.heap.objs.size) {s with heap:=s.heap.push {cls:=.type "tuple",data:=.seq items.toList.reverse.toArray} })
  (hsz:items.size<=yat):wpAny (model prog w) A (ycu (.ref t) (.ref sl)) Q E s:=by
 have htake:sizeOk (.seq items.toList.reverse.toArray):=by
  show items.toList.reverse.toArray.size<=yat
  rw[sT_,ycv,ya2]
  exact hsz
 obtain⟨os,hos,hcs,hds⟩:=id hs
 have hTs:s.TypeIs (.ref sl) "slice":=⟨os,hos,hcs⟩
 unfold ycu
 try with_reducible refine ybn ?_
 first|refine yaa (yah ?_)|skip
 refine yaa (ydO ht.typeIs (by decide) ?_)
 refine yaa (wpAny_callSpecial?_slot (name:=ybl "__getitem__") ht.typeIs ya3
  (ybv ya3 ht.typeIs ydg ?_ (ydt _ _)))
 show wpAny _ _ (ycq (.ref t) >>= _) _ _ s
 refine yaa (yeO ht ?_)
 refine yaa (yd1 hTs ?_)
 rw[if_pos (by decide)]
 refine yaa (qeM hs pk ?_)
 have hno:¬((((items.size:Int)-1)==0&&(-1:Int)==1&&items.size==items.size)=true):=by
  intro q
  rw[yag,yag]at q
  exact absurd q.1.2 (by decide)
 show wpAny _ _ (if(((items.size:Int)-1)==0&&(-1:Int)==1&&items.size==items.size)=true then _ else _) _ _ s
 rw[if_neg hno,qfE]
 first
  |exact yaa (m:=ya0 _) (yaL (yah ⟨_,rfl,yah h⟩) htake)
  |exact yaa (m:=ya0 _) (yaL (yaa (yah (yah ⟨_,rfl,yah h⟩))) htake)
  |exact yaa (yaa (m:=ya0 _) (yaL (yah (yah ⟨_,rfl,yah h⟩)) htake))
  |exact yaa (yaa (m:=ya0 _) (yaL (yah ⟨_,rfl,yah h⟩) htake))
theorem rev_slicePick (its:List Value):yfe its.toArray none none (some (-1))=its.reverse.toArray:=by
 have b:ycc none none (some (-1)) its.toArray.size=((its.toArray.size:Int)-1,-1,-1):=rfl
 unfold yfe
 rw[b]
 show((yfR ((its.toArray.size:Int)-1) (-1) (-1)).filterMap λx=>its.toArray[x]?).toArray=_
 have c:yfR ((its.toArray.size:Int)-1) (-1) (-1)=(yal its.toArray.size).map λ(m:Nat)=>(((its.toArray.size:Int)-1)+(m:Int) * -1).toNat:=by
  unfold yfR
  have e:(if(-1:Int)>0 then(if(its.toArray.size:Int)-1 < -1 then(-1-((its.toArray.size:Int)-1) + -1-1) / -1 else 0)else if(its.toArray.size:Int)-1 > -1 then((its.toArray.size:Int)-1 - -1 - -1-1) / - -1 else 0).toNat=its.toArray.size:=by
   rw[if_neg (by decide),show(- -1:Int)=1 from rfl,yfb]
   split<;>omega
  simp only[e]
  refine mL_ λm _=>?_
  congr 1
  omega
 rw[c,ycE]
 have:=qfE its.toArray
 exact congrArg yaz this
end
end HT
namespace L2
open PySem PySem.Spec PyProof.Rows
section
variable{X:Cx}{e:Expr}{te:TE}{ste:Expr}{ts:TO}{pos p2:Pos}
def qpL(K:yaf):V->Hp->VK->Prop:=λx H Q=>∃a xs,x=.ref a/\((SqT K H a xs/\∀p,H p=none->Q (.ref p) (upd H p (.tup xs.reverse)))\/(SqL K H a xs/\∀p,H p=none->Q (.ref p) (upd H p (.lst xs.reverse))))
theorem qmo (he:PE X e te) (hs:PO X (some ste) ts):PE X (.Subscript e (.Slice none none (some ste) p2) pos) (λσ H Q=>te σ H λx H1=>ts σ H1 λl H2=>l=some (-1)/\qpL X.K x H2 Q):=by
 intro pins s σ H Q I h
 refine yfP (thn (he pins s σ H _ I h) λv s1 ⟨x,H1,I1,r1,q1⟩=>?_)
 refine wpAny_Slice ?_
 rw[yeP]
 refine yah (yah (thn (hs pins s1 σ H1 _ I1 q1) λvk s3 ⟨k,H3,I3,pk,q3⟩=>?_))
 obtain⟨rfl,a,xs,rfl,q3⟩:=q3
 have I4:Inv X pins σ H3 {s3 with heap:=s3.heap.push {cls:=.type "slice",data:=.fields #[.none,.none,vk]} }:=I3.kept (t':=s3.toks) λb ob q=>Heap.get?_push_of_some _ q
 have hsl:=yfc s3.heap .none .none vk
 cases r1
 rcases q3 with⟨hx,q⟩|⟨hx,q⟩
 ·obtain ⟨its,r,ht,hz⟩:=I4.tuple hx
  have hlen:its.toArray.size=xs.length:=by rw[sT_];exact r.length.symm
  have hg:wpAny (model X.prog X.w) X.A (ycu (.ref a) (.ref s3.heap.objs.size)) (EP X pins σ Q) X.xe {s3 with heap:=s3.heap.push {cls:=.type "slice",data:=.fields #[.none,.none,vk]} }:=by
   refine HT.getItem_tuple_rev ht hsl pk ?_ (by rw[hlen];exact hz)
   refine⟨.ref _,_,I4.laid (t':=s3.toks) (o:=.tup xs.reverse) (λb ob q=>Heap.get?_push_of_some _ q) (yad _) ?_,rfl,q _ (I4.hok.fresh (yad _))⟩
   exact⟨by rw[ycv];exact hz,_,r.reverse,yds _ _⟩
  exact tail_any (ops:=[.ref a,.ref s3.heap.objs.size]) ht.typeIs PyProof.Rows.slot_tuple_getitem.lookup hg (by with_unfolding_all rfl)
 ·obtain ⟨its,r,ht,hz⟩:=I4.list hx
  have hlen:=r.length
  have hg:wpAny (model X.prog X.w) X.A (ycu (.ref a) (.ref s3.heap.objs.size)) (EP X pins σ Q) X.xe {s3 with heap:=s3.heap.push {cls:=.type "slice",data:=.fields #[.none,.none,vk]} }:=by
   refine yd2 ht.isList hsl .none .none pk (by simp) ?_ (by rw[sT_]<;>omega)
   rw[HT.rev_slicePick]
   refine⟨.ref _,_,I4.laid (t':=s3.toks) (o:=.lst xs.reverse) (λb ob q=>Heap.get?_push_of_some _ q) (yad _) ?_,rfl,q _ (I4.hok.fresh (yad _))⟩
   exact⟨by rw[ycv];exact hz,_,0,r.reverse,Heap.get?_push_size _ rfl⟩
  exact tail_any (ops:=[.ref a,.ref s3.heap.objs.size]) ht.isList.typeIs slot_list_getitem.lookup hg (by with_unfolding_all rfl)
end
end L2
namespace L2.Sk
open PySem PySem.Spec PyProof.Rows
theorem IsL.rev {K:Fr0} {A:Addr->Prop} {H:Hp}:∀{ds:List D}{xs:List V},IsL K A H ds xs->IsL K A H ds.reverse xs.reverse:=by
 intro ds
 induction ds with
 |nil=>
  intro xs h
  cases xs with
  |nil=>exact h
  |cons x xs=>exact absurd h.length (by simp)
 |cons d ds ih=>
  intro xs h
  obtain⟨x,ys,rfl,h1,h2⟩:=h
  rw[ycK,ycK]
  have one:IsL K A H [d] [x]:=⟨x,[],rfl,h1,IsL.take 0 h2⟩
  exact IsL.append (ih h2) one
def qo7:D->OD
 |.tup ds=>some (.tup ds.reverse)
 |.lst ds=>some (.lst ds.reverse)
 |_=>none
def qgJ(f:M D):M D:=bnd f λd=>lift (qo7 d)
section
variable{X:Cx}{c:Fc}{a:Expr}{pos p2 p3 p4:Pos}{cj:Nat}
theorem qmp {f:M D} (ha:DE X c a f):DE X c (.Subscript a (.Slice none none (some (.UnaryOp .USub (.Constant (.int 1) cj p3) p4)) p2) pos) (qgJ f):=by
 obtain⟨ta,pa,wa⟩:=ha
 obtain⟨tk,pk,wk⟩:=wN (X:=X) (c:=c) (pos:=p4) (qf (X:=X) (c:=c) (i:=1) (j:=cj) (pos:=p3))
 refine⟨_,qmo pa (qhn pk),λZ σ H Q r h=>wa Z σ H _ r (Wp.bnd h λd Z1 v H1 r1 i1 g1 h1=>?_)⟩
 refine wk Z1 σ H1 _ r1 ?_
 have e0:d1 qaI (ret (.int 1)) Z1=.ok (.int (-1),Z1):=rfl
 rw[e0]
 intro u H2 r2 i2 g2
 have hu:u=V.int (-1):=i2
 refine⟨-1,hu,rfl,?_⟩
 obtain⟨d',e,h3⟩:=(h1.gr g2).lift
 have i3:=g2.is i1
 clear h1
 cases d<;>simp only[qo7]at e<;>try (cases e;done)
 ·cases e
  obtain⟨b,xs,rfl,tb,il⟩:=i3
  exact⟨b,xs,rfl,.inl ⟨tb.sq,λp hp=>h3 _ _ (r2.laid hp _) ⟨p,xs.reverse,rfl,.inl qv,IsL.ext (Ext.of_same (qu hp _)) (λ_ h _=>h) (IsL.rev il)⟩ (.of_same (qu hp _))⟩⟩
 ·cases e
  obtain⟨b,xs,rfl,hA,tb,il⟩:=i3
  exact⟨b,xs,rfl,.inr ⟨.inl (.inl tb),λp hp=>h3 _ _ (r2.laid hp _) ⟨p,xs.reverse,rfl,r2.new hp,qv,IsL.ext (Ext.of_same (qu hp _)) (λ_ h _=>h) (IsL.rev il)⟩ (.of_same (qu hp _))⟩⟩
theorem qmq {f:M D} {Z:Env}:qgJ f Z=match f Z with|.ok (d,Z1)=>(match qo7 d with|some x => .ok (x,Z1)|none => .bad)|.exc x Z' => .exc x Z'|.bad => .bad:=by
 simp only[qgJ,bnd]
 cases f Z with
 |ok z=>obtain⟨z1,Z1⟩:=z;(dsimp only;cases qo7 z1<;>rfl)
 |exc x Z'=>rfl
 |bad=>rfl
end
section
variable{X:Cx}{c:Fc}
end
end L2.Sk
namespace L2
open PySem PySem.Spec PyProof.Rows
section
variable{X:Cx}{pins:List (Addr×Obj)}{σ:St}{H:Hp}{s:yab}
theorem qfF{H:Hp}{a:Addr}{o:HO}(h:H a=none):zZ H (upd H a o):=λb u q=>by rw[qw (za q h)];exact q
end
end L2
namespace L2.Srt
open PySem PySem.W PyProof.Rows
def runK {α:Type} (cmp:Nat->Nat->Bool):KasT α->α
 |.ret a=>a
 |.ask i j k=>runK cmp (k (cmp i j))
theorem uL {α β:Type} {cmp:Nat->Nat->Bool} {f:α->KasT β}:∀t:KasT α,runK cmp (t.bind f)=runK cmp (f (runK cmp t))
 |.ret _=>rfl
 |.ask i j k=>uL (k (cmp i j))
def Fits {α:Type} (n:Nat) (R:α->Prop):KasT α->Prop
 |.ret a=>R a
 |.ask i j k=>i<n/\j<n/\∀b,Fits n R (k b)
theorem Fits.bind {α β:Type} {n:Nat} {R:α->Prop} {R':β->Prop} {f:α->KasT β} (hf:∀a,R a->Fits n R' (f a)):∀{t:KasT α},Fits n R t->Fits n R' (t.bind f)
 |.ret _,h=>hf _ h
 |.ask _ _ _,⟨h1,h2,h3⟩=>⟨h1,h2,λb=>Fits.bind hf (h3 b)⟩
theorem Fits.run {α:Type} {n:Nat} {R:α->Prop} {cmp:Nat->Nat->Bool}:∀{t:KasT α},Fits n R t->R (runK cmp t)
 |.ret _,h=>h
 |.ask i j k,h=>Fits.run (t:=k (cmp i j)) (h.2.2 (cmp i j))
def Pl(n:Nat)(p:Array Nat):Prop:=p.size=n/\p.toList.Perm (yal n)
theorem Pl.of_perm{n:Nat}{p q:Array Nat}(h:Pl n p)(hq:q.Perm p):Pl n q:=⟨hq.size_eq.trans h.1,(Array.perm_iff_toList_perm.mp hq).trans h.2⟩
theorem Pl.lt {n:Nat} {p:Array Nat} (h:Pl n p) (hn:0<n) (k:Nat):p.getD k 0<n:=by
 by_cases hk:k<p.size
 ·have e:p.getD k 0=p[k]:=by simp[ydT,hk]
  rw[e]
  have hm:p[k]∈p.toList:=by simp
  exact mR_.mp (h.2.mem_iff.mp hm)
 ·have e:p.getD k 0=0:=by simp[ydT,hk]
  rw[e];exact hn
theorem Pl.rev{n:Nat}{p:Array Nat}(h:Pl n p)(i j:Nat):Pl n (kas_rev p i j):=h.of_perm (mirror_perm _ _ _ _)
theorem qcR {n:Nat} (hn:0<n) {p:Array Nat} (h:Pl n p):∀f m,Fits n (λ_=>True) (kas_asc p f m)
 |0,_=>yb4
 |f+1,m=>⟨h.lt hn _,h.lt hn _,λc=>by
  dsimp only
  split
  ·exact yb4
  ·exact qcR hn h f (m+1)⟩
theorem wV {n:Nat} (hn:0<n):∀f {p:Array Nat} (_:Pl n p) m q,Fits n (λr=>Pl n r.1) (kas_desc f p m q)
 |0,_,h,_,_=>h
 | f+1,p,h,m,q=>⟨h.lt hn _,h.lt hn _,λc=>by
  dsimp only
  split
  ·split
   ·exact wV hn f (h.rev _ _) _ _
   ·exact wV hn f h _ _
  ·refine⟨h.lt hn _,h.lt hn _,λd=>?_⟩
   dsimp only
   split
   ·exact h
   ·exact wV hn f h _ _⟩
theorem qcj {n:Nat} (hn:0<n) {p:Array Nat} (h:Pl n p) (m nrem:Nat):Fits n (λr=>Pl n r.2) (kas_tail3 m nrem p) :=
 Fits.bind (R:=λ_=>True) (n:=n) (R':=λr:Nat×Array Nat=>Pl n r.2) (f:=λk => .ret (k,kas_rev p 0 m)) (λ_ _=>h.rev 0 m) (qcR hn (h.rev _ _) _ _)
theorem wW {n:Nat} (hn:0<n) {p:Array Nat} (h:Pl n p) (m nrem:Nat):Fits n (λr=>Pl n r.2) (kas_descPart m nrem p) :=
 Fits.bind (R:=λr=>Pl n r.1) (λr hr=>by
  split
  ·exact qcj hn (hr.rev _ _) _ _
  ·exact qcj hn hr _ _) (wV hn _ h _ _)
theorem qgK {n:Nat} (hn:0<n) {p:Array Nat} (h:Pl n p) (nrem:Nat):Fits n (λr=>Pl n r.2) (kas_count nrem p) :=
 Fits.bind (R:=λ_=>True) (λm _=>by
  split
  ·exact h
  ·split
   ·refine⟨h.lt hn _,h.lt hn _,λc=>?_⟩
    dsimp only
    split
    ·exact h
    ·exact wW hn (h.rev _ _) _ _
   ·exact wW hn h _ _) (qcR hn h _ _)
theorem qau {n:Nat} (hn:0<n) {p:Array Nat} (h:Pl n p) (k:Nat):∀f l r,Fits n (λ_=>True) (kas_place p k f l r)
 |0,_,_=>yb4
 | f+1,l,r=>by
  unfold kas_place
  split
  ·exact yb4
  ·refine⟨h.lt hn _,h.lt hn _,λc=>?_⟩
   dsimp only
   split
   ·exact qau hn h k f _ _
   ·exact qau hn h k f _ _
theorem qfG {n:Nat} (hn:0<n):∀f {p:Array Nat} (_:Pl n p) k,Fits n (Pl n) (kas_bin f p k)
 |0,_,h,_=>h
 |f+1,p,h,k=>Fits.bind (R:=λ_=>True) (λl _=>qfG hn f (h.of_perm (bubble_perm _ _ _)) _) (qau hn h k _ _ _)
theorem fits_sort {n:Nat} (hn:0<n):Fits n (Pl n) (kas_sort n) :=
 Fits.bind (R:=λr=>Pl n r.2) (λr hr=>by
  split
  ·exact qfG hn _ hr _
  ·exact hr) (qgK hn ⟨by simp,by simp⟩ _)
def ord(ks:List Int):List Nat:=if ks.length<2 then yal ks.length else(runK (λi j=>decide (ks.getD i 0<ks.getD j 0)) (kas_sort ks.length)).toList
theorem ord_perm (ks:List Int):(ord ks).Perm (yal ks.length):=by
 unfold ord
 split
 ·exact .refl _
 ·exact(Fits.run (fits_sort (by omega))).2
theorem map_getD_range {α:Type} (d:α) (xs:List α):(yal xs.length).map (λi=>xs.getD i d)=xs:=by
 refine List.ext_getElem (by simp) λi h1 h2=>?_
 simp at h1 |-
 simp[h1]
section
variable{prog:yas}{w:World}{A:yav}{s:yab}
end
end L2.Srt
set_option maxHeartbeats 1000000
namespace L2
open PySem PySem.Spec PyProof.Rows
structure SS (X:Cx) (H0:Hp) (s0:yab) (H:Hp) (s:yab):Prop where
 os:s.os=s0.os
 bare:ycs s.gens
 un:Un (frs X.stack) [] H0 H s0.heap s.heap
 hok:HOk X.prog X.w H s.heap
 same:zZ H0 H
section
variable{X:Cx}{pins:List (Addr×Obj)}{σ:St}{H0 H:Hp}{s0 s:yab}{h':Heap}{b a kS:Addr}
theorem SS.inv (z:SS X H0 s0 H s) (I:Inv X pins σ H0 s0):Inv X pins σ H s:=by
 obtain⟨hh,g,d,t,os'⟩:=s
 obtain rfl:os'=s0.os:=z.os
 exact I.call (h':=hh) (g':=g) (d':=d) (t':=t) (ch:=[]) z.un z.hok z.bare (λb z=>absurd z (by simp))
theorem SS.of(I:Inv X pins σ H s):SS X H s H s:=⟨rfl,I.bare,.refl,I.hok,λ_ _ h=>h⟩
theorem SS.kept (z:SS X H0 s0 H s) (k:∀b u,s.heap.get? b=some u->h'.get? b=some u) (tk:Nat):SS X H0 s0 H {s with heap:=h',toks:=tk} :=
 ⟨z.os,z.bare,z.un.trans (Un.kept k),z.hok.kept k,z.same⟩
theorem SS.poke (z:SS X H0 s0 H s) (hb:H b=none) (hb0:s0.heap.objs.size<=b) (sb:ycd b s.heap h') (tk:Nat):SS X H0 s0 H {s with heap:=h',toks:=tk}:=by
 have ne:∀c o,s0.heap.get? c=some o->c≠b:=λc o e=>yar (yay (yai e) hb0)
 refine⟨z.os,z.bare,⟨λc o e n f x=>(sb.2 c (ne c o e)).trans (z.un.keep c o e n f x),λc o e n f x=>?_,z.un.free,λc o e x=>?_,z.un.tups,z.un.frzs,z.un.tbls⟩,λc u q=>?_,z.same⟩
 ·obtain⟨sl,q⟩:=z.un.slot c o e n f x
  exact⟨sl,(sb.2 c (ne c o e)).trans q⟩
 ·obtain⟨o',q⟩:=z.un.there c o e x
  exact⟨o',(sb.2 c (ne c o e)).trans q⟩
 ·refine(z.hok c u q).stay (λd v hd r=>(sb.2 d ?_).trans r) (λ_ q=>q) λ_ _ q=>q
  rintro rfl
  rcases hd with rfl|hd
  ·rw[hb]at q;cases q
  ·rw[hb]at hd;cases hd
theorem SS.call {Q:VK} {u:Value} {s':yab} (z:SS X H0 s0 H s) (h:CE X.stack X.prog X.w H s Q u s') (hq:∀v H',Q v H'->zZ H H'):∃v H',jG v u/\Q v H'/\SS X H0 s0 H' s'/\Un (frs X.stack) [] H H' s.heap s'.heap:=by
 obtain⟨v,H',os,bare,un,hok,r,q⟩:=h
 exact⟨v,H',r,q,⟨os.trans z.os,bare,z.un.trans un,hok,λb o e=>hq v H' q b o (z.same b o e)⟩,un⟩
end
section
variable{X:Cx}{H0 H:Hp}{s0 s:yab}{a kS:Addr}{A:yav}{E:Value->yab->Prop}{f:Value}{vs:List Value}{ks:List Int}{e1:Nat}{P:yfh->yab->Prop}
abbrev qfH(ks:List Int)(vs:List Value):List Value:=(Srt.ord ks).map λi=>vs.getD i yaG
theorem qcS (h:ks.length=vs.length):(qfH ks vs).length=vs.length:=by
 rw[lM_,(Srt.ord_perm ks).length_eq,lR_,h]
abbrev qdV (X:Cx) (H0:Hp) (s0:yab) (a:Addr) (out:List Value) (P:yfh->yab->Prop):Prop :=
 ∀H' s' c,SS X H0 s0 H' s'->H' a=none->s'.heap.get? a=some (yaH "list" out.toArray c)->P (.done (.ret .none)) s'
theorem qfI {st:SortSt} {out:List Value} {kA:Array Value} {e:Nat} (z:SS X H0 s0 H s) (gk:s.heap.get? kS=some (yaH "list" kA e)) (ga:s.heap.get? a=some (yaH "list" #[] e1)) (nk:H kS=none) (na:H a=none)
  (lk:s0.heap.objs.size<=kS) (la:s0.heap.objs.size<=a) (hka:kS≠a) (hkz:kA.size<64) (hoz:out.length<64) (ho:(arrOf st).map (·.2)=out.toArray) (hf:yeK st=none) (fin:qdV X H0 s0 a out P) :
  wpAny (model X.prog X.w) A (ksk_tail a false e1 (.ref kS) st) P E s:=by
 have sb1:=ybi s.heap kS (yaC λ_=>(#[]:Array Value))
 have ga1:=(sb1.2 a hka.symm).trans ga
 have z1:=z.poke nk lk sb1 s.toks
 have sb2:=ybi (s.heap.update kS (yaC λ_=>(#[]:Array Value))) a (yaC λ_=>out.toArray)
 have z2:=z1.poke na la sb2 s.toks
 unfold ksk_tail
 dsimp only
 rw[ho]
 refine yaa (ycr gk rfl ?_ (by rw[yaV];omega) (yaE _))
 refine yaa (yem (yaa (yen ga1 rfl ?_)))
 refine yaa (ycr ga1 rfl ?_ (yaE _) (by show(out.toArray).size<=_;rw[sT_,yaV];omega))
 rw[hf]
 simp only[bne_self_eq_false,ybM,if_false]
 exact yah (fin H _ _ z2 na (get?_update_seq ga1 λ_=>out.toArray))
end
section
variable{X:Cx}{pins:List (Addr×Obj)}{σ:St}{H:Hp}{s:yab}{l f:Addr}{vs:List Value}{ks:List Int}{Q:Value->yab->Prop}{E:Value->yab->Prop}
end
end L2
set_option maxHeartbeats 1000000
namespace L2
open PySem PySem.Spec PyProof.Rows
def CallKS (X:Cx) (f:Value) (ks:List Str) (r:St->List V->List V->Hp->VK->Prop):Prop:=∀(pins:List (Addr×Obj))(s:yab)(σ:St)(H:Hp)(xs:List V)(us:List Value)(zs:List V)(ws:List Value)(Q:VK),
 Inv X pins σ H s->zt xs us->zt zs ws->r σ xs zs H Q->wpAny (model X.prog X.w) X.A (call f us (ks.zip ws)) (EP X pins σ Q) X.xe s
theorem qia {X:Cx} {x:Str} {p pos:Pos} {e:Expr} {es:List Expr} {kws:List yct} {t tk:TA} {id:String} {ks:List Str} {r:St->List V->List V->Hp->VK->Prop} (hc:CallKS X (.builtin id) ks r) (hg:Gl X x) (hm:X.mg x=none) (hv:yaB x=some (.builtin id)) (ha:PA X (e::es) t) (hkw:PK X kws tk)
  (hall:(yck pos (ybH kws X.env)).all (·.1.isSome)=true:=by rfl) (hks:(yck pos (ybH kws X.env)).filterMap (·.1)=ks:=by rfl) (hn:x≠"__name__":=by decide) (hdb:(x==("__debug__":Str))=false:=by decide)
  (he:yac (e::es) X.env=(false,eval e X.env)::yac es X.env:=by rfl) (hpl:((yaN pos (yac (e::es) X.env)).any (·.1)||(yck pos (ybH kws X.env)).any (·.1.isNone))=false:=by rfl) :
  PE X (.Call (.Name x p) (e::es) kws pos) (λσ H Q=>t σ H λvs H1=>tk σ H1 λzs H2=>r σ vs zs H2 Q):=by
 intro pins s σ H Q I h
 refine yb5 (qb8 I hg hm hv ?_ hn hdb)
 refine PySem.W.callWith_of (P:=λ_=>True) hpl (λ_ _=>⟨.machine,.inr (.inl rfl),.now⟩) (evalArgs_kw2 hall (thn (ha pos pins s σ H _ I h) λus s1 ⟨vs,H1,I1,r1,q1⟩=>?_) he)
 refine thn (hkw pos pins s1 σ H1 _ I1 q1) λws s2 ⟨zs,H2,I2,rz,q2⟩=>⟨trivial,?_⟩
 rw[hks,ybc]
 exact hc pins s2 σ H2 vs us zs ws Q I2 r1 rz q2
theorem qbz {ys:List V} {its:List Value} (r:zt ys its):∀l:List Nat,(∀i∈l,i<ys.length)->zt (l.map λi=>ys.getD i .non) (l.map λi=>its.getD i yaG)
 | [],_ => .nil
 |i::l,h=>by
  refine .cons ?_ (qbz r l λj hj=>h j (mM _ hj))
  have hi:=h i mS_
  obtain⟨u,hu,rv⟩:=r.get (gG hi)
  have e1:ys.getD i V.non=ys[i]:=by simp[hi]
  have e2:its.getD i yaG=u:=by simp[List.getD,hu]
  show jG (ys.getD i V.non) (its.getD i yaG)
  rw[e1,e2]
  exact rv
section
variable{X:Cx}{N':List Str}{fr:List Nat}{q x:Str}{params:yee}{body:Expr}{scope:Scope}{k:Nat}
end
end L2
namespace L2.Sk
open PySem PySem.Spec PyProof.Rows
def qqt (Z:Env):List Nat->Option (List D)
 | []=>some []
 |j::fr=>match Z[j]?,qqt Z fr with
  |some (some d),some ds=>some (d::ds)
  |_,_=>none
def qon (g:M D) (n:Nat) (cs:List D):List D->Option (List Int)
 | []=>some []
 |d::ds=>match g (yL n (d::cs)),qon g n cs ds with
  |.ok (.int k,_),some ks=>some (k::ks)
  |_,_=>none
def qb2(l:List Nat)(ds:List D):List D:=l.map λi=>ds.getD i .non
def qqu (n:Nat) (fr:List Nat) (f g:M D):M D:=bnd f λd Z=>match d with
 | .lst ds=>if ds.length<64 then match qqt Z fr with
   |some cs=>match qon g n cs ds with
    |some ks => .ok (.lst (qb2 (Srt.ord ks) ds),Z)
    |none => .bad
   |none => .bad
  else .bad
 |_ => .bad
theorem IsL.pick {K:Fr0} {A:Addr->Prop} {H:Hp} {ds:List D} {xs:List V} (il:IsL K A H ds xs):∀l:List Nat,(∀i∈l,i<ds.length)->IsL K A H (qb2 l ds) (l.map λi=>xs.getD i .non)
 | [],_=>rfl
 |i::l,h=>by
  have hi:=h i mS_
  obtain⟨y,hy,iy⟩:=il.get (gG hi)
  refine⟨xs.getD i .non,_,rfl,?_,IsL.pick il l λj hj=>h j (mM _ hj)⟩
  have e1:ds.getD i D.non=ds[i]:=by simp[hi]
  have e2:xs.getD i V.non=y:=by simp[List.getD,hy]
  rw[e2]
  show Is K A H (ds.getD i D.non) y
  rw[e1]
  exact iy
section
variable{X:Cx}{c:Fc}{e:Expr}{p pos kpos lpos:Pos}{N':List Str}{fr:List Nat}{x:Str}{params:yee}{body:Expr}{scope:Scope}{k:Nat}{c0 Pt:Addr}
end
end L2.Sk
namespace L2
open PySem PySem.Spec PyProof.Rows
theorem walk_lam {l:yeh} {n k:Nat} {q:yas} {loose:List Str} {XP:(Str->Option Value)->Heap->Prop} {YP:World->Heap->Prop} {d:DefRec} {K:Params->yaf} {CX:World->CXT} {sp:World->Sp} {x:Str}
  (hn:l.most=some n) (hn2:n<=yat) (hdf:d.params.defaults=[]) (hr:yz k ydX)
  (hY:∀(w:World)(h:Heap),YP w h->(K w.params).In h) {lm:World->Option (Addr×Addr×Pos×Str)}
  (hlm:∀(w:World)(mean:ExcName->Option Value)(mg mb:Str->Option Value)(h:Heap)(c Pt:Addr)(pos:Pos)(z:Str),Top q (PySem.W.looseW q loose) mean mg mb h->(K w.params).In h->lm w=some (c,Pt,pos,z) ->
   yeu h c Pt/\h.get? Pt=some (yev #[])/\(K w.params).lookup Pt=none)
  (F : ∀(w:World)(mg:Str->Option Value)(fa:Addr)(h:Heap),(K w.params).In h->h.Ns yae mg->mg d.name=some (.ref fa) ->
   ∃ fd:yaS,(∀(s:yab)(u:Value),ydW s fd ⟨[u],[]⟩ [(x,u)]) /\
    ∀base:Heap,(K w.params).In base->base.Ns yae mg->vp l.prog w (K w.params) mg base (CX w) k fa fd [x] (sp w))
  (hsp:∀(w:World)(H:Hp)(a:Addr)(ns:List Int),ns.length<=n->qoY H->(∀c Pt pos z,lm w=some (c,Pt,pos,z)->H Pt=some (.lam pos z))->SqL (K w.params) H a (ns.map V.int)->sp w [.ref a] H (λv _=>v=.bl true) λ_ _ _=>False)
  (hCX:∀(w:World)(H:Hp)(s:yab)(e:Value)(s':yab),CX w [] H s (λ_ _ _=>False) e s'->False) :
  PySem.W.WalkO q loose XP YP l.row.toRowW d [] (λf vs=>yfQ f vs):=by
 refine Att.attach_call hn hdf λw s₀ sK mg mb fa o pm cd doc a vs ns G Y ho hd hcd hmg hobj hints hlen hg=>?_
 have KX:=hY w _ Y
 obtain⟨fd,hb,hF⟩:=F w mg fa _ KX G.T.g hmg
 exact qjh (lm:=lm w) KX G.T.g G.T.b G.T.builtins G.T.nolimit G.T.bmain (λc Pt pos z=>hlm w _ mg mb _ c Pt pos z G.T KX) hg hobj hints (yaA hlen hn2) hr hF hb (λH hO hT hS=>hsp w H a ns hlen hO hT hS) λH e s'=>hCX w H sK e s'
end L2
namespace L2.Sk
open PySem PySem.Spec PyProof.Rows
section
variable{P:yas}{w:World}{K:yaf}{mg:Str->Option Value}{base:Heap}
end
section
variable{X:Cx}{c:Fc}{a b e:Expr}{pos:Pos}
def qpM (i:Nat) (f:M D):M D:=λZ=>match zM i Z with
 |none => .bad
 | some _=>(bnd f λd Z=>match d,(zM i Z).bind vy with
  |.int b,some ns=>match ns.findIdx? (·==b) with
   |some j => .ok (.non,Z.set i (some (.lst ((ns.eraseIdx j).map D.int))))
   |none => .bad
  |_,_ => .bad) Z
end
end L2.Sk
namespace L2.Sk
open PySem PySem.Spec PyProof.Rows
section
variable{X:Cx}
end
def qrh:D->D->OD
 |.bl a,.bl b=>some (.bl (a==b))
 |_,_=>none
end L2.Sk
namespace L2
open PySem PySem.Spec PyProof.Rows
section
variable{X:Cx}{pos:Pos}
theorem qib {h:Heap} {a:Addr} {items:Array Value} (p:PlainL h a items):h.IsList a items:=by
 obtain⟨o,n,e,h1,h2,d⟩:=p
 exact⟨o,e,h1,n,d⟩
def qq7(K:yaf)(n:Nat)(t:TGs):TG:=λv σ H Q=>∃a xs,v=.ref a/\SqL K H a xs/\xs.length=n/\t xs σ H Q
theorem qoo {es:List Expr} {k:Nat} {t:TGs} {n:Nat} (hc:X.calm=true) (h:PGs X es t)
  (hn:(yba es X.env).length=n:=by rfl) (hst:(yba es X.env).findIdx? (·.1)=none:=by rfl):PG X (.Tuple es k pos) (qq7 X.K n t):=by
 intro pins s σ H v u Q I r hw
 obtain⟨a,xs,e1,hq,hl,hw⟩:=hw
 subst e1
 cases r
 obtain⟨its,rv,ht,hz⟩:=I.list hq
 have hsz:(yba es X.env).length=its.toArray.size:=by simp[hn,<-hl,rv.length]
 unfold yce
 refine yaa (yb1 ?_)
 unfold unpack
 rw[hst,hsz]
 refine yaa (ybn (PySem.W.kun_itemsOf (I.ok.hd hc) (qib ht) λh' hx=>?_))
 have I1:Inv X pins σ H {s with heap:=h' }:=I.kept (t':=s.toks) λb o e=>hx b o (yar (yai e)) e
 exact h pins _ σ H xs _ Q I1 (by simpa using rv) hw
end
end L2
namespace L2.Sk
open PySem PySem.Spec PyProof.Rows
section
variable{X:Cx}{c:Fc}
def qpN (n:Nat) (g:List D->Env->Option Env):D->Env->Option Env
 |.lst ds,Z=>if ds.length=n then g ds Z else none
 |_,_=>none
theorem qop {es:List Expr} {k n:Nat} {p:Pos} {g:List D->Env->Option Env} (hc:X.calm=true) (h:DGs X c es g) (hn:(yba es X.env).length=n:=by rfl) (hst:(yba es X.env).findIdx? (·.1)=none:=by rfl):DG X c (.Tuple es k p) (qpN n g):=by
 obtain⟨t,p,w⟩:=h
 refine⟨_,qoo (n:=n) hc p hn hst,λZ σ H d v Z' N r h e q=>?_⟩
 cases d with
 | lst ds=>
  obtain⟨a,xs,rfl,_,ta,il⟩:=h
  have e':(if ds.length=n then g ds Z else none)=some Z':=e
  by_cases hl:ds.length=n
  ·rw[if_pos hl]at e'
   exact⟨a,xs,rfl,SqL.of ta,by rw[il.length];exact hl,w Z σ H ds xs Z' N r il e' q⟩
  ·rw[if_neg hl]at e';cases e'
 |_=>cases e
end
end L2.Sk
set_option maxHeartbeats 1000000
namespace L2
open PySem PySem.Spec PyProof.Rows
abbrev yc:=Int×Int×List Int
def lt3(x y:yc):Bool:=if x.1=y.1 then if x.2.1=y.2.1 then HT.lexLt x.2.2 y.2.2 else decide (x.2.1<y.2.1)else decide (x.1<y.1)
theorem qcT:∀a:List Int,HT.lexLt a a=false
 | []=>rfl
 |x::a=>by rw[HT.lexLt_cons,if_pos rfl];exact qcT a
theorem qfJ:∀a b:List Int,HT.lexLt a b=true->HT.lexLt b a=false
 | [],[],_=>rfl
 | [],_::_,_=>rfl
 |_::_,[],h=>by cases h
 | x::a,y::b,h=>by
  rw[HT.lexLt_cons]at h |-
  by_cases c:x=y
  ·subst c
   rw[if_pos rfl]at h |-
   exact qfJ a b h
  ·rw[if_neg c]at h
   rw[if_neg λz=>c z.symm]
   have:=of_decide_eq_true h
   exact decide_eq_false (by omega)
theorem qic:∀a b c:List Int,HT.lexLt a c=true->HT.lexLt a b=true\/HT.lexLt b c=true
 |a,[],[],h=>by cases a<;>cases h
 |_,[],_::_,_ => .inr rfl
 | [],_::_,_,_ => .inl rfl
 |_::_,_::_,[],h=>by cases h
 | x :: a,y::b,z::c,h=>by
  rw[HT.lexLt_cons]at h
  rw[HT.lexLt_cons,HT.lexLt_cons]
  by_cases e1:x=y
  ·subst e1
   by_cases e2:x=z
   ·rw[if_pos e2]at h |-
    rw[if_pos rfl]
    exact qic a b c h
   ·rw[if_neg e2]at h |-
    exact .inr h
  ·by_cases e2:y=z
   ·subst e2
    rw[if_neg e1]at h |-
    exact .inl h
   ·rw [if_neg e1,if_neg e2]
    by_cases e3:x=z
    ·subst e3
     simp only[decide_eq_true_eq]
     omega
    ·rw[if_neg e3]at h
     simp only[decide_eq_true_eq]at h |-
     omega
theorem qeN(x:yc):lt3 x x=false:=by unfold lt3;rw[if_pos rfl,if_pos rfl];exact qcT _
theorem qjU (x y:yc) (h:lt3 x y=true):lt3 y x=false:=by
 unfold lt3 at h |-
 by_cases c:x.1=y.1
 ·rw [if_pos c]at h;rw[if_pos c.symm]
  by_cases d:x.2.1=y.2.1
  ·rw[if_pos d]at h;rw[if_pos d.symm];exact qfJ _ _ h
  ·rw[if_neg d]at h;rw[if_neg λz=>d z.symm]
   have:=of_decide_eq_true h
   exact decide_eq_false (by omega)
 ·rw[if_neg c]at h;rw[if_neg λz=>c z.symm]
  have:=of_decide_eq_true h
  exact decide_eq_false (by omega)
theorem qid (x y z:yc) (h:lt3 x z=true):lt3 x y=true\/lt3 y z=true:=by
 obtain⟨x1,x2,x3⟩:=x
 obtain⟨y1,y2,y3⟩:=y
 obtain⟨z1,z2,z3⟩:=z
 unfold lt3 at h |-
 dsimp only at h |-
 by_cases e1:x1=y1
 ·subst e1
  by_cases e2:x1=z1
  ·rw [if_pos e2]at h |-
   rw[if_pos rfl]
   by_cases f1:x2=y2
   ·subst f1
    by_cases f2:x2=z2
    ·rw[if_pos f2]at h |-
     rw[if_pos rfl]
     exact qic _ _ _ h
    ·rw[if_neg f2]at h |-
     exact .inr h
   ·by_cases f2:y2=z2
    ·subst f2
     rw[if_neg f1]at h |-
     exact .inl h
    ·rw [if_neg f1,if_neg f2]
     by_cases f3:x2=z2
     ·subst f3
      simp only[decide_eq_true_eq]
      omega
     ·rw[if_neg f3]at h
      simp only[decide_eq_true_eq]at h |-
      omega
  ·rw[if_neg e2]at h |-
   exact .inr h
 ·by_cases e2:y1=z1
  ·subst e2
   rw[if_neg e1]at h |-
   exact .inl h
  ·rw [if_neg e1,if_neg e2]
   by_cases e3:x1=z1
   ·subst e3
    simp only[decide_eq_true_eq]
    omega
   ·rw[if_neg e3]at h
    simp only[decide_eq_true_eq]at h |-
    omega
def qbA(ks:List yc)(k:yc):Int:=((ks.countP λy=>lt3 y k:Nat):Int)
def qN(ks:List yc):List Int:=ks.map (qbA ks)
theorem qeO {ks:List yc} {x y:yc} (hx:x∈ks):decide (qbA ks x<qbA ks y)=lt3 x y:=by
 have mono:∀(p q:yc->Bool)(l:List yc),(∀z,p z=true->q z=true)->l.countP p<=l.countP q:=λp q l h=>List.countP_mono_left λz _=>h z
 cases c:lt3 x y with
 | true=>
  apply decide_eq_true
  have sub:∀z,lt3 z x=true->lt3 z y=true:=λz hz=>by
   rcases qid z y x hz with h|h
   ·exact h
   ·rw[qjU x y c]at h;cases h
  have strict:∀l:List yc,x∈l->l.countP (λz=>lt3 z x)<l.countP (λz=>lt3 z y):=λl=>by
   induction l with
   |nil=>intro h;cases h
   | cons a l ih=>
    intro h
    rw[yd6,yd6]
    rcases List.mem_cons.mp h with rfl|h
    ·rw[qeN,c]
     have:=mono (λz=>lt3 z x) (λz=>lt3 z y) l sub
     simp only[ybM,if_false,if_true]
     omega
    ·have:=ih h
     cases d:lt3 a x with
     |true=>rw[sub a d];simp only[if_true];omega
     |false=>simp only[ybM,if_false];split<;>omega
  have:=strict ks hx
  unfold qbA
  omega
 | false=>
  apply decide_eq_false
  have sub:∀z,lt3 z y=true->lt3 z x=true:=λz hz=>by
   rcases qid z x y hz with h|h
   ·exact h
   ·rw[c]at h;cases h
  have:=mono (λz=>lt3 z y) (λz=>lt3 z x) ks sub
  unfold qbA
  omega
theorem zn(ks:List yc):(qN ks).length=ks.length:=lM_ _
def KAt(K:yaf)(H:Hp)(k:yc)(v:V):Prop:=∃p q,v=.ref p/\Sk.TupAt K H p [.int k.1,.int k.2.1,.ref q]/\Sk.TupAt K H q (k.2.2.map V.int)
inductive qeu (K:yaf) (H:Hp):List yc->List V->Prop
 |nil:qeu K H [] []
 |cons {k:yc} {v:V} {ks:List yc} {vs:List V}:KAt K H k v->qeu K H ks vs->qeu K H (k::ks) (v::vs)
theorem qck {K:yaf} {H H':Hp} {a:Addr} {xs:List V} (sm:zZ H H') (h:Sk.TupAt K H a xs):Sk.TupAt K H' a xs:=by
 rcases h with h|h
 ·exact .inl (sm _ _ h)
 ·exact .inr h
theorem KAt.same {K:yaf} {H H':Hp} {k:yc} {v:V} (sm:zZ H H') (h:KAt K H k v):KAt K H' k v:=by
 obtain⟨p,q,e,h1,h2⟩:=h
 exact⟨p,q,e,qck sm h1,qck sm h2⟩
theorem qeu.same {K:yaf} {H H':Hp} {ks:List yc} {vs:List V} (sm:zZ H H') (h:qeu K H ks vs):qeu K H' ks vs:=by
 induction h with
 |nil=>exact .nil
 |cons a _ ih=>exact .cons (a.same sm) ih
theorem qeu.snoc {K:yaf} {H:Hp} {k:yc} {v:V} {ks:List yc} {vs:List V} (h:qeu K H ks vs) (a:KAt K H k v):qeu K H (ks++[k]) (vs++[v]):=by
 induction h with
 |nil=>exact .cons a .nil
 |cons b _ ih=>exact .cons b ih
def K3V(h:Heap)(k:yc)(u:Value):Prop:=∃p q t1 t2 its,u=.ref p/\IsTup h p #[.int k.1 t1,.int k.2.1 t2,.ref q]/\IsTup h q its/\ybC its.toList k.2.2
inductive qeP (h:Heap):List yc->List Value->Prop
 |nil:qeP h [] []
 |cons {k:yc} {v:Value} {ks:List yc} {vs:List Value}:K3V h k v->qeP h ks vs->qeP h (k::ks) (v::vs)
theorem qeP.length {h:Heap} {ks:List yc} {vs:List Value} (x:qeP h ks vs):ks.length=vs.length:=by
 induction x with
 |nil=>rfl
 |cons _ _ ih=>rw[lC_,lC_,ih]
theorem qeP.get {h:Heap} {ks:List yc} {vs:List Value} (x:qeP h ks vs):∀{i:Nat},i<ks.length->K3V h (ks.getD i (0,0,[])) (vs.getD i yaG):=by
 induction x with
 |nil=>intro i hi;exact absurd hi (Nat.not_lt_zero _)
 |cons a _ ih=>
  intro i hi
  cases i with
  |zero=>exact a
  |succ i=>exact ih (by simpa using hi)
section
variable{X:Cx}{pins:List (Addr×Obj)}{σ:St}{H:Hp}{s:yab}
theorem qpO (I:Inv X pins σ H s) {k:yc} {v:V} {u:Value} (r:jG v u) (h:KAt X.K H k v):K3V s.heap k u:=by
 obtain⟨p,q,rfl,h1,h2⟩:=h
 cases r
 obtain⟨its,r1,t1,_⟩:=I.tuple h1.sq
 obtain⟨its2,r2,t2,_⟩:=I.tuple h2.sq
 cases r1 with
 |cons ra rr=>
 cases rr with
 |cons rb rr=>
 cases rr with
 |cons rc rr=>
 cases rr
 obtain⟨ta,rfl⟩:=ra
 obtain⟨tb,rfl⟩:=rb
 cases rc
 exact⟨p,q,ta,tb,its2.toArray,rfl,t1,t2,by simpa using yX r2⟩
theorem qkU (I:Inv X pins σ H s) {ks:List yc} {vs:List V} (h:qeu X.K H ks vs):∀{us:List Value},zt vs us->qeP s.heap ks us:=by
 induction h with
 |nil=>intro us r;cases r;exact .nil
 |cons a _ ih=>intro us r;cases r with|cons ra rr=>exact .cons (qpO I ra a) (ih rr)
end
theorem qcl {prog:yas} {w:World} {vs:List Value} {ns:List Int} (h:ybC vs ns):ItemsAre (yfo prog w) ns vs:=by
 induction h with
 |nil=>exact .nil
 |cons n t _ ih=>exact .cons (by simp[yfo,yfD]) ih
section
variable{prog:yas}{w:World}{A:yav}{E:Value->yab->Prop}{s:yab}
theorem qoq {kx ky:yc} {u v:Value} {Q:Bool->yab->Prop} (hu:A.units<cLine) (hx:K3V s.heap kx u) (hy:K3V s.heap ky v) (h:Q (lt3 kx ky) s) :
  wpAny (model prog w) A (yeW (ybV true) u v) Q E s:=by
 obtain⟨p,q,t1,t2,its,rfl,hp,hq,hi⟩:=hx
 obtain⟨p',q',t1',t2',its',rfl,hp',hq',hi'⟩:=hy
 obtain⟨o,ho,hc,n,hd⟩:=id hp
 obtain⟨o',ho',hc',n',hd'⟩:=id hp'
 refine PySem.W.kat_lt ho hd ho' hd' ?_
 show PySem.W.KatLex prog w A true (decide (3<3)) Q [(.int kx.1 t1,.int ky.1 t1'),(.int kx.2.1 t2,.int ky.2.1 t2'),(.ref q,.ref q')] 0 s
 unfold lt3 at h
 refine yd8 (ydY ?_)
 by_cases c:kx.1=ky.1
 ·rw [if_pos c]at h
  rw[show(kx.1==ky.1)=true by simp[c]]
  refine yei (yd8 (ydY ?_))
  by_cases d:kx.2.1=ky.2.1
  ·rw [if_pos d]at h
   rw[show(kx.2.1==ky.2.1)=true by simp[d]]
   refine yei (yd8 ?_)
   have kq:IsTupleKey (yfo prog w) s.heap kx.2.2 q:=by
    obtain⟨o2,a1,a2,n2,a3⟩:=hq
    exact⟨o2,its,n2,a1,a2,a3,qcl hi⟩
   have kq':IsTupleKey (yfo prog w) s.heap ky.2.2 q':=by
    obtain⟨o2,a1,a2,n2,a3⟩:=hq'
    exact⟨o2,its',n2,a1,a2,a3,qcl hi'⟩
   refine wpAny_eqBool_tuple hu kq kq' ?_
   by_cases e:kx.2.2=ky.2.2
   ·rw[decide_eq_true e]
    rw[e,qcT]at h
    exact yei (PySem.W.kat_nil h)
   ·rw[decide_eq_false e]
    exact yez (PySem.W.kat_one _ _ (HT.lt_tupInts hq hq' hi hi' hu h))
  ·rw[if_neg d]at h
   rw[show(kx.2.1==ky.2.1)=false by simp[d]]
   exact yez (PySem.W.kat_one _ _ (lt_int h))
 ·rw[if_neg c]at h
  rw[show(kx.1==ky.1)=false by simp[c]]
  exact yez (oneLt_int h)
theorem qfK {ks:List yc} {vs:List Value} (x:qeP s.heap ks vs):∃fs:List Value,PySem.W.KatTups s.heap vs fs/\fs.length=ks.length/\∀v∈fs,∃i t,v=yb2 i t:=by
 induction x with
 |nil=>exact⟨[],.nil,rfl,λv hv=>by cases hv⟩
 | @cons k v ks vs a _ ih=>
  obtain⟨fs,h1,h2,h3⟩:=ih
  obtain⟨p,q,t1,t2,its,rfl,⟨o,ho,hc,n,hd⟩,_,_⟩:=a
  refine⟨.int k.1 t1::fs,.cons ho hc hd rfl h1,by rw[lC_,lC_,h2],λv hv=>?_⟩
  rcases List.mem_cons.mp hv with rfl|hv
  ·exact⟨_,_,rfl⟩
  ·exact h3 v hv
theorem qeQ {α:Type} {vs:List Value} {ks:List yc} {R:α->Prop} {G:α->yab->Prop} (hu:A.units<cLine) (hk:qeP s.heap ks vs):∀{t:PySem.W.KasT α},Srt.Fits ks.length R t ->
  G (Srt.runK (λi j=>decide ((qN ks).getD i 0<(qN ks).getD j 0)) t) s->t.kasWp (PySem.W.kas_ask prog w A (ybV true) vs) G s
 |.ret _,_,h=>h
 |.ask i j k,⟨h1,h2,h3⟩,h=>by
  have e1:(qN ks).getD i 0=qbA ks (ks.getD i (0,0,[])):=by unfold qN;simp[h1]
  have e2:(qN ks).getD j 0=qbA ks (ks.getD j (0,0,[])):=by unfold qN;simp[h2]
  have hm:ks.getD i (0,0,[])∈ks:=by simp[h1]
  have h':G (Srt.runK (λi j=>decide ((qN ks).getD i 0<(qN ks).getD j 0)) (k (decide ((qN ks).getD i 0<(qN ks).getD j 0)))) s:=h
  rw[e1,e2,qeO hm]at h'
  show wpAny (model prog w) A (yeW (ybV true) (vs.getD i yaG) (vs.getD j yaG)) _ _ s
  exact qoq hu (hk.get h1) (hk.get h2) (qeQ hu hk (h3 _) h')
end
section
variable{X:Cx}{pins:List (Addr×Obj)}{σ:St}{H0 H:Hp}{s0 s:yab}{a kS:Addr}{A:yav}{E:Value->yab->Prop}{f:Value}{vs:List Value}{ks:List yc}{e1:Nat}{P:yfh->yab->Prop}
theorem qjV {kA:Array Value} {e:Nat} {vk:List V} (I0:Inv X pins σ H0 s0) (hu:A.units<cLine) (z:SS X H0 s0 H s) (gk:s.heap.get? kS=some (yaH "list" kA e)) (ga:s.heap.get? a=some (yaH "list" #[] e1)) (nk:H kS=none) (na:H a=none)
  (lk:s0.heap.objs.size<=kS) (la:s0.heap.objs.size<=a) (hka:kS≠a) (hkv:zt vk kA.toList) (hk:qeu X.K H ks vk) (hlen:ks.length=vs.length) (h64:vs.length<64) (fin:qdV X H0 s0 a (qfH (qN ks) vs) P) :
  wpAny (model X.prog X.w) A (ksk_end a false vs.toArray e1 (.ref kS) kA) P E s:=by
 have kv:=qkU (z.inv I0) hk hkv
 have hrl:(qN ks).length=vs.length:=(zn ks).trans hlen
 have hkz:kA.size=vs.length:=by
  have h1:=kv.length
  rw[<-ya2,<-h1,hlen]
 unfold ksk_end
 dsimp only
 rw[if_neg (by decide)]
 by_cases h2:vs.length<2
 ·have h2':vs.toArray.size<2:=by rw[sT_];exact h2
  rw[if_pos h2',if_pos h2']
  refine yaa (yah ?_)
  rw[StateT.run_pure]
  refine yaa (yah ?_)
  dsimp only
  refine qfI z gk ga nk na lk la hka (by omega) (by rw[qcS hrl];exact h64) ?_ rfl fin
  have e0:qfH (qN ks) vs=vs:=by
   show(Srt.ord (qN ks)).map _=vs
   unfold Srt.ord
   rw[if_pos (by omega),hrl]
   exact Srt.map_getD_range _ vs
  rw[e0]
  apply Array.toList_inj.mp
  show((kA.zip vs.toArray).map (·.2)).toList=vs.toArray.toList
  rw[Array.toList_map,ksk_zip,List.map_snd_zip (Nat.le_of_eq (by rw[ya2];exact hkz.symm))]
 ·have h2':¬vs.toArray.size<2:=by rw[sT_];exact h2
  rw[if_neg h2',if_neg h2']
  have ekA:kA=kA.toList.toArray:=by simp
  obtain⟨fs,t1,t2,t3⟩:=qfK kv
  refine yaa ?_
  rw[ekA]
  refine PySem.W.kat_kind (T:=.type "int") t1 (by omega) (λv hv=>?_) rfl ?_
  ·obtain⟨i,t,rfl⟩:=t3 v hv
   exact .now
  have hl:kA.toList.length=vs.length:=by rw[ya2];exact hkz
  show wpAny _ _ _ _ _ _
  refine yaa (ya1 (PySem.W.kat_run (κ:=ybV true) (Q:=λst' s'=>s'=s/\(arrOf st').map (·.2)=(qfH (qN ks) vs).toArray/\yeK st'=none) (G:=λp s'=>s'=s/\p.toList=Srt.ord (qN ks)) hl (by omega) h64 (λp st' s' a1 a2 a3 a4=>?_) ?_) ?_ λ_ _ x=>x)
  ·refine⟨a4.1,?_,a3⟩
   rw[PySem.W.kat_snds hl a2,a4.2]
  ·have ft:=Srt.fits_sort (n:=ks.length) (by omega)
   rw[<-hlen]
   refine qeQ hu kv ft ⟨rfl,?_⟩
   unfold Srt.ord
   rw[if_neg (by omega),zn]
  ·rintro⟨⟨⟩,st'⟩ s' ⟨rfl,h3,h4⟩
   dsimp only
   exact qfI z gk ga nk na lk la hka (by omega) (by rw[qcS hrl];exact h64) h3 h4 fin
abbrev qie (X:Cx) (H0:Hp) (s0:yab) (A:yav) (f v:Value) (k:yc):Prop:=∀s' H',SS X H0 s0 H' s' ->
 wpAny (model X.prog X.w) A (call f [v]) (λu s2=>∃x H2,jG x u/\KAt X.K H2 k x/\SS X H0 s0 H2 s2/\Un (frs X.stack) [] H' H2 s'.heap s2.heap/\zZ H' H2) (λ_ _=>False) s'
theorem qif (I0:Inv X pins σ H0 s0) (hu:A.units<cLine) (z:SS X H0 s0 H s) (gk:s.heap.get? kS=some (yaH "list" #[] 0)) (ga:s.heap.get? a=some (yaH "list" #[] e1)) (nk:H kS=none) (na:H a=none)
  (lk:s0.heap.objs.size<=kS) (la:s0.heap.objs.size<=a) (hka:kS≠a) (hlen:ks.length=vs.length) (h64:vs.length<64) (hfr:∀b∈frs X.stack,b<s0.heap.objs.size)
  (turn:∀(i:Nat)(v:Value)(k:yc),vs[i]? = some v->ks[i]? = some k->qie X H0 s0 A f v k) (fin:qdV X H0 s0 a (qfH (qN ks) vs) P):wpAny (model X.prog X.w) A (ksk_rest a f false vs.toArray e1 (.ref kS)) P E s:=by
 have nf:∀c,s0.heap.objs.size<=c->c ∉ frs X.stack:=λc hc hm=>absurd (yay (hfr c hm) hc) (ybt _)
 unfold ksk_rest
 refine yaa (yc5 ?_)
 rw[List.forIn_toArray]
 refine yaa (ksk_fold (λi s'=>∃H' kA e vk,SS X H0 s0 H' s'/\H' kS=none/\H' a=none/\s'.heap.get? kS=some (yaH "list" kA e)/\s'.heap.get? a=some (yaH "list" #[] e1)/\zt vk kA.toList/\qeu X.K H' (ks.take i) vk/\kA.size=min i vs.length) vs 0 s
  ⟨H,#[],0,[],z,nk,na,gk,ga,.nil,by simpa using qeu.nil,by simp⟩ ?step ?done)
 case step=>
  rintro j x s' hx ⟨H',kA,e,vk,z',k1,a1,g1,g2,hi,hki,hz0⟩
  rw[ybr]at hki hz0 |-
  have hj:j<vs.length:=(gI_.mp hx).1
  obtain⟨k,hkj⟩:∃k,ks[j]? = some k:=⟨_,gG (by omega)⟩
  have hz:kA.size<=vs.length:=by omega
  refine yaa (yeR (ya1 (turn j x k hx hkj s' H' z') (λv s2 hv=>?_) λ_ _ hF=>hF.elim))
  obtain⟨y,H2,ry,ky,z2,u2,sm2⟩:=hv
  dsimp only
  have gk2:=u2.keep kS _ g1 k1 (nf kS lk) (by simp)
  have ga2:=u2.keep a _ g2 a1 (nf a la) (by simp)
  have nk2:=u2.free kS _ g1 k1 (by simp)
  have na2:=u2.free a _ g2 a1 (by simp)
  have sb:=ybi s2.heap kS (yaC (·.push v))
  refine yaa (ycr gk2 rfl ?_ (by rw[yaV];omega) (by show(kA.push _).size<=_;rw[Array.size_push,yaV];omega))
  refine yah ⟨rfl,H2,kA.push v,_,vk++[y],z2.poke nk2 lk sb s2.toks,nk2,na2,get?_update_seq gk2 (·.push v),(sb.2 a hka.symm).trans ga2,?_,?_,?_⟩
  ·have ea:(kA.push v).toList=kA.toList++[v]:=by simp
   rw[ea]
   exact hi.append (.cons ry .nil)
  ·have ek:ks.take (j+1)=ks.take j++[k]:=by rw[List.take_add_one,hkj];simp
   rw[ek]
   exact(hki.same sm2).snoc ky
  ·rw[Array.size_push];omega
 case done=>
  rintro s' ⟨H',kA,e,vk,z',k1,a1,g1,g2,hi,hki,hz0⟩
  have e3:ks.take (0+vs.length)=ks:=ybI (by omega)
  rw[e3]at hki
  refine yaa (yfi g1 rfl ?_)
  exact qjV I0 hu z' g1 g2 k1 a1 lk la hka hi hki hlen h64 fin
theorem qig {n:Nat} (I0:Inv X pins σ H0 s0) (hu:A.units<cLine) (z:SS X H0 s0 H s) (ho:s.heap.get? a=some (yaH "list" vs.toArray n)) (na:H a=none) (la:s0.heap.objs.size<=a) (hs0:s0.heap.objs.size<=s.heap.objs.size) (hlen:ks.length=vs.length) (h64:vs.length<64) (hfr:∀b∈frs X.stack,b<s0.heap.objs.size)
  (turn:∀(i:Nat)(v:Value)(k:yc),vs[i]? = some v->ks[i]? = some k->qie X H0 s0 A f v k) (fin:qdV X H0 s0 a (qfH (qN ks) vs) P):wpAny (model X.prog X.w) A (ksk_tree a f false) P E s:=by
 have hlt:a<s.heap.objs.size:=yai ho
 have sb:=ybi s.heap a (yaC λ_=>(#[]:Array Value))
 obtain⟨e1,ho1⟩:∃e1,(s.heap.update a (yaC λ_=>(#[]:Array Value))).get? a=some (yaH "list" #[] e1):=⟨_,get?_update_seq ho λ_ => #[]⟩
 have z1:=z.poke na la sb s.toks
 have hsz:((s.heap.update a (yaC λ_=>(#[]:Array Value))).push (yaH "tuple" vs.toArray 0)).objs.size=s.heap.objs.size+1:=by rw[yeL,yd9]
 unfold ksk_tree
 refine yaa (yfi ho rfl (yaa (ycr ho rfl ?_ (by rw[sT_,yaV];omega) (yaE _))))
 refine yaa (yen ho1 rfl (yaa (yew ?_ (by show vs.length<=_;rw[yaV];omega))))
 refine yaa (ydH (ybn ?_) (yaE _))
 have kp:∀b u,(s.heap.update a (yaC λ_=>(#[]:Array Value))).get? b=some u->(((s.heap.update a (yaC λ_=>(#[]:Array Value))).push (yaH "tuple" vs.toArray 0)).push (yaH "list" #[] 0)).get? b=some u :=
  λb u q=>Heap.get?_push_of_some _ (Heap.get?_push_of_some _ q)
 have z3:=z1.kept kp s.toks
 refine qif I0 hu (kS:=((s.heap.update a (yaC λ_=>(#[]:Array Value))).push (yaH "tuple" vs.toArray 0)).objs.size) z3 (Heap.get?_push_size _ rfl) (kp _ _ ho1) ?_ na (by rw[hsz];omega) la (by rw[hsz];exact ycB (ycM hlt)) hlen h64 hfr turn fin
 cases q:H ((s.heap.update a (yaC λ_=>(#[]:Array Value))).push (yaH "tuple" vs.toArray 0)).objs.size with
 |none=>rfl
 |some u=>
  have:=z.hok.lt q
  rw[hsz]at this
  exact absurd (Nat.lt_of_succ_lt this) (ybt _)
end
section
variable{X:Cx}{pins:List (Addr×Obj)}{σ:St}{H:Hp}{s:yab}{l f:Addr}{vs:List Value}{ks:List yc}{Q:Value->yab->Prop}{E:Value->yab->Prop}
theorem qeR (hu:X.A.in1.in1.units<cLine) (I:Inv X pins σ H s) (hl:s.heap.IsList l vs.toArray) (hlen:ks.length=vs.length) (h64:vs.length<64) (turn:∀(i:Nat)(v:Value)(k:yc),vs[i]? = some v->ks[i]? = some k->qie X H s X.A.in1.in1 (.ref f) v k)
  (fin:∀D H' s' c,s.heap.objs.size<=D->SS X H s H' s'->H' D=none->s'.heap.get? D=some (yaH "list" (qfH (qN ks) vs).toArray c)->Q (.ref D) s'):wpAny (model X.prog X.w) X.A (call (.builtin "sorted") [.ref l] [(ybl "key",.ref f)]) Q E s:=by
 refine call_function_entry_kw kind_sorted plain_sorted entry_sorted (ksk_s1 _ _) ?_
 unfold ych.«sorted»
 refine yaa (m:=checkCount "sorted" 1 1 _) (yah (yaa (collect_list hl ?_ (by rw[yaV];omega))))
 refine yaa (ydH ?_ (by rw[yaV];omega))
 have hsz:((s.heap.push (yaH "list" #[] 0)).update s.heap.objs.size (yaC (·++vs.toArray))).objs.size=s.heap.objs.size+1:=by rw[yd9,yeL]
 have hD:(((s.heap.push (yaH "list" #[] 0)).update s.heap.objs.size (yaC (·++vs.toArray))).push (yaH "list" vs.toArray 0)).get? (s.heap.objs.size+1)=some (yaH "list" vs.toArray 0):=by rw[<-hsz];exact Heap.get?_push_size _ rfl
 have keep:∀b o,s.heap.get? b=some o->(((s.heap.push (yaH "list" #[] 0)).update s.heap.objs.size (yaC (·++vs.toArray))).push (yaH "list" vs.toArray 0)).get? b=some o:=λb o q=>by
  have hb:=yai q
  rw[Heap.get?_push_ne _ _ _ (by rw[hsz];exact yar (ycM hb)),Heap.get?_update_ne _ _ _ _ (yar hb),Heap.get?_push_ne _ _ _ (yar hb)]
  exact q
 have z:=(SS.of I).kept keep s.toks
 have hfr:∀b∈frs X.stack,b<s.heap.objs.size:=λb hb=>by
  obtain⟨_,o,ho,_⟩:=I.stack.mem hb
  exact yai ho
 have hszs:s.heap.objs.size<=(((s.heap.push (yaH "list" #[] 0)).update s.heap.objs.size (yaC (·++vs.toArray))).push (yaH "list" vs.toArray 0)).objs.size:=by rw[yeL,hsz];omega
 show wpAny _ _ _ _ _ {s with heap:=((s.heap.push (yaH "list" #[] 0)).update s.heap.objs.size (yaC (·++vs.toArray))).push (yaH "list" vs.toArray 0)}
 rw[hsz]
 refine yaa (ybn (wpAny_call_entry_kw slot_list_sort ⟨_,hD,rfl⟩ entry_list_sort ?body (ksk_l1 _ _)))
 case body=>
  show wpAny (model X.prog X.w) X.A.in1.in1 (ych.«list.sort» ⟨[.ref (s.heap.objs.size+1)],[(ybl "key",.ref f)]⟩) _ _ _
  rw[ksk_t1]
  refine qig I hu (X:=X) (H0:=H) (s0:=s) (H:=H) z hD (I.hok.fresh (ycR _)) (ycR _) hszs hlen h64 hfr turn λH' s' c z' n' g'=>⟨_,rfl,?_⟩
  exact yah ⟨_,rfl,fin _ H' s' c (ycR _) z' n' g'⟩
end
end L2
namespace L2
open PySem PySem.Spec PyProof.Rows
def qor (X:Cx) (f:Addr) (F:List Sk.D->Sk.R Sk.D):St->List V->List V->Hp->VK->Prop:=λσ xs zs H Q=>
 ∃ (a:Addr) (ys:List V) (ks:List yc),xs=[.ref a]/\zs=[.ref f]/\SqL X.K H a ys/\ys.length<64/\ks.length=ys.length /\
  (∀(i:Nat)(y:V)(k:yc),ys[i]? = some y->ks[i]? = some k->∀H',zZ H H'->Sk.spD X.K F [y] H' (λv H2=>KAt X.K H2 k v/\zZ H' H2) E0) /\
  ∀H' p,zZ H H'->H' p=none->Q (.ref p) (upd H' p (.lst ((Srt.ord (qN ks)).map λi=>ys.getD i .non)))
section
variable{X:Cx}{k:Nat}{f:Addr}{fd:yaS}{x:Str}{F:List Sk.D->Sk.R Sk.D}
theorem qgL (G:vp X.prog X.w X.K X.mg X.base CX0 k f fd [x] (Sk.spD X.K F)) (hb:vj X.K fd [x] []) (hr:yz (k+2) X.A):CallKS X (.builtin "sorted") [ybl "key"] (qor X f F):=by
 intro pins s σ H xs us zs wz Q I rx rz h
 obtain⟨a,ys,ks,rfl,rfl,hs,h64,hlen,key,hq⟩:=h
 cases rx with
 |cons ra rr=>
 cases rr
 cases rz with
 |cons rf rr=>
 cases rr
 cases ra
 cases rf
 obtain⟨its,r,ht,hz⟩:=I.list hs
 have hl:=r.length
 have hr2:yz k X.A.in1.in1:=hr.in1.in1
 refine qeR (ks:=ks) hr2.units0 I ht.isList (by omega) (by omega) (λi v k' hvi hki s' H' z=>?_) λD H' s' c hD z' n' g'=>?_
 ·have hi:i<ys.length:=by rw[hl];exact(gI_.mp hvi).1
  obtain⟨u,hu,ry⟩:=r.get (gG hi)
  rw[hvi]at hu;cases hu
  have sp:=key i ys[i] k' (gG hi) hki H' z.same
  have I':=z.inv I
  have e0:qiV X.prog X.w X.K X.mg X.base X.A.in1.in1 X.stack s' H':=by
   obtain⟨a1,a2,a3,a4,a5,a6,a7,a8⟩:=I'.env0
   exact⟨a1,a2,a3,a4,a5,a6,a7,a8⟩
  refine yfN (yc6 (G.run X.A.in1.in1 X.stack s' H' ⟨[v],[]⟩ [v] [ys[i]] (λv H2=>KAt X.K H2 k' v/\zZ H' H2) E0 hr2 e0 (by
   have:=hb s' [v] I'.kIn rfl
   simpa using this) (.cons ry .nil) sp) λr' s2 hq'=>?_)
  cases r' with
  |error e=>exact hq'.elim
  | ok fl=>
   cases fl with
   |ret u=>
    obtain⟨v',H2,r2,⟨ka,sm⟩,z2,u2⟩:=z.call hq' λv H' q=>q.2
    exact⟨v',H2,r2,ka,z2,u2,sm⟩
   |next=>exact yaT hq'
   |brk=>exact yaT hq'
   |cont=>exact yaT hq'
 ·have hpl:∀i∈Srt.ord (qN ks),i<ys.length:=λi hi=>by
   have:=(Srt.ord_perm (qN ks)).mem_iff.mp hi
   rw[zn]at this
   rw[<-hlen];exact mR_.mp this
  have hnone:s.heap.get? D=none:=Heap.get?_none_of_le hD
  have rp:=qbz r (Srt.ord (qN ks)) hpl
  have ol:((Srt.ord (qN ks)).map λi=>ys.getD i V.non).length<=yat:=by
   rw[lM_,(Srt.ord_perm (qN ks)).length_eq,lR_,zn,yaV];omega
  have ne':∀c u,H' c=some u->c≠D:=λc u q z=>by rw[z,n']at q;cases q
  have hok:HOk X.prog X.w (upd H' D (.lst ((Srt.ord (qN ks)).map λi=>ys.getD i .non))) s'.heap:=λb u e=>by
   by_cases hbD:b=D
   ·subst hbD
    rw[qv]at e;cases e
    exact⟨ol,_,_,rp,g'⟩
   ·rw[qw hbD]at e
    exact(z'.hok b u e).stay (λ_ _ _ q=>q) (λc q=>by rw[qw (ne' c _ q)];exact q) (λc xs q=>by rw[qw (ne' c _ q)];exact q) λc ob y q=>by rw[qw (ne' c _ q)];exact q
  have un:=Sk.un_held (o:=.lst ((Srt.ord (qN ks)).map λi=>ys.getD i .non)) z'.un hnone n'
  have zz:SS X H s (upd H' D (.lst ((Srt.ord (qN ks)).map λi=>ys.getD i .non))) s':=⟨z'.os,z'.bare,un,hok,λb o e=>qfF n' b o (z'.same b o e)⟩
  exact⟨.ref D,_,zz.inv I,rfl,hq H' D z'.same n'⟩
end
end L2
namespace L2.Sk
open PySem PySem.Spec PyProof.Rows
def qi0:D->Option yc
 |.tup [.int a,.int b,.tup ts]=>match vy ts with
  |some ns=>some (a,b,ns)
  |none=>none
 |_=>none
def qbB (F:List D->R D):List D->Option (List yc)
 | []=>some []
 | d::ds=>match F [d],qbB F ds with
  |.ok k,some ks=>match qi0 k with
   |some k=>some (k::ks)
   |none=>none
  |_,_=>none
def qdW (F:List D->R D) (f:M D):M D:=bnd f λd Z=>match d with
 | .lst ds=>if ds.length<64 then match qbB F ds with
   |some ks => .ok (.lst (qb2 (Srt.ord (qN ks)) ds),Z)
   |none => .bad
  else .bad
 |_ => .bad
theorem qcm {F:List D->R D} {d:D} {ds:List D} {ks:List yc} (h:qbB F (d::ds)=some ks):∃k k3 ks',F [d]=.ok k/\qi0 k=some k3/\qbB F ds=some ks'/\ks=k3::ks':=by
 unfold qbB at h
 split at h
 ·rename_i k ks' e1 e2
  split at h
  ·rename_i k3 e3
   cases h
   exact⟨k,k3,ks',e1,e3,e2,rfl⟩
  ·cases h
 ·cases h
theorem qdX {F:List D->R D}:∀{ds:List D}{ks:List yc},qbB F ds=some ks->ks.length=ds.length
 | [],ks,h=>by cases h;rfl
 |d::ds,ks,h=>by
  obtain⟨k,k3,ks',_,_,e,rfl⟩:=qcm h
  rw[lC_,lC_,qdX e]
theorem qdY {F:List D->R D}:∀{ds:List D}{ks:List yc}{i:Nat}{d:D}{k:yc},qbB F ds=some ks->ds[i]? = some d->ks[i]? = some k->∃e,F [d]=.ok e/\qi0 e=some k
 | [],_,_,_,_,_,h,_=>by simp at h
 | d0::ds,ks,i,d,k,h,h1,h2=>by
  obtain⟨e0,k0,ks',a1,a2,a3,rfl⟩:=qcm h
  cases i with
  |zero=>
   have b1:d0=d:=by simpa using h1
   have b2:k0=k:=by simpa using h2
   subst b1 b2
   exact⟨_,a1,a2⟩
  |succ i=>exact qdY a3 (by simpa using h1) (by simpa using h2)
theorem qos {K:Fr0} {A:Addr->Prop} {H:Hp} {d:D} {k:yc} {v:V} (e:qi0 d=some k) (h:Is K A H d v):KAt K H k v:=by
 unfold qi0 at e
 split at e
 ·rename_i a b ts
  split at e
  ·rename_i ns hns
   cases e
   obtain⟨p,xs,rfl,tp,il⟩:=h
   obtain⟨x1,y1,rfl,i1,il⟩:=il
   obtain⟨x2,y2,rfl,i2,il⟩:=il
   obtain⟨x3,y3,rfl,i3,il⟩:=il
   have il':y3=[]:=il
   subst il'
   have i1':x1=V.int a:=i1
   have i2':x2=V.int b:=i2
   subst i1' i2'
   obtain⟨q,zs,rfl,tq,iz⟩:=i3
   rw[uJ iz hns]at tq
   exact⟨p,q,rfl,tp,tq⟩
  ·cases e
 ·cases e
section
variable{X:Cx}{c:Fc}{e:Expr}{p pos kpos p2:Pos}{x:Str}{k:Nat}
theorem qjW {j:Nat} {F:List D->R D} {y:Str} {f:M D} (he:DE X c e f) (C:zD X.prog X.w X.K X.mg X.base k x [y] (spD X.K F)) (hr:yz j X.A) (hg:Gl X "sorted") (hm:X.mg "sorted"=none)
  (hk:k+2<=j:=by decide) (hgx:Gl X x:=by rfl) (hdx:(x==("__debug__":Str))=false:=by decide)
  (hst:yac [e] X.env=(false,eval e X.env)::yac [] X.env:=by rfl) (hpl:((yaN pos (yac [e] X.env)).any (·.1)||(yck pos (ybH [⟨some "key",.Name x p2,kpos⟩] X.env)).any (·.1.isNone))=false:=by rfl) :
  DE X c (.Call (.Name "sorted" p) [e] [⟨some "key",.Name x p2,kpos⟩] pos) (qdW F f):=by
 obtain⟨te,pe,we⟩:=he
 obtain⟨fa,fd,G,m,kk,b⟩:=C.ex
 refine⟨_,qia (qgL G b (hr.mono hk)) hg hm rfl (jH pe vv hst) (qlt (qcA (v:=.ref fa) hgx m rfl hdx) qno) (he:=hst) (hpl:=hpl),λZ σ H Q r h=>?_⟩
 refine we Z σ H _ r (Wp.bnd h λd Z1 v H1 r1 i1 g1 h1=>?_)
 cases d<;>try exact h1.elim
 rename_i ds
 by_cases h64:ds.length<64
 case neg=>simp only[h64,if_false]at h1;exact h1.elim
 simp only[h64,if_true]at h1
 cases hks:qbB F ds with
 |none=>simp only[hks]at h1;exact h1.elim
 | some ks=>
  simp only[hks]at h1
  have hl:=qdX hks
  obtain⟨a,ys,rfl,hA,ta,il⟩:=i1
  have hyl:=il.length
  refine⟨a,ys,ks,rfl,rfl,.inl (.inl ta),by omega,by omega,λi y' k' hy hki H' sm'=>?_,λH' p' sm' hp=>?_⟩
  ·have hi:i<ds.length:=by rw[<-hyl];exact(gI_.mp hy).1
   obtain⟨z,e1,e2⟩:=il.get (gG hi)
   rw[hy]at e1;cases e1
   obtain⟨e',eg,et⟩:=qdY hks (gG hi) hki
   have r2:=r1.same sm'
   refine⟨[ds[i]],Cn c σ,⟨y',[],rfl,Is.ext (Ext.of_same sm') (λ_ h _=>h) e2,rfl⟩,r2.tb,?_⟩
   rw[eg]
   exact λv' H3 sm3 i3=>⟨qos et i3,sm3⟩
  ·have r3:=r1.same sm'
   have hpl:∀i∈Srt.ord (qN ks),i<ds.length:=λi hi=>by
    have:=(Srt.ord_perm (qN ks)).mem_iff.mp hi
    rw[zn]at this
    rw[<-hl];exact mR_.mp this
   have ip:=IsL.pick (IsL.ext (Ext.of_same sm') (λ_ h _=>h) il) (Srt.ord (qN ks)) hpl
   have smA:zZ H1 (upd H' p' (.lst ((Srt.ord (qN ks)).map λi=>ys.getD i .non))):=λb o q=>qu hp _ b o (sm' b o q)
   exact h1 _ _ (r3.laid hp _) ⟨p',_,rfl,r3.new hp,qv,IsL.ext (Ext.of_same (qu hp _)) (λ_ h _=>h) ip⟩ (.of_same smA)
theorem qjX {F:List D->R D} {f:M D} {Z Z1:Env} {ds:List D} {ks:List yc} (h:f Z=.ok (.lst ds,Z1)) (h64:ds.length<64) (hk:qbB F ds=some ks):qdW F f Z=.ok (.lst (qb2 (Srt.ord (qN ks)) ds),Z1):=by
 unfold qdW bnd
 simp only[h,h64,if_true,hk]
end
end L2.Sk
set_option maxHeartbeats 1000000
namespace L2.Sk
open PySem PySem.Spec PyProof.Rows
section
variable{X:Cx}{c:Fc}{a b e:Expr}{pos:Pos}
end
end L2.Sk
set_option maxHeartbeats 1000000
namespace L2
open PySem PySem.Spec PyProof.Rows
theorem qcn {h h':Heap} {a:Addr} {its:Array Value} (k:∀b u,h.get? b=some u->h'.get? b=some u) (t:IsTup h a its):IsTup h' a its:=by
 obtain⟨o,h1,h2,n,h3⟩:=t
 exact⟨o,k _ _ h1,h2,n,h3⟩
theorem qeP.kept {h h':Heap} {ks:List yc} {vs:List Value} (k:∀b u,h.get? b=some u->h'.get? b=some u) (x:qeP h ks vs):qeP h' ks vs:=by
 induction x with
 |nil=>exact .nil
 |cons a _ ih=>
  obtain⟨p,q,t1,t2,its,e,h1,h2,h3⟩:=a
  exact .cons ⟨p,q,t1,t2,its,e,qcn k h1,qcn k h2,h3⟩ ih
section
variable{X:Cx}{pins:List (Addr×Obj)}{σ:St}{H0 H:Hp}{s0 s:yab}{a:Addr}{A:yav}{E:Value->yab->Prop}{vs:List Value}{ks:List yc}{P:yfh->yab->Prop}
theorem qih {n:Nat} (I0:Inv X pins σ H0 s0) (hu:A.units<cLine) (kv:qeP s0.heap ks vs) (z:SS X H0 s0 H s) (k0:∀b u,s0.heap.get? b=some u->s.heap.get? b=some u) (ho:s.heap.get? a=some (yaH "list" vs.toArray n)) (na:H a=none) (la:s0.heap.objs.size<=a) (h64:vs.length<64)
  (fin:qdV X H0 s0 a (qfH (qN ks) vs) P):wpAny (model X.prog X.w) A (ych.«list.sort» ⟨[.ref a],[]⟩) P E s:=by
 have hlen:ks.length=vs.length:=kv.length
 have hrl:(qN ks).length=vs.length:=(zn ks).trans hlen
 have hlt:a<s.heap.objs.size:=yai ho
 have sb:=ybi s.heap a (yaC λ_=>(#[]:Array Value))
 obtain⟨e1,ho1⟩:∃e1,(s.heap.update a (yaC λ_=>(#[]:Array Value))).get? a=some (yaH "list" #[] e1):=⟨_,get?_update_seq ho λ_ => #[]⟩
 have z1:=z.poke na la sb s.toks
 have kp:∀b u,(s.heap.update a (yaC λ_=>(#[]:Array Value))).get? b=some u->(((s.heap.update a (yaC λ_=>(#[]:Array Value))).push (yaH "tuple" vs.toArray 0)).push (yaH "list" #[] 0)).get? b=some u :=
  λb u q=>Heap.get?_push_of_some _ (Heap.get?_push_of_some _ q)
 have z3:=z1.kept kp s.toks
 have ka:∀b u,s0.heap.get? b=some u->(((s.heap.update a (yaC λ_=>(#[]:Array Value))).push (yaH "tuple" vs.toArray 0)).push (yaH "list" #[] 0)).get? b=some u:=λb u q=>by
  refine kp b u ((sb.2 b ?_).trans (k0 b u q))
  exact yar (yay (yai q) la)
 have kv3:=kv.kept ka
 rw[list_sort_plain]
 refine yaa (yfi ho rfl (yaa (ycr ho rfl ?_ (by rw[sT_,yaV];omega) (yaE _))))
 refine yaa (yen ho1 rfl (yaa (yew ?_ (by show vs.length<=_;rw[yaV];omega))))
 refine yaa (ydH (ybn ?_) (yaE _))
 show wpAny (model X.prog X.w) A _ P E {s with heap:=((s.heap.update a (yaC λ_=>(#[]:Array Value))).push (yaH "tuple" vs.toArray 0)).push (yaH "list" #[] 0)}
 generalize hs3:({s with heap:=((s.heap.update a (yaC λ_=>(#[]:Array Value))).push (yaH "tuple" vs.toArray 0)).push (yaH "list" #[] 0)}:yab)=s3
 have z3':SS X H0 s0 H s3:=by rw[<-hs3];exact z3
 have ga:s3.heap.get? a=some (yaH "list" #[] e1):=by rw[<-hs3];exact kp _ _ ho1
 have kv3':qeP s3.heap ks vs:=by rw[<-hs3];exact kv3
 dsimp only
 have tail:∀(st:SortSt),(arrOf st).map (·.2)=(qfH (qN ks) vs).toArray->yeK st=none ->
   wpAny (model X.prog X.w) A (do
    let touched:=(<-seqEpoch a) != e1
    Builtin.List.listUpdate (.ref a) λ_=>(arrOf st).map (·.2)
    if let some e:=yeK st then rule "list.sort.comparison-raised";throw e
    if touched then rule "list.sort.modified";raiseError "ValueError" "list modified during sort"
    ret .none) P E s3:=λst ho hf=>by
  have ol:=qcS hrl
  have sb2:=ybi s3.heap a (yaC λ_=>(qfH (qN ks) vs).toArray)
  have z4:=z3'.poke na la sb2 s3.toks
  refine yaa (yen ga rfl ?_)
  rw[ho,hf]
  refine yaa (ycr ga rfl ?_ (yaE _) (by show(qfH (qN ks) vs).toArray.size<=_;rw[sT_,yaV];omega))
  simp only[bne_self_eq_false,ybM,if_false]
  exact yah (fin H _ _ z4 na (get?_update_seq ga λ_=>(qfH (qN ks) vs).toArray))
 by_cases h2:vs.length<2
 ·have h2':vs.toArray.size<2:=by rw[sT_];exact h2
  rw[if_pos h2',if_pos h2']
  refine yaa (yah ?_)
  rw[StateT.run_pure]
  refine yaa (yah ?_)
  refine tail _ ?_ rfl
  have e0:qfH (qN ks) vs=vs:=by
   show(Srt.ord (qN ks)).map _=vs
   unfold Srt.ord
   rw[if_pos (by omega),hrl]
   exact Srt.map_getD_range _ vs
  rw[e0]
  apply Array.toList_inj.mp
  show((vs.toArray.zip vs.toArray).map (·.2)).toList=vs.toArray.toList
  rw[Array.toList_map,ksk_zip,List.map_snd_zip (yad _)]
 ·have h2':¬vs.toArray.size<2:=by rw[sT_];exact h2
  rw[if_neg h2',if_neg h2']
  obtain⟨fs,t1,t2,t3⟩:=qfK kv3'
  refine yaa ?_
  refine PySem.W.kat_kind (T:=.type "int") t1 (by omega) (λv hv=>?_) rfl ?_
  ·obtain⟨i,t,rfl⟩:=t3 v hv
   exact .now
  show wpAny _ _ _ _ _ _
  refine yaa (ya1 (PySem.W.kat_run (κ:=ybV true) (Q:=λst' s'=>s'=s3/\(arrOf st').map (·.2)=(qfH (qN ks) vs).toArray/\yeK st'=none) (G:=λp s'=>s'=s3/\p.toList=Srt.ord (qN ks)) rfl (by omega) h64 (λp st' s' a1 a2 a3 a4=>?_) ?_) ?_ λ_ _ x=>x)
  ·refine⟨a4.1,?_,a3⟩
   rw[PySem.W.kat_snds rfl a2,a4.2]
  ·have ft:=Srt.fits_sort (n:=ks.length) (by omega)
   rw[<-hlen]
   refine qeQ hu kv3' ft ⟨rfl,?_⟩
   unfold Srt.ord
   rw[if_neg (by omega),zn]
  ·rintro⟨⟨⟩,st'⟩ s' ⟨rfl,h3,h4⟩
   exact tail st' h3 h4
end
def qot (K:yaf):List V->Hp->VK->Prop:=λxs H Q=>∃(a:Addr)(ys:List V)(ks:List yc),xs=[.ref a]/\SqL K H a ys/\ys.length<64/\qeu K H ks ys /\
  ∀H' p,zZ H H'->H' p=none->Q (.ref p) (upd H' p (.lst ((Srt.ord (qN ks)).map λi=>ys.getD i .non)))
theorem qfL {K:yaf} {H:Hp} {ks:List yc} {vs:List V} (h:qeu K H ks vs):ks.length=vs.length:=by
 induction h with
 |nil=>rfl
 |cons _ _ ih=>rw[lC_,lC_,ih]
theorem qgM {X:Cx} {k:Nat} (hr:yz (k+2) X.A):yK X (.builtin "sorted") (qot X.K):=by
 intro pins s σ H xs us Q I r h
 obtain⟨l,ys,ks,rfl,hs,h64,hk,hq⟩:=h
 obtain⟨u,rfl,ru⟩:=zt.one r
 cases ru
 obtain⟨vs,r,ht,hz⟩:=I.list hs
 have hl:=r.length
 have hlen:=qfL hk
 have kv:=qkU I hk r
 have hr2:yz k X.A.in1.in1:=hr.in1.in1
 have hL:=ht.isList
 refine Calls.call_function_entry kind_sorted plain_sorted entry_sorted (args_sorted1 _) ?_
 unfold ych.«sorted»
 refine yaa (m:=checkCount "sorted" 1 1 _) (yah (yaa (collect_list hL ?_ (by rw[yaV];omega))))
 refine yaa (ydH ?_ (by rw[yaV];omega))
 have hsz:((s.heap.push (yaH "list" #[] 0)).update s.heap.objs.size (yaC (·++vs.toArray))).objs.size=s.heap.objs.size+1:=by rw[yd9,yeL]
 have hD:(((s.heap.push (yaH "list" #[] 0)).update s.heap.objs.size (yaC (·++vs.toArray))).push (yaH "list" vs.toArray 0)).get? (s.heap.objs.size+1)=some (yaH "list" vs.toArray 0):=by rw[<-hsz];exact Heap.get?_push_size _ rfl
 have keep:∀b o,s.heap.get? b=some o->(((s.heap.push (yaH "list" #[] 0)).update s.heap.objs.size (yaC (·++vs.toArray))).push (yaH "list" vs.toArray 0)).get? b=some o:=λb o q=>by
  have hb:=yai q
  rw[Heap.get?_push_ne _ _ _ (by rw[hsz];exact yar (ycM hb)),Heap.get?_update_ne _ _ _ _ (yar hb),Heap.get?_push_ne _ _ _ (yar hb)]
  exact q
 have z:=(SS.of I).kept keep s.toks
 show wpAny _ _ _ _ _ {s with heap:=((s.heap.push (yaH "list" #[] 0)).update s.heap.objs.size (yaC (·++vs.toArray))).push (yaH "list" vs.toArray 0)}
 rw[hsz]
 refine yaa (ybn (ybv slot_list_sort ⟨_,hD,rfl⟩ entry_list_sort ?body (args_list_sort _)))
 case body=>
  show wpAny (model X.prog X.w) X.A.in1.in1 (ych.«list.sort» ⟨[.ref (s.heap.objs.size+1)],[]⟩) _ _ _
  refine qih (X:=X) (H0:=H) (s0:=s) (H:=H) I hr2.units0 kv z keep hD (I.hok.fresh (ycR _)) (ycR _) (by omega) λH' s' c z' n' g'=>⟨_,rfl,?_⟩
  refine yah ⟨_,rfl,?_⟩
  have hpl:∀i∈Srt.ord (qN ks),i<ys.length:=λi hi=>by
   have:=(Srt.ord_perm (qN ks)).mem_iff.mp hi
   rw[zn]at this
   rw[<-hlen];exact mR_.mp this
  have hnone:s.heap.get? (s.heap.objs.size+1)=none:=Heap.get?_none_of_le (ycR _)
  have rp:=qbz r (Srt.ord (qN ks)) hpl
  have ol:((Srt.ord (qN ks)).map λi=>ys.getD i V.non).length<=yat:=by
   rw[lM_,(Srt.ord_perm (qN ks)).length_eq,lR_,zn,yaV];omega
  have ne':∀c u,H' c=some u->c≠s.heap.objs.size+1:=λc u q z=>by rw[z,n']at q;cases q
  have hok:HOk X.prog X.w (upd H' (s.heap.objs.size+1) (.lst ((Srt.ord (qN ks)).map λi=>ys.getD i .non))) s'.heap:=λb u e=>by
   by_cases hbD:b=s.heap.objs.size+1
   ·subst hbD
    rw[qv]at e;cases e
    exact⟨ol,_,_,rp,g'⟩
   ·rw[qw hbD]at e
    exact(z'.hok b u e).stay (λ_ _ _ q=>q) (λc q=>by rw[qw (ne' c _ q)];exact q) (λc xs q=>by rw[qw (ne' c _ q)];exact q) λc ob y q=>by rw[qw (ne' c _ q)];exact q
  have un:=Sk.un_held (o:=.lst ((Srt.ord (qN ks)).map λi=>ys.getD i .non)) z'.un hnone n'
  have zz:SS X H s (upd H' (s.heap.objs.size+1) (.lst ((Srt.ord (qN ks)).map λi=>ys.getD i .non))) s':=⟨z'.os,z'.bare,un,hok,λb o e=>qfF n' b o (z'.same b o e)⟩
  exact⟨.ref (s.heap.objs.size+1),_,zz.inv I,rfl,hq H' _ z'.same n'⟩
end L2
namespace L2.Sk
open PySem PySem.Spec PyProof.Rows
def qdZ:List D->Option (List yc)
 | []=>some []
 |d::ds=>match qi0 d,qdZ ds with
  |some k,some ks=>some (k::ks)
  |_,_=>none
theorem qfM {K:Fr0} {A:Addr->Prop} {H:Hp}:∀{ds:List D}{ks:List yc}{vs:List V},qdZ ds=some ks->IsL K A H ds vs->qeu K H ks vs
 | [],ks,vs,h,il=>by
  cases h
  have:vs=[]:=il
  subst this
  exact .nil
 | d::ds,ks,vs,h,il=>by
  unfold qdZ at h
  split at h
  ·rename_i k ks' e1 e2
   cases h
   obtain⟨x,ys,rfl,i1,i2⟩:=il
   exact .cons (qos e1 i1) (qfM e2 i2)
  ·cases h
def qd0 (i:Nat):M (List D):=λZ=>match zM i Z with
 | some ds=>if ds.length<64 then match qdZ ds with
   |some ks => .ok (qb2 (Srt.ord (qN ks)) ds,Z)
   |none => .bad
  else .bad
 |none => .bad
section
variable{X:Cx}{c:Fc}{pos:Pos}
theorem qjY {i j:Nat} {x:Str} {p p1:Pos} (hr:yz j X.A) (hg:Gl X "sorted") (hm:X.mg "sorted"=none) (hj:2<=j:=by decide) (ho:i∈c.O:=by exact of_decide_eq_true rfl) (hN:X.N[i]? = some x:=by rfl) (hv:Vis X.env.scope x:=by first|exact ya4 rfl|exact yaI (ya4 rfl)|exact yaI (yaI rfl)) (hd:(x==("__debug__":Str))=false:=by decide) (hcd:(x==("__classdict__":Str))=false:=by decide) :
  DN X c (.Call (.Name "sorted" p) [.Name x p1] [] pos) (qd0 i):=by
 have hr2:yz (0+2) X.A:=hr.mono hj
 refine⟨_,vM (qgM hr2) hg hm rfl (jH (uH hN hv hd hcd) vv),λZ σ H Q r h=>?_⟩
 unfold qd0 at h
 cases e0:zM i Z with
 |none=>simp only[e0]at h;exact h.elim
 | some ds=>
  simp only[e0]at h
  by_cases h64:ds.length<64
  case neg=>simp only[h64,if_false]at h;exact h.elim
  simp only[h64,if_true]at h
  cases ek:qdZ ds with
  |none=>simp only[ek]at h;exact h.elim
  | some ks=>
   simp only[ek]at h
   obtain⟨l,xs,him,hl,hH,il⟩:=r.getLO ho e0
   have hxl:=il.length
   have ka:=qfM ek il
   have hkl:=qfL ka
   refine⟨.ref l,hl,l,xs,ks,rfl,.inl (.inl hH),by omega,ka,λH' q sm hq=>?_⟩
   have r2:=r.same sm
   have hpl:∀i∈Srt.ord (qN ks),i<ds.length:=λi hi=>by
    have:=(Srt.ord_perm (qN ks)).mem_iff.mp hi
    rw[zn]at this
    have:=mR_.mp this
    omega
   have ip:=IsL.pick (IsL.ext (Ext.of_same sm) (λ_ h _=>h) il) (Srt.ord (qN ks)) hpl
   have hq0:H q=none:=sm.free hq
   exact h q _ _ hq0 (r2.laid hq _) (r2.apart hq) qv trivial (IsL.ext (Ext.of_same (qu hq _)) (λb hb hs=>⟨hb,λe=>by rw[e,hq]at hs;cases hs⟩) ip) (.of_same λb o z=>qu hq _ b o (sm b o z))
theorem qjZ {i:Nat} {Z:Env} {ds:List D} {ks:List yc} (h:zM i Z=some ds) (h64:ds.length<64) (hk:qdZ ds=some ks):qd0 i Z=.ok (qb2 (Srt.ord (qN ks)) ds,Z):=by
 unfold qd0
 simp only[h,h64,if_true,hk]
end
def rLtT(K:Fr0):R2:=λx y H Q=>∃a b ns ms,x=.ref a/\y=.ref b/\SqT K H a (ns.map V.int)/\SqT K H b (ms.map V.int)/\Q (.bl (HT.lexLt ns ms)) H
theorem op_ltT {X:Cx} {k:Nat} (hr:yz k X.A):OpR X (yaP .Lt) (rLtT X.K):=by
 intro pins s σ H x y v u Q I rx ry h
 obtain⟨a,b,ns,ms,rfl,rfl,h1,h2,q⟩:=h
 cases rx
 cases ry
 obtain⟨i1,r1,t1,_⟩:=I.tuple h1
 obtain⟨i2,r2,t2,_⟩:=I.tuple h2
 exact HT.lt_tupInts t1 t2 (by simpa using yX r1) (by simpa using yX r2) hr.units0 ⟨.bl _,H,I,rfl,q⟩
def ltB:D->D->OD
 |.int i,.int j=>some (.bl (decide (i<j)))
 |.tup xs,.tup ys=>match vy xs,vy ys with
  |some ns,some ms=>some (.bl (HT.lexLt ns ms))
  |_,_=>none
 |_,_=>none
theorem qkV{X:Cx}{k:Nat}(hr:yz k X.A):OpR X (yaP .Lt) (λx y H Q=>rI0 (λi j => .bl (decide (i<j))) x y H Q\/rLtT X.K x y H Q):=OpR.or qhg (op_ltT hr)
theorem qii {K:Fr0}:OpS K ltB (λx y H Q=>rI0 (λi j => .bl (decide (i<j))) x y H Q\/rLtT K x y H Q):=by
 intro A H x y d v u Q hn hx hy e k
 unfold ltB at e
 split at e
 ·rename_i i j
  cases e
  cases hx
  cases hy
  exact .inl ⟨i,j,rfl,rfl,k _ H (zZ.refl H) rfl⟩
 ·rename_i xs ys
  obtain⟨a,vs,rfl,ta,il⟩:=hx
  obtain⟨b,us,rfl,tb,jl⟩:=hy
  split at e
  ·rename_i ns ms e1 e2
   cases e
   rw[uJ il e1]at ta
   rw[uJ jl e2]at tb
   exact .inr ⟨a,b,ns,ms,rfl,rfl,ta.sq,tb.sq,k _ H (zZ.refl H) rfl⟩
  ·cases e
 ·cases e
end L2.Sk
set_option maxHeartbeats 1000000
namespace L2.Sk
open PySem PySem.Spec PyProof.Rows
def qou (O:List Nat) (Z:Env):Bool:=O.all λj=>match Z[j]? with
 |some (some (.lst ds))=>immL ds
 |_=>true
open Classical in
noncomputable def qqv (i:Nat) (O:List Nat) (F:List D->R D) (g:M (List D)) (t:M Bool):MS:=λZ=>match g Z with
 | .ok (ds,Z1)=>if immFs ds=true/\qou O Z1=true/\i<Z1.length then match F ds with
   | .ok (.tup [.lst xs,.lst ys])=>match t (Z1.set i (some (.tup [.lst xs,.lst ys]))) with
     |.ok (b,Z2)=>if b=true then .ok (.rt (.bl false) Z2)else if Z2=Z1.set i (some (.tup [.lst xs,.lst ys]))/\xs.length+ys.length<1000 then .ok (.nx (Z1.set i none))else .bad
     |_ => .bad
   |_ => .bad
  else .bad
 |_ => .bad
section
variable{X:Cx}{c:Fc}
end
end L2.Sk
namespace L2.Sk
namespace Law
open PySem PySem.Spec PyProof.Rows
set_option maxHeartbeats 4000000
theorem qkW(ds:List D)(r:Env):zM 0 (some (.lst ds)::r)=some ds:=rfl
theorem qkX(i:Nat)(o:OD)(r:Env):zM (i+1) (o::r)=zM i r:=rfl
theorem ix0(a b c:D):ixD (.tup [a,b,c]) (.int 0)=some a:=rfl
theorem ix1(a b c:D):ixD (.tup [a,b,c]) (.int 1)=some b:=rfl
theorem ix2(a b c:D):ixD (.tup [a,b,c]) (.int 2)=some c:=rfl
theorem qeS(i j:Int):neB (.int i) (.int j)=some (.bl (!decide (i=j))):=rfl
theorem qbC(i j:Int):eqB (.int i) (.int j)=some (.bl (decide (i=j))):=rfl
theorem wd(ds:List D):qbZ (tyD (.tup ds)) "tuple"=true:=rfl
theorem j6(ds:List D):vt [.tup ds]=some (.int ds.length):=rfl
theorem qd1(d:D):isN d .non=some (.bl (ve d)):=rfl
theorem qeT(d:D):qjk d .non=some (.bl (!ve d)):=rfl
theorem wf(i j:Int):gtD (.int i) (.int j)=some (.bl (decide (j<i))):=rfl
theorem wj(i j:Int):ltD (.int i) (.int j)=some (.bl (decide (i<j))):=rfl
theorem qcU(i j:Int):leD (.int i) (.int j)=some (.bl (decide (i<=j))):=rfl
local macro_rules | `(tactic| push_cast [$xs,*]) => `(tactic| simp only [yL, vB, qqj, j4, wO, qch, qkG, qo2, qpD, qbn, wP, qfs, ql3, qaJ, qbo, qdN, qgz, qft, ql4, qkH, qn4, qjD, qdO, wQ, qhP, v9, qkJ, qhQ, qdP, yS, qbp, qhR, qhS, vC, qhT, qhU, qhV, qhW, qhX, qkK, wR, qn5, qaq, lC_, lN_, mC_, List.map_nil, List.replicate, List.nil_append, List.cons_append, List.append_nil, List.getElem?_cons_zero, List.getElem?_cons_succ, List.set_cons_zero, List.set_cons_succ, Nat.reduceAdd, Nat.reduceSub, Nat.sub_self, Nat.zero_add, reduceIte, Bool.not_true, Bool.not_false, Bool.false_eq_true, if_true, if_false, ite_true, ite_false, cond_true, cond_false, decide_true, decide_false, ix0, ix1, ix2, wd, j6, qeS, qbC, qd1, qeT, wf, wj, qcU, qkW, qkX, wU, qaW, qfB, qkR, qh5, qhY, $xs,*])
theorem qai {n p:Nat} {body:MS} {ds:List D} {d:D} (h:ds.length=p) (e:∃Z,body (yL n ds)=.ok (.rt d Z)):dfn n p body ds=.ok d:=by
 obtain⟨Z,e⟩:=e
 exact ql5 h e
def yO:D->Bool
 |.int _=>true
 |_=>false
def j7:D->Bool
 |.int i=>decide (0<=i)
 |_=>false
def qij:D->Bool
 |.int i=>decide (0<i)
 |_=>false
def vW:D->Bool
 |.tup [a,b,c]=>qij a&&j7 b&&(ve c||j7 c)
 |_=>false
theorem qq8 {ds:List D} (h:ds.length=3):∃a b c,ds=[a,b,c]:=by
 match ds,h with
 | [a,b,c],_=>exact⟨a,b,c,rfl⟩
theorem qgN {ds:List D} (h:ds.length≠3):vW (.tup ds)=false:=by
 match ds,h with
 | [],_=>rfl
 | [_],_=>rfl
 | [_,_],_=>rfl
 | [a,b,c],h=>exact absurd rfl h
 |_::_::_::_::_,_=>rfl
theorem qi{p q:MS}{Z Z':Env}(h:p Z=.ok (.nx Z')):qH p q Z=q Z':=by rw[qkI,h]
theorem vh{p q:MS}{Z Z':Env}{d:D}(h:p Z=.ok (.rt d Z')):qH p q Z=.ok (.rt d Z'):=by rw[qkI,h]
theorem qov {e:M D} {f:D->D}:∀(ds acc:List D)(o:OD),(∀d∈ds,e [some d]=.ok (f d,[some d]))->acc.length+ds.length<=1000->∃Z',zC (ql 0) (ret true) e ds acc [o]=.ok (acc++ds.map f,Z')
 | [],acc,o,_,_=>⟨[o],by simp[zC]⟩
 |d::ds,acc,o,h,hl=>by
  have hl':acc.length+(ds.length+1)<=1000:=hl
  obtain⟨Z',q⟩:=qov ds (acc++[f d]) (some d) (λx hx=>h x (mM _ hx)) (by rw[lA_,yau];omega)
  refine⟨Z',?_⟩
  unfold zC
  simp only[ql,ybm,ret,h d mS_,zf (show acc.length+1<=1000000 by omega),if_true,q]
  simp
theorem qd2 (f:D->Bool):∀ds:List D,ug (ds.map λd=>D.bl (f d))=some (ds.map f)
 | []=>rfl
 |d::ds=>by simp[ug,qd2 f ds]
theorem all_map {ds:List D} {f:D->Bool}:qfm [.lst (ds.map λd=>D.bl (f d))]=some (.bl (ds.all f)):=by
 simp only[qfm,qd2,ydd]
 congr 2
 rw[yfj]
 rfl
theorem qmr {F:List D->R D} {f:D->Bool} {xs:M (List D)} {ds:List D} {Z:Env} (hx:xs Z=.ok (ds,Z)) (hF:∀d∈ds,F [d]=.ok (.bl (f d))) (hl:ds.length<=1000) :
  qq qfm (qa (zE 1 [] none xs (ql 0) (ret true) (qp F (qa (dv 0) (ret [])))) (ret [])) Z=.ok (.bl (ds.all f),Z):=by
 obtain⟨Z',q⟩:=qov (e:=qp F (qa (dv 0) (ret []))) (f:=λd=>D.bl (f d)) ds [] none (λx hm=>by push_cast [];rw[hF x hm]) (by simpa using hl)
 have q':zC (ql 0) (ret true) (qp F (qa (dv 0) (ret []))) ds [] (yR 1 [] Z)=.ok ([]++ds.map λd=>D.bl (f d),Z'):=q
 simp only[qbn,j4,qbq,hx,q',vB,ybc,all_map]
 rfl
def uG:D->Bool
 |.tup ds=>decide (ds.length<=12)&&ds.all vW
 |_=>false
def leI:D->D->Bool
 |.int i,.int j=>decide (i<=j)
 |_,_=>false
def qpP (k x:D):Bool:=match k with
 |.tup [_,_,m]=>j7 x&&(ve m||leI x m)
 |_=>false
def qfN:List D->List D->Bool
 |k::ks,x::xs=>qpP k x&&qfN ks xs
 |_,_=>true
def qqw:D->D->Bool
 |.tup xs,.tup ks=>decide (xs.length=ks.length)&&qfN ks xs
 |_,_=>false
theorem qfO:∀bs:List Bool,ug (bs.map D.bl)=some bs
 | []=>rfl
 |b::bs=>by simp[ug,qfO bs]
theorem qkY {ds:List D} {i:Nat} {d:D} (h:ds[i]? = some d):ixD (.tup ds) (.int (i:Nat))=some d:=by
 have hi:i<ds.length:=(gI_.mp h).1
 show atI ds (i:Int)=some d
 unfold atI ixN
 rw[if_pos (by omega),if_pos (by omega)]
 simpa using h
theorem uV {l:M (List D)} {Z Z1:Env} {j:Int} (e:l Z=.ok ([.int j],Z1)) (h0:0<=j) (h:j<=1000000):jC l Z=.ok (qcJ 0 j.toNat,Z1):=by
 have h1:(-(2 ^ 62)<=j):=by omega
 have h2:(j<2 ^ 62):=by omega
 have e2:qkz [.int j]=some (qcJ 0 j.toNat):=by
  simp only[qkz,h1,h2,decide_true,yaF,if_true]
 have e3:jC l Z=lift (qkz [.int j]) Z1:=by
  show bnd l (λds=>lift (qkz ds)) Z=_
  rw[qpC,e]
 rw[e3,e2]
 rfl
theorem qik {n m:Int} (h0:0<m) (h1:m<1606938044258990275541962092341162602522202993782792835301376):qbc [.int n,.int m]=some (.tup [.int (n/m),.int (n%m)]):=by
 simp only[qbc,qgq,h0,h1,decide_true,yaF,if_true]
theorem at0 (d:D) (r:List D):atI (d::r) 0=some d:=by
 unfold atI ixN
 rw[if_pos (by omega),if_pos (by simp)]
 rfl
theorem qq9:ixN 1 0=some 0:=by decide
theorem zx(i j:Int):qU (.int i) (.int j)=some (.int (i+j)):=rfl
theorem vP(i j:Int):qdp (.int i) (.int j)=some (.int (i-j)):=rfl
theorem qco {ds:List D} {k:Int} (h0:0<=k) (h1:k<ds.length):∃d∈ds,ixD (.lst ds) (.int k)=some d:=by
 obtain⟨i,rfl⟩:=ybZ h0
 have hi:i<ds.length:=by omega
 refine⟨ds[i],List.getElem_mem hi,?_⟩
 show atI ds (i:Int)=_
 unfold atI ixN
 rw[if_pos (by omega),if_pos (by omega)]
 show ds[(i:Int).toNat]? = _
 rw[ybD,gG hi]
theorem qra (i:Int):uF (.int 2) (.int i)=some (.int (2*i)):=by
 have h:qeB 2 i=true:=by
  unfold qeB
  have:uf 2=true:=by decide
  rw[this];rfl
 simp only[uF,h,if_true]
def qj0(c m:D):Prop:=m=c\/∃j,m=.int j/\0<=j/\j<=5
def uW(k:D):Prop:=∃a b m,k=.tup [.int a,.int b,m]/\1<=a/\a<=25/\0<=b/\b<=39/\qj0 .non m
theorem uW.imm {k:D} (h:uW k):imm k=true:=by
 obtain⟨a,b,m,rfl,_,_,_,_,hm⟩:=h
 rcases hm with rfl|⟨j,rfl,_⟩<;>rfl
theorem uW.lay {k:D} (h:uW k):(zF k).canLay0=true/\(zF k).depth=1:=by
 obtain⟨a,b,m,rfl,_,_,_,_,hm⟩:=h
 rcases hm with rfl|⟨j,rfl,_⟩<;>exact⟨rfl,rfl⟩
theorem qkZ:∀ks:List D,(∀k∈ks,uW k)->yaM (toPDs ks)=true/\yaQ (toPDs ks)<=1
 | [],_=>⟨rfl,yaE _⟩
 |k::ks,h=>by
  obtain⟨h1,h2⟩:=qkZ ks λx hx=>h x (mM _ hx)
  obtain⟨g1,g2⟩:=(h k mS_).lay
  unfold toPDs
  simp only[yaM,yaQ,h1,g1,g2,yaF,true_and]
  omega
theorem qeU {ks:List D} (h:∀k∈ks,uW k):∃b,neA (.lst ks) (.lst [])=some (.bl b)/\(b=true->ks≠[]):=by
 obtain⟨h1,h2⟩:=qkZ ks h
 have e1:v7 (.lst ks)=true:=by
  have e:v7 (.lst ks)=(yaM (toPDs ks)&&decide (yaQ (toPDs ks)+1<=50)):=by
   simp only[v7,zF,ya6,ybs]
  rw[e,h1,ybu,decide_eq_true_eq]
  omega
 have e2:v7 (.lst [])=true:=rfl
 refine⟨!ybf (zF (.lst ks)) (zF (.lst [])),by simp only[neA,e1,e2,yaF,if_true],λhb hn=>?_⟩
 subst hn
 exact absurd hb (by decide)
theorem qow {ds:List D} {k:Int} (h0:0<=k) (h1:k<ds.length):∃d∈ds,atI ds k=some d:=by
 obtain⟨d,hd,e⟩:=qco h0 h1
 exact⟨d,hd,e⟩
theorem qj1(j:Nat):(qcJ 0 j).length=j:=by simp[qcJ]
theorem vQ {i j:Int} (h:0<j):qku (.int i) (.int j)=some (.int (i%j)):=by
 simp only[qku,qiY,h,decide_true,if_true]
theorem ul {i j:Int} (h:0<j) (h1:j<1606938044258990275541962092341162602522202993782792835301376):ux (.int i) (.int j)=some (.int (i/j)):=by
 simp only[ux,qiY,qgq,h,h1,decide_true,yaF,if_true]
theorem qd3 {i j:Int} (h:uf i=true):uF (.int i) (.int j)=some (.int (i*j)):=by
 simp only[uF,qeB,h,yfk,if_true]
theorem qj2 {i j:Int} (h:uf j=true):uF (.int i) (.int j)=some (.int (i*j)):=by
 simp only[uF,qeB,h,yfg,if_true]
theorem wm {i:Int} (h0:0<=i) (h1:i<2000000000):uf i=true:=by
 unfold uf
 rw[yag,decide_eq_true_eq,decide_eq_true_eq]
 constructor<;>omega
def facts:List Int:=[48271,69621,16807,39373,30269,40014,40692,50021,61687,71993,83869,95561,30307]
structure qcV (w e:Nat) (d:D):Prop where
 lv:(zF d).leavesShort 40=true
 sh:(zF d).showable=true
 wt:(zF d).weight<=w
 dp:(zF d).depth<=e
theorem qcV.mono{w e w' e':Nat}{d:D}(h:qcV w e d)(h1:w<=w')(h2:e<=e'):qcV w' e' d:=⟨h.lv,h.sh,yaA h.wt h1,yaA h.dp h2⟩
theorem qcW {w e:Nat}:∀ds:List D,(∀d∈ds,qcV w e d)->yeA 40 (toPDs ds)=true/\yb8 (toPDs ds)=true/\PyData.weightAll (toPDs ds)<=ds.length*(w+1)/\yaQ (toPDs ds)<=e
 | [],_=>⟨rfl,rfl,yaE _,yaE _⟩
 |d::ds,h=>by
  obtain⟨h1,h2,h3,h4⟩:=qcW ds λx hx=>h x (mM _ hx)
  have g:=h d mS_
  have g3:=g.wt
  have g4:=g.dp
  simp only[toPDs,yeA,yb8,PyData.weightAll,yaQ,h1,h2,g.lv,g.sh,yaF,true_and,lC_,yd3]
  omega
theorem wX {w e n:Nat} {ds:List D} (h:∀d∈ds,qcV w e d) (hl:ds.length<=n):qcV (n*(w+1)) (e+1) (.tup ds):=by
 obtain⟨h1,h2,h3,h4⟩:=qcW ds h
 refine⟨?_,?_,?_,?_⟩
 ·simp only[zF,yfl,h1]
 ·simp only[zF,yc9,h2]
 ·simp only[zF,PyData.weight]
  exact yaA h3 (yde _ hl)
 ·simp only[zF,ybs]
  omega
theorem qfP {w e n:Nat} {ds:List D} (h:∀d∈ds,qcV w e d) (hl:ds.length<=n):qcV (n*(w+1)) (e+1) (.lst ds):=by
 obtain⟨h1,h2,h3,h4⟩:=qcW ds h
 refine⟨?_,?_,?_,?_⟩
 ·simp only[zF,yfl,h1]
 ·simp only[zF,yc9,h2]
 ·simp only[zF,PyData.weight]
  exact yaA h3 (yde _ hl)
 ·simp only[zF,ybs]
  omega
def qms(d:D):Bool:=(zF d).leavesShort 40&&(zF d).showable&&decide ((zF d).weight<=130)&&decide ((zF d).depth<=5)
theorem qil {d:D} (h:qms d=true):qcV 130 5 d:=by
 simp only[qms,yag,decide_eq_true_eq]at h
 exact⟨h.1.1.1,h.1.1.2,h.1.2,h.2⟩
def dl(d:D):Bool := !(zF d).hasDict||noL d
def plain(d:D):Bool := !(zF d).hasDict&&noL d
def dlL(ds:List D):Bool := !ybg (toPDs ds)||noLs ds
theorem qeV {w e:Nat} {d:D} (h:qcV w e d) (hw:w<=100000) (he:e<=50) (hd:dl d=true):qcf d=true:=by
 have h1:=PyData.shown_le 40 (by omega) _ h.lv
 have h2:(40+2)*(zF d).weight<=42*100000:=Nat.mul_le_mul_left _ (yaA h.wt hw)
 have h3:=h.dp
 have e1:(zF d).shown.length<=yat:=by rw[yfA];omega
 have e2:(zF d).depth<=50:=by omega
 unfold dl at hd
 simp only[qcf,h.sh,e1,e2,decide_true,ybu,hd]
theorem qcX:∀xs ys:List D,noLs (xs++ys)=(noLs xs&&noLs ys)
 | [],ys=>by simp[noLs]
 |x::xs,ys=>by simp[noLs,qcX xs ys,Bool.and_assoc]
theorem qcY:∀xs ys:List D,ybg (toPDs (xs++ys))=(ybg (toPDs xs)||ybg (toPDs ys))
 | [],ys=>by simp[toPDs,ybg]
 |x::xs,ys=>by simp[toPDs,ybg,qcY xs ys,Bool.or_assoc]
theorem wY:∀xs:List D,(∀d∈xs,plain d=true)->ybg (toPDs xs)=false/\noLs xs=true
 | [],_=>⟨rfl,rfl⟩
 |x::xs,h=>by
  obtain⟨h1,h2⟩:=wY xs λy hy=>h y (mM _ hy)
  have g:=h x mS_
  unfold plain at g
  rw[yag,ydP]at g
  simp[toPDs,ybg,noLs,h1,h2,g.1,g.2]
theorem qox (ds:List D):dl (.tup ds)=dlL ds:=by
 simp only[dl,dlL,zF,PyData.hasDict,noL]
theorem qoy {xs ys zs:List D} (h1:∀d∈xs,plain d=true) (h2:∀d∈zs,plain d=true) (h:dlL ys=true):dl (.tup (xs++ys++zs))=true:=by
 obtain⟨a1,a2⟩:=wY xs h1
 obtain⟨b1,b2⟩:=wY zs h2
 rw[qox]
 unfold dlL at h |-
 rw[qcY,qcY,qcX,qcX,a1,a2,b1,b2]
 simpa using h
theorem qav {i:Int} (h0:0<=i) (h1:i<=39):qcV 7 0 (.int i):=by
 have h:(yal 40).all (λi=>(zF (.int (i:Nat))).leavesShort 40&&(zF (.int (i:Nat))).showable&&decide ((zF (.int (i:Nat))).weight<=7))=true:=by decide +kernel
 obtain⟨k,rfl⟩:=ybZ h0
 have hk:=List.all_eq_true.mp h k (mR_.mpr (by omega))
 simp only[yag,decide_eq_true_eq]at hk
 exact⟨hk.1.1,hk.1.2,hk.2,yaE _⟩
def qcZ:List D:=[.non,.bl true,.bl false,.int (-1),.str "",.str "1",.tup [.int 0],.lst [.int 1],.dic [(.inr "a",1)],.tup [.int (-1)],.tup [.bl true],.tup [.tup [.int 1,.int 2]],.tup [.non],.int 100000000000000000000000000000]
def qc0:List D:=[.tup [.int 1,.int 2,.int 3],.tup [.tup [.int 0,.int 1,.int 1]],.tup [.tup [.int 1,.int (-1),.int 1]],.tup [.tup [.int 1,.int 1,.int (-1)]],.lst [.tup [.int 1,.int 1,.int 1]],.dic [(.inl 0,1)],.str "1/1*1",.tup [.tup [.int 1,.int 1,.bl true]]]
theorem qim:(qcZ++qc0).all (λd=>qms d&&dl d)=true:=by decide +kernel
theorem neg_int(i:Int):qaI (.int i)=some (.int (-i)):=rfl
theorem qmt:qfq (.int 10) (.int 29)=some (.int 100000000000000000000000000000):=by
 have h:qhJ 10 29=true:=by decide +kernel
 have e:(10:Int) ^ (29:Int).toNat=100000000000000000000000000000:=by decide +kernel
 simp only[qfq,qiY,h,if_true,e]
theorem wZ {xs ys:List D} (h:xs.length+ys.length<=1000000):qU (.lst xs) (.lst ys)=some (.lst (xs++ys)):=by
 simp only[qU,zf h,if_true]
theorem uX {xs ys:List D} (h:xs.length+ys.length<=1000000):qU (.tup xs) (.tup ys)=some (.tup (xs++ys)):=by
 simp only[qU,zf h,if_true]
def pt (p:Int):D->Int
 |.tup [.int a,.int b,_]=>if p=0 then a else b
 |_=>0
def num:D->Int
 |.int x=>x
 |_=>0
def qpQ (p:Int):List D->List D->List Int
 |k::ks,x::xs=>(pt p k*num x)::qpQ p ks xs
 |_,_=>[]
theorem w5:∀ns:List Int,vy (ns.map D.int)=some ns
 | []=>rfl
 |n::ns=>by simp[vy,w5 ns]
theorem qoz:qal [.bl true]=some (.int 1):=rfl
theorem qoA:qal [.bl false]=some (.int 0):=rfl
theorem qrb(a b:D):ixD (.lst [a,b]) (.int 0)=some a:=rfl
theorem qrc(a b:D):ixD (.lst [a,b]) (.int 1)=some b:=rfl
theorem qgO(xs:List D):qbd [.lst xs]=some (.tup xs):=rfl
theorem qin(xs:List D):qgs [.tup xs]=some (.lst xs):=rfl
theorem qbD (x:Str):neB (.str x) (.str x)=some (.bl false):=by
 show some (D.bl (!decide (x=x)))=_
 rw[decide_eq_true rfl];rfl
theorem qpR {F:List D->R D} {f g h:M D} {Z:Env} {a b c d:D} (hf:f Z=.ok (a,Z)) (hg:g Z=.ok (b,Z)) (hh:h Z=.ok (c,Z)) (e:F [a,b,c]=.ok d):qp F (qa f (qa g (qa h (ret [])))) Z=.ok (d,Z):=by
 have e1:qa h (ret []) Z=.ok ([c],Z):=by rw[j4,hh];rfl
 have e2:qa g (qa h (ret [])) Z=.ok ([b,c],Z):=by rw[j4,hg];dsimp only;rw[e1]
 have e3:qa f (qa g (qa h (ret []))) Z=.ok ([a,b,c],Z):=by rw[j4,hf];dsimp only;rw[e2]
 rw[wP,e3]
 dsimp only
 rw[e]
theorem jg {F:List D->OD} {f:M D} {Z:Env} {a d:D} (hf:f Z=.ok (a,Z)) (e:F [a]=some d):qq F (qa f (ret [])) Z=.ok (d,Z):=by
 have e0:qa f (ret []) Z=.ok ([a],Z):=by rw[j4,hf];rfl
 rw[qbn,e0]
 dsimp only
 rw[e]
theorem qfQ(i j:Int):v3 [.int i,.int j]=some (.int (if j<i then j else i)):=rfl
theorem sl_tup(xs:List D)(a b:Option Int):slD (.tup xs) a b=some (.tup (qfn xs a b)):=rfl
theorem qpS:qfq (.int 10) (.int 20)=some (.int 100000000000000000000):=by
 have h:qhJ 10 20=true:=by decide +kernel
 have e:(10:Int) ^ (20:Int).toNat=100000000000000000000:=by decide +kernel
 simp only[qfq,qiY,h,if_true,e]
theorem qmu {α:Type} {e:M D} {t:M Bool} {k f:α->D} {p:α->Bool} {r:Env}:∀(as:List α)(acc:List D)(o:OD),(∀a∈as,t (some (k a)::r)=.ok (p a,some (k a)::r))->(∀a∈as,p a=true->e (some (k a)::r)=.ok (f a,some (k a)::r))->acc.length+as.length<=1000000 ->
  ∃o',zC (ql 0) t e (as.map k) acc (o::r)=.ok (acc++(as.filter p).map f,o'::r)
 | [],acc,o,_,_,_=>⟨o,by simp[zC]⟩
 | a::as,acc,o,ht,he,hl=>by
  have hl':acc.length+(as.length+1)<=1000000:=hl
  have h1:=ht a mS_
  rw[mC_]
  unfold zC
  simp only[ql,ybm,h1]
  cases hp:p a with
  |false=>
   obtain⟨o',q⟩:=qmu as acc (some (k a)) (λx hx=>ht x (mM _ hx)) (λx hx=>he x (mM _ hx)) (by omega)
   refine⟨o',?_⟩
   simp only[q,ft_,hp,ybM,if_false]
  |true=>
   obtain⟨o',q⟩:=qmu as (acc++[f a]) (some (k a)) (λx hx=>ht x (mM _ hx)) (λx hx=>he x (mM _ hx)) (by rw[lA_,yau];omega)
   refine⟨o',?_⟩
   simp only[he a mS_ hp,zf (show acc.length+1<=1000000 by omega),if_true,q,ft_,hp,mC_,aA_,yeB]
theorem qoB {α:Type} {e:M D} {t:M Bool} {k:α->D} {xs:M (List D)} {Z r:Env} {fr:List Nat} (as:List α) (p:α->Bool) (f:α->D) (hx:xs Z=.ok (as.map k,Z)) (hr:yR 1 fr Z=none::r) (hl:as.length<=1000000)
  (ht:∀a∈as,t (some (k a)::r)=.ok (p a,some (k a)::r)) (he:∀a∈as,p a=true->e (some (k a)::r)=.ok (f a,some (k a)::r)):zE 1 fr none xs (ql 0) t e Z=.ok (.lst ((as.filter p).map f),Z):=by
 obtain⟨o',q⟩:=qmu as [] none ht he (by simpa using hl)
 rw[qbq,hx]
 simp only[hr,q,ybc]
 rfl
theorem wn{α:Type}(as:List α):as.filter (λ_=>true)=as:=by simp
theorem qbE {α:Type} {e:M D} {k:α->D} {xs:M (List D)} {Z r:Env} {fr:List Nat} (as:List α) (f:α->D) (hx:xs Z=.ok (as.map k,Z)) (hr:yR 1 fr Z=none::r) (hl:as.length<=1000000)
  (he:∀a∈as,e (some (k a)::r)=.ok (f a,some (k a)::r)):zE 1 fr none xs (ql 0) (ret true) e Z=.ok (.lst (as.map f),Z):=by
 rw[qoB as (λ_=>true) f hx hr hl (λ_ _=>rfl) λa ha _=>he a ha,wn]
theorem jD {α β:Type} {G:D->Env->Option Env} {b:MS} {k:α->D} {step:β->α->β} {Inv:Nat->β->Env->Prop}:∀(as:List α)(n:Nat)(s:β)(Z:Env),Inv n s Z ->
  (∀a∈as,∀m s Z,n<=m->m<n+as.length->Inv m s Z->∃Z1 Z2,G (k a) Z=some Z1/\b Z1=.ok (.nx Z2)/\Inv (m+1) (step s a) Z2) ->
  ∃Z',uS G b (as.map k) Z=.ok (.nx Z')/\Inv (n+as.length) (as.foldl step s) Z'
 | [],n,s,Z,h,_=>⟨Z,rfl,h⟩
 | a::as,n,s,Z,h,H=>by
  obtain⟨Z1,Z2,h1,h2,h3⟩:=H a mS_ n s Z (yad _) (by rw[lC_];omega) h
  obtain⟨Z',q,w⟩:=jD as (n+1) (step s a) Z2 h3 λx hx m s Z m1 m2=>H x (mM _ hx) m s Z (by omega) (by rw[lC_];omega)
  refine⟨Z',?_,?_⟩
  ·rw[mC_]
   unfold uS
   simp only[h1,h2]
   exact q
  ·rw[lC_,show n+(as.length+1)=n+1+as.length by omega]
   exact w
theorem yC{f:M D}{Z:Env}{a:D}(hf:f Z=.ok (a,Z)):qa f (ret []) Z=.ok ([a],Z):=by rw[j4,hf];rfl
theorem qd4{f g:M D}{Z:Env}{a b:D}(hf:f Z=.ok (a,Z))(hg:g Z=.ok (b,Z)):qa f (qa g (ret [])) Z=.ok ([a,b],Z):=by rw[j4,hf];simp only[yC hg]
theorem qc1{f g h:M D}{Z:Env}{a b c:D}(hf:f Z=.ok (a,Z))(hg:g Z=.ok (b,Z))(hh:h Z=.ok (c,Z)):qa f (qa g (qa h (ret []))) Z=.ok ([a,b,c],Z):=by rw[j4,hf];simp only[qd4 hg hh]
theorem qj3{f g:M D}{Z:Env}{a b:D}(hf:f Z=.ok (a,Z))(hg:g Z=.ok (b,Z)):qO (qa f (qa g (ret []))) Z=.ok (.tup [a,b],Z):=by rw[wO,qd4 hf hg];simp only[lC_,lN_,zf (show 0+1+1<=1000000 by omega),if_true]
theorem qoC{f g h:M D}{Z:Env}{a b c:D}(hf:f Z=.ok (a,Z))(hg:g Z=.ok (b,Z))(hh:h Z=.ok (c,Z)):qO (qa f (qa g (qa h (ret [])))) Z=.ok (.tup [a,b,c],Z):=by rw[wO,qc1 hf hg hh];simp only[lC_,lN_,zf (show 0+1+1+1<=1000000 by omega),if_true]
theorem vi{F:List D->R D}{f:M D}{Z:Env}{a d:D}(hf:f Z=.ok (a,Z))(e:F [a]=.ok d):qp F (qa f (ret [])) Z=.ok (d,Z):=by rw[wP,yC hf];simp only[e]
theorem qk0{F:List D->R D}{f g:M D}{Z:Env}{a b d:D}(hf:f Z=.ok (a,Z))(hg:g Z=.ok (b,Z))(e:F [a,b]=.ok d):qp F (qa f (qa g (ret []))) Z=.ok (d,Z):=by rw[wP,qd4 hf hg];simp only[e]
theorem qo{F:D->D->OD}{f g:M D}{Z:Env}{a b d:D}(hf:f Z=.ok (a,Z))(hg:g Z=.ok (b,Z))(e:F a b=some d):d2 F f g Z=.ok (d,Z):=by rw[qo2,hf];simp only[hg,e]
theorem zT{f:M D}{Z:Env}{b:Bool}(hf:f Z=.ok (.bl b,Z)):tst f Z=.ok (b,Z):=by rw[ql3,hf];rfl
theorem qgP{t:M Bool}{p q:MS}{Z:Env}(h:t Z=.ok (true,Z)):sif t p q Z=p Z:=by rw[qjD,h];rfl
theorem qev{t:M Bool}{p q:MS}{Z:Env}(h:t Z=.ok (false,Z)):sif t p q Z=q Z:=by rw[qjD,h];rfl
theorem w6 {i:Nat} {f:M D} {Z:Env} {ds:List D} {d:D} (h:zM i Z=some ds) (hf:f Z=.ok (d,Z)) (hi:imm d=true) (hl:ds.length<1000000):jk (zH i f) Z=.ok (.nx (Z.set i (some (.lst (ds++[d]))))):=by
 simp only[v9,wR,h,hf,hi,zf (show ds.length+1<=1000000 by omega),yaF,if_true]
theorem qbF {G:D->Env->Option Env} {b:MS} {d:D} {ds:List D} {Z Z1 Z2:Env} (h1:G d Z=some Z1) (h2:b Z1=.ok (.nx Z2)):uS G b (d::ds) Z=uS G b ds Z2:=by
 show(match G d Z with|none=>R.bad|some Z1=>_)=_
 rw[h1]
 simp only[h2]
theorem io1 {F:List D->List D->R (D×List D)} {i:Nat} {f:M D} {Z:Env} {ds ds':List D} {a d:D} (h:zM i Z=some ds) (hf:f Z=.ok (a,Z)) (e:F ds [a]=.ok (d,ds')):qj F i (qa f (ret [])) Z=.ok (d,Z.set i (some (.lst ds'))):=by
 simp only[vC,h,yC hf,e]
theorem qpT {i j:Nat} {f g:M D} {Z Z1 Z2:Env} {a b:D} (hf:f Z=.ok (a,Z1)) (hg:g Z1=.ok (b,Z2)):qdK i j (qa f (qa g (ret []))) Z=.ok (.nx ((Z2.set i (some a)).set j (some b))):=by
 rw[qhQ,j4,hf]
 simp only[j4,hg,vB]
def mD:Option Int->D
 |none => .non
 |some j => .int j
abbrev Kd:=Int×Int×Option Int
def kD(x:Kd):D:=.tup [.int x.1,.int x.2.1,mD x.2.2]
theorem qc2 {α:Type} {f:α->D}:∀{as:List α},(∀a∈as,imm (f a)=true)->immL (as.map f)=true
 | [],_=>rfl
 |a::as,h=>by simp only[mC_,immL,h a mS_,qc2 λx hx=>h x (mM _ hx),yaF]
def okK(x:Kd):Prop:=0<x.1/\0<=x.2.1/\(∀j,x.2.2=some j->0<=j)
theorem qio {x:Kd} (h:okK x):vW (kD x)=true:=by
 obtain⟨a,b,m⟩:=x
 obtain⟨h1,h2,h3⟩:=h
 have e1:qij (.int a)=true:=decide_eq_true h1
 have e2:j7 (.int b)=true:=decide_eq_true h2
 cases m with
 |none=>simp only[kD,mD,vW,e1,e2,ve,ybu,yfk]
 |some j=>
  have e3:j7 (.int j)=true:=decide_eq_true (h3 j rfl)
  simp only[kD,mD,vW,e1,e2,e3,ybu,yfg]
theorem qgQ {ks:List Kd} (h:∀x∈ks,okK x) (hl:ks.length<=12):uG (.tup (ks.map kD))=true:=by
 have:(ks.map kD).all vW=true:=by
  rw[yfj]
  exact List.all_eq_true.mpr λx hx=>qio (h x hx)
 simp only[uG,lM_,hl,decide_true,this,ybu]
theorem qj4(m:Option Int):ve (mD m)=m.isNone:=by cases m<;>rfl
theorem qk1 {α:Type} {ds:List α} {n:Nat} {d:α} (h:ds[n]? = some d):atI ds (n:Int)=some d:=by
 unfold atI ixN
 have hl:=(gI_.mp h).1
 rw[if_pos (by omega),if_pos (by omega)]
 show ds[(n:Int).toNat]? = _
 rw[ybD];exact h
theorem qfR {α:Type} {as:List α} {f:α->Bool}:qfm [.lst (as.map λa=>D.bl (f a))]=some (.bl (as.all f)):=by
 have:ug (as.map λa=>D.bl (f a))=some (as.map f):=by
  have:=qfO (as.map f)
  rw[mm_]at this
  exact this
 simp only[qfm,this,ydd]
 congr 2
 rw[yfj]
 rfl
theorem qj5 {α:Type} {as:List α} {f:α->Int}:qnG [.lst (as.map λa=>D.int (f a))]=some (.int (as.map f).sum):=by
 have:vy (as.map λa=>D.int (f a))=some (as.map f):=by
  have:=w5 (as.map f)
  rw[mm_]at this
  exact this
 simp only[qnG,this,ydd]
theorem qbG {ns:List Int}:v7 (.tup (ns.map D.int))=true:=by
 have h:∀ns:List Int,yaM (toPDs (ns.map D.int))=true/\yaQ (toPDs (ns.map D.int))=0:=λns=>by
  induction ns with
  |nil=>exact⟨rfl,rfl⟩
  |cons n ns ih=>exact⟨by simp only[mC_,toPDs,zF,yaM,ya6,ih.1,yaF],by simp only[mC_,toPDs,zF,yaQ,ybs,ih.2];rfl⟩
 obtain⟨h1,h2⟩:=h ns
 simp only[v7,zF,ya6,ybs,h1,h2]
 rfl
theorem qfS:∀ns ms:List Int,ybf (.tuple (toPDs (ns.map D.int))) (.tuple (toPDs (ms.map D.int)))=decide (ns=ms):=by
 have h:∀ns ms:List Int,ydI (toPDs (ns.map D.int)) (toPDs (ms.map D.int))=decide (ns=ms):=λns=>by
  induction ns with
  |nil=>intro ms;cases ms<;>rfl
  | cons n ns ih=>
   intro ms
   cases ms with
   |nil=>rfl
   |cons m ms=>
    simp only[mC_,toPDs,zF,ydI,ybf,ih ms,yb9,Bool.decide_and]
    rfl
 intro ns ms
 simp only[ybf,h]
theorem qip {α:Type} {e:M D} {t:M Bool} {u v f:α->D} {p:α->Bool} {r:Env}:∀(as:List α)(acc:List D)(o o':OD),(∀a∈as,t (some (u a)::some (v a)::r)=.ok (p a,some (u a)::some (v a)::r))->(∀a∈as,p a=true->e (some (u a)::some (v a)::r)=.ok (f a,some (u a)::some (v a)::r))->acc.length+as.length<=1000000 ->
  ∃o1 o2,zC (vN 2 (qQ (ql 0) (qQ (ql 1) vq))) t e (as.map λa => .tup [u a,v a]) acc (o::o'::r)=.ok (acc++(as.filter p).map f,o1::o2::r)
 | [],acc,o,o',_,_,_=>⟨o,o',by simp[zC]⟩
 | a::as,acc,o,o',ht,he,hl=>by
  have hl':acc.length+(as.length+1)<=1000000:=hl
  have h1:=ht a mS_
  rw[mC_]
  unfold zC
  have hg:vN 2 (qQ (ql 0) (qQ (ql 1) vq)) (.tup [u a,v a]) (o::o'::r)=some (some (u a)::some (v a)::r):=rfl
  simp only[hg,h1]
  cases hp:p a with
  |false=>
   obtain⟨o1,o2,q⟩:=qip as acc (some (u a)) (some (v a)) (λx hx=>ht x (mM _ hx)) (λx hx=>he x (mM _ hx)) (by omega)
   refine⟨o1,o2,?_⟩
   simp only[q,ft_,hp,ybM,if_false]
  |true=>
   obtain⟨o1,o2,q⟩:=qip as (acc++[f a]) (some (u a)) (some (v a)) (λx hx=>ht x (mM _ hx)) (λx hx=>he x (mM _ hx)) (by rw[lA_,yau];omega)
   refine⟨o1,o2,?_⟩
   simp only[he a mS_ hp,zf (show acc.length+1<=1000000 by omega),if_true,q,ft_,hp,mC_,aA_,yeB]
theorem qiq {α:Type} {e:M D} {t:M Bool} {u v:α->D} {xs:M (List D)} {Z r:Env} {fr:List Nat} (as:List α) (p:α->Bool) (f:α->D) (hx:xs Z=.ok (as.map λa => .tup [u a,v a],Z)) (hr:yR 2 fr Z=none::none::r) (hl:as.length<=1000000)
  (ht:∀a∈as,t (some (u a)::some (v a)::r)=.ok (p a,some (u a)::some (v a)::r)) (he:∀a∈as,p a=true->e (some (u a)::some (v a)::r)=.ok (f a,some (u a)::some (v a)::r)):zE 2 fr none xs (vN 2 (qQ (ql 0) (qQ (ql 1) vq))) t e Z=.ok (.lst ((as.filter p).map f),Z):=by
 obtain⟨o1,o2,q⟩:=qip as [] none none ht he (by simpa using hl)
 rw[qbq,hx]
 simp only[hr,q,ybc]
 rfl
theorem qpU (n:Nat):qcJ 0 n=(yal n).map λi=>D.int (i:Nat):=by
 unfold qcJ
 refine mL_ λi _=>?_
 rw[Int.zero_add]
end Law
end L2.Sk
namespace L2.Sk.Law
def qrd:Nat->(Nat->Nat)->Nat
 |0,_=>0
 |n+1,f=>qrd n f+f n
structure Kw where
 w:Int
 v:Int
 m:Option Int
def okT(k:Kw)(t:Nat)(r:Int):Bool:=decide ((t:Int)*k.w<=r)&&(match k.m with|none=>true|some j=>decide ((t:Int)<=j))
def ofn(k:Kw)(r:Int):Nat:=(match k.m with|none=>r/k.w|some j=>if j<r/k.w then j else r/k.w).toNat
theorem qir {k:Kw} (hw:1<=k.w) (hm:∀j,k.m=some j->0<=j) {r:Int} (hr:0<=r) (t:Nat):okT k t r=decide (t<=ofn k r):=by
 have hd:0<=r/k.w:=Int.ediv_nonneg hr (by omega)
 have he:((t:Int)*k.w<=r) ↔ ((t:Int)<=r/k.w):=(Int.le_ediv_iff_mul_le (by omega)).symm
 unfold okT ofn
 cases hk:k.m with
 |none=>
  dsimp only
  rw[Bool.and_true,yby,decide_eq_true_eq,decide_eq_true_eq,he]
  omega
 |some j=>
  have hj:=hm j hk
  dsimp only
  rw[yby,yag,decide_eq_true_eq,decide_eq_true_eq,decide_eq_true_eq,he]
  split<;>omega
theorem qk2 {k:Kw} (hw:1<=k.w) (hm:∀j,k.m=some j->0<=j) {r:Int} (hr:0<=r) {t:Nat} (h:t<=ofn k r):(t:Int)*k.w<=r/\(t:Int)<=r:=by
 have h1:okT k t r=true:=by rw[qir hw hm hr];exact decide_eq_true h
 unfold okT at h1
 rw[yag,decide_eq_true_eq]at h1
 refine⟨h1.1,Int.le_trans ?_ h1.1⟩
 have:=Int.mul_le_mul_of_nonneg_left hw (show(0:Int)<=t by omega)
 omega
def w8(k:Kw)(found:List (List Int×Int)):List (List Int×Int):=found.flatMap λp=>(yal (ofn k p.2+1)).map λ(t:Nat)=>(p.1++[(t:Int)],p.2-(t:Int)*k.w)
def yD:List Kw->List Int->Int
 |k::ks,t::ts=>t*k.v+yD ks ts
 |_,_=>0
def qoD(k:Kw):Prop:=1<=k.w/\∀j,k.m=some j->0<=j
end L2.Sk.Law
namespace L2.Sk.Law
def vG:List Kw->Int->List (List Int)
 | [],_=>[[]]
 |k::ks,r=>(yal (ofn k r+1)).flatMap λt:Nat=>(vG ks (r-(t:Int)*k.w)).map λl=>(t:Int)::l
theorem qcp:∀(ks:List Kw)(found:List (List Int×Int)),(ks.foldl (λf k=>w8 k f) found).map (·.1)=found.flatMap λp=>(vG ks p.2).map λl=>p.1++l
 | [],found=>by
  simp only[yeC,vG,mC_,ybJ,yaZ]
  induction found with
  |nil=>rfl
  |cons p found ih=>rw[mC_,fC_,ih];rfl
 |k::ks,found=>by
  rw[fo_,qcp ks (w8 k found)]
  unfold w8
  rw[yfm]
  congr 1
  funext p
  simp only[vG]
  rw[List.flatMap_map,List.map_flatMap]
  congr 1
  funext t
  rw[mm_]
  congr 1
  funext l
  simp
theorem qeW (ks:List Kw) (r:Int):(ks.foldl (λf k=>w8 k f) [([],r)]).map (·.1)=vG ks r:=by
 rw[qcp]
 simp
end L2.Sk.Law
namespace L2.Srt
open PySem PySem.W PyProof.Rows
section
variable(ks:List Int)
abbrev kk(i:Nat):Int:=ks.getD i 0
abbrev cm(i j:Nat):Bool:=decide (ks.getD i 0<ks.getD j 0)
def Lx(i j:Nat):Prop:=kk ks i<kk ks j\/(kk ks i=kk ks j/\i<j)
theorem Lx.le{i j:Nat}(h:Lx ks i j):kk ks i<=kk ks j:=by rcases h with h|h<;>omega
structure qfT (n m:Nat) (p:Array Nat):Prop where
 sz:p.size=n
 mn:m<=n
 id:∀k,m<=k->k<n->p.getD k 0=k
 lo:∀k,k<m->p.getD k 0<m
 so:∀i j,i<j->j<m->Lx ks (p.getD i 0) (p.getD j 0)
end
theorem qaw {p q:Array Nat} {k j:Nat} (h:p[k]? = q[j]?):p.getD k 0=q.getD j 0:=by
 rw[ydx,ydx,h]
theorem qc3 {p:Array Nat} {i j:Nat} (hj:j<=p.size) (hij:i<=j) (k:Nat):(kas_rev p i j).getD k 0=if i<=k/\k<j then p.getD (i+j-1-k) 0 else p.getD k 0:=by
 have h:=getElem?_mirror (xs:=p) (i:=i) (j:=j) hj ((j-i)/2) (by omega) k
 unfold kas_rev
 by_cases hk:i<=k/\k<j
 ·rw [if_pos hk]
  by_cases hm:(i<=k/\k<i+(j-i)/2)\/(j-(j-i)/2<=k/\k<j)
  ·rw[if_pos hm]at h
   exact qaw h
  ·rw[if_neg hm]at h
   have e:i+j-1-k=k:=by omega
   rw[e]
   exact qaw h
 ·rw[if_neg hk]
  rw[if_neg (by omega)]at h
  exact qaw h
theorem qc4(p:Array Nat)(i j:Nat):(kas_rev p i j).size=p.size:=mirror_size _ _ _ _
theorem qmv {p:Array Nat} {k l:Nat} (hk:k<p.size) (hl:l<=k) (j:Nat):(bubble p k (k-l)).getD j 0=if j=l then p.getD k 0 else if l<j/\j<=k then p.getD (j-1) 0 else p.getD j 0:=by
 have h:=getElem?_bubble (xs:=p) (src:=k) hk (k-l) (by omega) j
 rw[show k-(k-l)=l by omega]at h
 by_cases h1:j=l
 ·rw[if_pos h1]at h |-
  exact qaw h
 ·rw [if_neg h1]at h |-
  by_cases h2:l<j/\j<=k
  ·rw[if_pos h2]at h |-
   exact qaw h
  ·rw[if_neg h2]at h |-
   exact qaw h
section
variable{ks:List Int}
theorem qis {n:Nat} {p:Array Nat}:∀(f m:Nat),f=n-m->1<=m->qfT ks n m p->∃m',runK (cm ks) (kas_asc p f m)=m'/\m<=m'/\qfT ks n m' p/\(m'<n->kk ks (p.getD m' 0)<kk ks (p.getD (m'-1) 0))
 |0,m,hf,h1,S=>⟨m,rfl,yad _,S,λh=>by omega⟩
 | f + 1,m,hf,h1,S=>by
  show ∃m',runK (cm ks) (if cm ks (p.getD m 0) (p.getD (m-1) 0)=true then KasT.ret m else kas_asc p f (m+1))=m'/\_
  by_cases c:kk ks (p.getD m 0)<kk ks (p.getD (m-1) 0)
  ·rw[if_pos (decide_eq_true c)]
   exact⟨m,rfl,yad _,S,λ_=>c⟩
  ·rw [if_neg (by simpa using c)]
   have hid:p.getD m 0=m:=S.id m (yad _) (by omega)
   have S':qfT ks n (m+1) p:=by
    refine⟨S.sz,by omega,λk a b=>S.id k (by omega) b,λk a=>?_,λi j a b=>?_⟩
    ·by_cases e:k<m
     ·have:=S.lo k e;omega
     ·have:k=m:=by omega
      rw[this,hid];omega
    ·by_cases e:j<m
     ·exact S.so i j a e
     ·have ej:j=m:=by omega
      subst ej
      have l1:=S.lo i a
      have k1:kk ks (p.getD i 0)<=kk ks (p.getD (j-1) 0):=by
       by_cases e2:i=j-1
       ·rw[e2];exact ybw _
       ·exact(S.so i (j-1) (by omega) (by omega)).le
      have c':kk ks (p.getD (j-1) 0)<=kk ks (p.getD j 0):=Int.not_lt.mp c
      unfold Lx
      rw[hid]at c' |-
      omega
   obtain⟨m',e1,e2,e3,e4⟩:=qis f (m+1) (by omega) (by omega) S'
   exact⟨m',e1,by omega,e3,e4⟩
structure Dwn (ks:List Int) (n m q:Nat) (p:Array Nat):Prop where
 sz:p.size=n
 mn:m<=n
 qm:q+1<=m
 id:∀k,m<=k->k<n->p.getD k 0=k
 lo:∀k,k<m->p.getD k 0<m
 a1:∀i j,i<m-(q+1)->m-(q+1)<=j->j<m->kk ks (p.getD j 0)<kk ks (p.getD i 0)
 a2:∀i j,i<j->j<m-(q+1)->Lx ks (p.getD j 0) (p.getD i 0)
 bl:∀i j,m-(q+1)<=i->i<j->j<m->kk ks (p.getD i 0)=kk ks (p.getD j 0)/\p.getD i 0<p.getD j 0
theorem Dwn.turned {n m q:Nat} {p:Array Nat} (d:Dwn ks n m q p):(kas_rev p (m-(q+1)) m).size=n/\(∀k,m<=k->k<n->(kas_rev p (m-(q+1)) m).getD k 0=k)/\(∀k,k<m->(kas_rev p (m-(q+1)) m).getD k 0<m) /\
  (∀i j,i<j->j<m->Lx ks ((kas_rev p (m-(q+1)) m).getD j 0) ((kas_rev p (m-(q+1)) m).getD i 0))/\(∀i,i<m->kk ks (p.getD (m-1) 0)<=kk ks ((kas_rev p (m-(q+1)) m).getD i 0)):=by
 have hqm:=d.qm
 have hs:m<=p.size:=by rw[d.sz];exact d.mn
 have g:=λk=>qc3 (p:=p) (i:=m-(q+1)) (j:=m) hs (by omega) k
 refine⟨by rw[qc4,d.sz],λk a b=>?_,λk a=>?_,λi j a b=>?_,λi a=>?_⟩
 ·rw[g,if_neg (by omega)];exact d.id k a b
 ·rw[g]
  split
  ·exact d.lo _ (by omega)
  ·exact d.lo k a
 ·rw [g i,g j]
  by_cases hi:m-(q+1)<=i
  ·rw[if_pos ⟨by omega,b⟩,if_pos ⟨hi,by omega⟩]
   have:=d.bl (m-(q+1)+m-1-j) (m-(q+1)+m-1-i) (by omega) (by omega) (by omega)
   exact .inr ⟨this.1,this.2⟩
  ·rw [if_neg (show ¬(m-(q+1)<=i/\i<m) by omega)]
   by_cases hj:m-(q+1)<=j
   ·rw[if_pos ⟨hj,b⟩]
    exact .inl (d.a1 i _ (by omega) (by omega) (by omega))
   ·rw[if_neg (by omega)]
    exact d.a2 i j a (by omega)
 ·have key:∀j,m-(q+1)<=j->j<m->kk ks (p.getD (m-1) 0)=kk ks (p.getD j 0):=λj h1 h2=>by
   by_cases e:j=m-1
   ·rw[e]
   ·exact(d.bl j (m-1) h1 (by omega) (by omega)).1.symm
  rw[g i]
  by_cases hi:m-(q+1)<=i
  ·rw[if_pos ⟨hi,a⟩]
   exact Int.le_of_eq (key _ (by omega) (by omega))
  ·rw[if_neg (by omega)]
   exact Int.le_of_lt (d.a1 i (m-1) (by omega) (by omega) (by omega))
theorem Dwn.next {n m:Nat} {p:Array Nat} (hsz:p.size=n) (hm:1<=m) (hmn:m<n) (hid:∀k,m<=k->k<n->p.getD k 0=k) (hlo:∀k,k<m->p.getD k 0<m) (ho:∀i j,i<j->j<m->Lx ks (p.getD j 0) (p.getD i 0))
  (hk:∀i,i<m->kk ks (p.getD m 0)<kk ks (p.getD i 0)):Dwn ks n (m+1) 0 p:=by
 refine⟨hsz,hmn,by omega,λk a b=>hid k (by omega) b,λk a=>?_,λi j a b c=>?_,λi j a b=>ho i j a (by omega),λi j a b c=>by omega⟩
 ·by_cases e:k<m
  ·have:=hlo k e;omega
  ·have:k=m:=by omega
   rw[this,hid m (yad _) hmn];omega
 ·have:j=m:=by omega
  subst this
  exact hk i (by omega)
theorem qqx {n m:Nat} {p:Array Nat} (d:Dwn ks n m 0 p):∀k,(kas_rev p (m-(0+1)) m).getD k 0=p.getD k 0:=λk=>by
 have hqm:=d.qm
 rw[qc3 (by rw[d.sz];exact d.mn) (by omega)]
 split
 ·congr 1;omega
 ·rfl
theorem qc5 {n:Nat}:∀(f m q:Nat){p:Array Nat},f=n-m->Dwn ks n m q p->∃r,runK (cm ks) (kas_desc f p m q)=r/\Dwn ks n r.2.1 r.2.2 r.1
 |0,m,q,p,hf,d=>⟨(p,m,q),rfl,d⟩
 | f + 1,m,q,p,hf,d=>by
  show ∃r,runK (cm ks) (if cm ks (p.getD m 0) (p.getD (m-1) 0)=true then(if q>0 then kas_desc f (kas_rev p (m-(q+1)) m) (m+1) 0 else kas_desc f p (m+1) 0)
   else .ask (p.getD (m-1) 0) (p.getD m 0) λc=>if c=true then .ret (p,m,q)else kas_desc f p (m+1) (q+1))=r/\_
  have hmn:m<n:=by have:=d.mn;omega
  have hqm:=d.qm
  have hid:=d.id m (yad _) hmn
  obtain⟨t1,t2,t3,t4,t5⟩:=d.turned
  by_cases c:kk ks (p.getD m 0)<kk ks (p.getD (m-1) 0)
  ·rw [if_pos (decide_eq_true c)]
   by_cases hq:q>0
   ·rw[if_pos hq]
    have hm':(kas_rev p (m-(q+1)) m).getD m 0=p.getD m 0:=by rw[t2 m (yad _) hmn,hid]
    exact qc5 f (m+1) 0 (by omega) (Dwn.next t1 (by omega) hmn t2 t3 t4 λi hi=>by rw[hm'];exact ydy c (t5 i hi))
   ·rw [if_neg hq]
    have e:q=0:=by omega
    subst e
    have g:=qqx d
    refine qc5 f (m+1) 0 (by omega) (Dwn.next d.sz (by omega) hmn d.id d.lo (λi j a b=>?_) λi hi=>?_)
    ·have:=t4 i j a b
     rw[g,g]at this
     exact this
    ·have:=t5 i hi
     rw[g]at this
     exact ydy c this
  ·rw [if_neg (by simpa using c)]
   show ∃r,runK (cm ks) (if cm ks (p.getD (m-1) 0) (p.getD m 0)=true then .ret (p,m,q)else kas_desc f p (m+1) (q+1))=r/\_
   by_cases c2:kk ks (p.getD (m-1) 0)<kk ks (p.getD m 0)
   ·rw[if_pos (decide_eq_true c2)]
    exact⟨(p,m,q),rfl,d⟩
   ·rw [if_neg (by simpa using c2)]
    have ek:kk ks (p.getD (m-1) 0)=kk ks (p.getD m 0):=by
     have a1:kk ks (p.getD (m-1) 0)<=kk ks (p.getD m 0):=Int.not_lt.mp c
     have a2:kk ks (p.getD m 0)<=kk ks (p.getD (m-1) 0):=Int.not_lt.mp c2
     omega
    refine qc5 f (m+1) (q+1) (by omega) ⟨d.sz,hmn,by omega,λk a b=>d.id k (by omega) b,λk a=>?_,λi j a b c=>?_,λi j a b=>d.a2 i j a (by omega),λi j a b c=>?_⟩
    ·by_cases e:k<m
     ·have:=d.lo k e;omega
     ·have:k=m:=by omega
      rw[this,hid];omega
    ·by_cases e:j<m
     ·exact d.a1 i j (by omega) (by omega) e
     ·have:j=m:=by omega
      subst this
      rw[<-ek]
      exact d.a1 i (j-1) (by omega) (by omega) (by omega)
    ·by_cases e:j<m
     ·exact d.bl i j (by omega) b e
     ·have:j=m:=by omega
      subst this
      have l1:=d.lo i b
      refine⟨?_,by rw[hid];exact l1⟩
      rw[<-ek]
      by_cases e2:i=j-1
      ·rw[e2]
      ·exact(d.bl i (j-1) (by omega) (by omega) (by omega)).1
theorem qfU {n m:Nat} {p:Array Nat} (hsz:p.size=n) (hm:1<=m) (hmn:m<=n) (hid:∀k,m<=k->k<n->p.getD k 0=k) (hlo:∀k,k<m->p.getD k 0<m) (ho:∀i j,i<j->j<m->Lx ks (p.getD j 0) (p.getD i 0)) :
  qfT ks n (runK (cm ks) (kas_tail3 m n p)).1 (runK (cm ks) (kas_tail3 m n p)).2/\1<=(runK (cm ks) (kas_tail3 m n p)).1:=by
 have g:=λk=>qc3 (p:=p) (i:=0) (j:=m) (by rw[hsz];exact hmn) (yaE _) k
 have S:qfT ks n m (kas_rev p 0 m):=by
  refine⟨by rw[qc4,hsz],hmn,λk a b=>?_,λk a=>?_,λi j a b=>?_⟩
  ·rw[g,if_neg (by omega)];exact hid k a b
  ·rw[g,if_pos ⟨yaE _,a⟩];exact hlo _ (by omega)
  ·rw[g,g,if_pos ⟨yaE _,by omega⟩,if_pos ⟨yaE _,b⟩]
   exact ho _ _ (by omega) (by omega)
 obtain⟨m',e1,e2,e3,_⟩:=qis (n-m) m rfl hm S
 have e:runK (cm ks) (kas_tail3 m n p)=(m',kas_rev p 0 m):=by
  unfold kas_tail3
  rw[uL,e1]
  rfl
 rw[e]
 exact⟨e3,by show 1<=m';omega⟩
theorem qbH {n m:Nat} {p:Array Nat} (d:Dwn ks n (m+1) 0 p):qfT ks n (runK (cm ks) (kas_descPart m n p)).1 (runK (cm ks) (kas_descPart m n p)).2/\1<=(runK (cm ks) (kas_descPart m n p)).1:=by
 obtain⟨r,e1,e2⟩:=qc5 (n-(m+1)) (m+1) 0 rfl d
 obtain⟨t1,t2,t3,t4,_⟩:=e2.turned
 have hqm:=e2.qm
 unfold kas_descPart
 rw[uL,e1]
 by_cases hq:r.2.2>0
 ·rw[if_pos hq]
  exact qfU t1 (by omega) e2.mn t2 t3 t4
 ·rw[if_neg hq]
  obtain⟨p',m',q'⟩:=r
  have e:q'=0:=by show q'=0;have:¬q'>0:=hq;omega
  subst e
  have g:=qqx e2
  refine qfU e2.sz (by omega) e2.mn e2.id e2.lo λi j a b=>?_
  have:=t4 i j a b
  rw[g,g]at this
  exact this
theorem qj6 {n:Nat} (hn:1<=n):qfT ks n (runK (cm ks) (kas_count n (yaz (yal n)))).1 (runK (cm ks) (kas_count n (yaz (yal n)))).2/\1<=(runK (cm ks) (kas_count n (yaz (yal n)))).1:=by
 have hr:∀k,k<n->(yaz (yal n)).getD k 0=k:=λk hk=>by simp[ydT,hk]
 have S1:qfT ks n 1 (yaz (yal n)):=⟨by simp,hn,λk _ b=>hr k b,λk a=>by rw[hr k (by omega)];exact a,λi j a b=>by omega⟩
 obtain⟨m,e1,e2,e3,e4⟩:=qis (n-1) 1 rfl (yad _) S1
 unfold kas_count
 rw[uL,e1]
 by_cases h1:m=n
 ·rw[if_pos (by rw[h1];simp)]
  exact⟨e3,e2⟩
 ·rw [if_neg (by simpa using h1)]
  have hmn:m<n:=by have:=e3.mn;omega
  have hk:=e4 hmn
  by_cases h2:m>1
  ·rw [if_pos h2]
   show qfT ks n (runK (cm ks) (if cm ks ((yaz (yal n)).getD 0 0) ((yaz (yal n)).getD (m-1) 0)=true then .ret (m,yaz (yal n))else kas_descPart m n (kas_rev (yaz (yal n)) 0 m))).1 _/\_
   by_cases c:kk ks ((yaz (yal n)).getD 0 0)<kk ks ((yaz (yal n)).getD (m-1) 0)
   ·rw[show runK (cm ks) (KasT.ask ((yaz (yal n)).getD 0 0) ((yaz (yal n)).getD (m-1) 0) λc=>if c=true then .ret (m,yaz (yal n))else kas_descPart m n (kas_rev (yaz (yal n)) 0 m))=runK (cm ks) (if cm ks ((yaz (yal n)).getD 0 0) ((yaz (yal n)).getD (m-1) 0)=true then .ret (m,yaz (yal n))else kas_descPart m n (kas_rev (yaz (yal n)) 0 m))from rfl,if_pos (decide_eq_true c)]
    exact⟨e3,e2⟩
   ·rw [show runK (cm ks) (KasT.ask ((yaz (yal n)).getD 0 0) ((yaz (yal n)).getD (m-1) 0) λc=>if c=true then .ret (m,yaz (yal n))else kas_descPart m n (kas_rev (yaz (yal n)) 0 m))=runK (cm ks) (if cm ks ((yaz (yal n)).getD 0 0) ((yaz (yal n)).getD (m-1) 0)=true then .ret (m,yaz (yal n))else kas_descPart m n (kas_rev (yaz (yal n)) 0 m))from rfl,if_neg (by simpa using c)]
    generalize hp:yaz (yal n)=p at *
    have g:=λk=>qc3 (p:=p) (i:=0) (j:=m) (by rw[e3.sz];omega) (yaE _) k
    have al:∀i,i<m->kk ks (p.getD i 0)=kk ks (p.getD 0 0):=λi hi=>by
     have c':kk ks (p.getD (m-1) 0)<=kk ks (p.getD 0 0):=Int.not_lt.mp c
     have a1:kk ks (p.getD 0 0)<=kk ks (p.getD i 0):=by
      by_cases e:i=0
      ·rw[e];exact ybw _
      ·exact(e3.so 0 i (by omega) hi).le
     have a2:kk ks (p.getD i 0)<=kk ks (p.getD (m-1) 0):=by
      by_cases e:i=m-1
      ·rw[e];exact ybw _
      ·exact(e3.so i (m-1) (by omega) (by omega)).le
     omega
    refine qbH (Dwn.next (by rw[qc4,e3.sz]) (by omega) hmn (λk a b=>by rw[g,if_neg (by omega)];exact e3.id k a b) (λk a=>by rw[g,if_pos ⟨yaE _,a⟩];exact e3.lo _ (by omega)) (λi j a b=>?_) λi hi=>?_)
    ·rw[g,g,if_pos ⟨yaE _,b⟩,if_pos ⟨yaE _,by omega⟩]
     exact e3.so _ _ (by omega) (by omega)
    ·have h9:=al (m-1) (by omega)
     rw[g m,g i,if_neg (by omega),if_pos ⟨yaE _,hi⟩,al (0+m-1-i) (by omega),<-h9]
     exact hk
  ·rw [if_neg h2]
   have em:m=1:=by omega
   subst em
   exact qbH (Dwn.next e3.sz (yad _) hmn e3.id e3.lo (λi j a b=>by omega) λi hi=>by
    have:i=0:=by omega
    subst this
    exact hk)
theorem qc6 {n k:Nat} {p:Array Nat} (S:qfT ks n k p):∀(f l r:Nat),r-l<=f->l<=r->r<=k->(∀i,i<l->kk ks (p.getD i 0)<=kk ks (p.getD k 0))->(∀i,r<=i->i<k->kk ks (p.getD k 0)<kk ks (p.getD i 0)) ->
  ∃l',runK (cm ks) (kas_place p k f l r)=l'/\l'<=k/\(∀i,i<l'->kk ks (p.getD i 0)<=kk ks (p.getD k 0))/\(∀i,l'<=i->i<k->kk ks (p.getD k 0)<kk ks (p.getD i 0))
 |0,l,r,hf,h1,h2,a,b=>⟨l,rfl,by omega,a,λi c d=>b i (by omega) d⟩
 | f + 1,l,r,hf,h1,h2,a,b=>by
  have mono:∀i j,i<=j->j<k->kk ks (p.getD i 0)<=kk ks (p.getD j 0):=λi j hij hj=>by
   by_cases e:i=j
   ·rw[e];exact ybw _
   ·exact(S.so i j (by omega) hj).le
  unfold kas_place
  by_cases hge:l >= r
  ·rw[if_pos hge]
   exact⟨l,rfl,by omega,a,λi c d=>b i (by omega) d⟩
  ·rw [if_neg hge]
   show ∃l',runK (cm ks) (if cm ks (p.getD k 0) (p.getD ((l+r)/2) 0)=true then kas_place p k f l ((l+r)/2)else kas_place p k f ((l+r)/2+1) r)=l'/\_
   by_cases c:kk ks (p.getD k 0)<kk ks (p.getD ((l+r)/2) 0)
   ·rw[if_pos (decide_eq_true c)]
    exact qc6 S f l ((l+r)/2) (by omega) (by omega) (by omega) a λi x y=>ydy c (mono _ _ x y)
   ·rw[if_neg (by simpa using c)]
    exact qc6 S f ((l+r)/2+1) r (by omega) (by omega) h2 (λi x=>Int.le_trans (mono i ((l+r)/2) (by omega) (by omega)) (Int.not_lt.mp c)) b
theorem qk3 {n:Nat}:∀(f k:Nat){p:Array Nat},f=n-k->qfT ks n k p->qfT ks n n (runK (cm ks) (kas_bin f p k))
 |0,k,p,hf,S=>by
  have:k=n:=by have:=S.mn;omega
  subst this
  exact S
 | f + 1,k,p,hf,S=>by
  have hkn:k<n:=by omega
  have hid:=S.id k (yad _) hkn
  obtain⟨l,e1,e2,e3,e4⟩:=qc6 S k 0 k (by omega) (yaE _) (yad _) (λi h=>by omega) (λi h1 h2=>by omega)
  show qfT ks n n (runK (cm ks) ((kas_place p k k 0 k).bind λl=>kas_bin f (bubble p k (k-l)) (k+1)))
  rw[uL,e1]
  have g:=λj=>qmv (p:=p) (k:=k) (l:=l) (by rw[S.sz];exact hkn) e2 j
  refine qk3 f (k+1) (by omega) ⟨by rw[bubble_size,S.sz],hkn,λj a b=>?_,λj a=>?_,λi j a b=>?_⟩
  ·rw[g,if_neg (by omega),if_neg (by omega)];exact S.id j (by omega) b
  ·rw [g]
   split
   ·rw[hid];omega
   ·split
    ·have:=S.lo (j-1) (by omega);omega
    ·have:=S.lo j (by omega);omega
  ·rw [g i,g j]
   have lk:∀z,z<k->z<l->Lx ks (p.getD z 0) (p.getD k 0):=λz hz hl=>by
    have h1:=e3 z hl
    have h2:=S.lo z hz
    unfold Lx
    rw[hid]at h1 |-
    omega
   have gk:∀z,l<=z->z<k->Lx ks (p.getD k 0) (p.getD z 0):=λz hl hz => .inl (e4 z hl hz)
   by_cases hi:i=l
   ·rw[if_pos hi,if_neg (by omega),if_pos ⟨by omega,by omega⟩]
    exact gk _ (by omega) (by omega)
   ·rw [if_neg hi]
    by_cases hj:j=l
    ·rw[if_pos hj,if_neg (by omega)]
     exact lk i (by omega) (by omega)
    ·rw [if_neg hj]
     by_cases hi2:l<i/\i<=k
     ·rw[if_pos hi2,if_pos ⟨by omega,by omega⟩]
      exact S.so _ _ (by omega) (by omega)
     ·rw [if_neg hi2]
      by_cases hj2:l<j/\j<=k
      ·rw[if_pos hj2]
       exact S.so _ _ (by omega) (by omega)
      ·rw[if_neg hj2]
       exact S.so _ _ a (by omega)
theorem qmw {n:Nat} (hn:1<=n):qfT ks n n (runK (cm ks) (kas_sort n)):=by
 obtain⟨S,h1⟩:=qj6 (ks:=ks) hn
 unfold kas_sort
 rw[uL]
 by_cases h:(runK (cm ks) (kas_count n (yaz (yal n)))).1<n
 ·rw[if_pos h]
  have e:max (runK (cm ks) (kas_count n (yaz (yal n)))).1 1=(runK (cm ks) (kas_count n (yaz (yal n)))).1:=by omega
  rw[e]
  exact qk3 _ _ rfl S
 ·rw[if_neg h]
  have e:(runK (cm ks) (kas_count n (yaz (yal n)))).1=n:=by have:=S.mn;omega
  rw[e]at S
  exact S
end
theorem ord_sorted (ks:List Int):(ord ks).Pairwise (Lx ks):=by
 unfold ord
 split
 ·rename_i h
  match hk:ks.length,h with
  |0,_=>exact ycL
  |1,_=>exact List.pairwise_singleton _ _
 ·have S:=qmw (ks:=ks) (n:=ks.length) (by omega)
  rw[List.pairwise_iff_getElem]
  intro i j hi hj hij
  have hz:=S.sz
  rw[ya2]at hi hj
  have:=S.so i j hij (by rw[<-hz];exact hj)
  have e1:(runK (cm ks) (kas_sort ks.length)).getD i 0=(runK (cm ks) (kas_sort ks.length)).toList[i]'(by rw[ya2];exact hi):=by simp[ydT,hi]
  have e2:(runK (cm ks) (kas_sort ks.length)).getD j 0=(runK (cm ks) (kas_sort ks.length)).toList[j]'(by rw[ya2];exact hj):=by simp[ydT,hj]
  rw[e1,e2]at this
  exact this
end L2.Srt
namespace L2.Sk.Law
def sgK(k:Kw):Prop:=1<=k.w/\0<=k.v/\(k.m=some 0\/k.m=some 1)
theorem sgK.kd{k:Kw}(h:sgK k):qoD k:=⟨h.1,λj e=>by rcases h.2.2 with q|q<;>rw[q]at e<;>cases e<;>decide⟩
def tm(k:Kw):Nat:=(k.m.getD 0).toNat
theorem qit{k:Kw}(h:sgK k):tm k<=1:=by unfold tm;rcases h.2.2 with q|q<;>rw[q]<;>decide
def qeX(L:List (List Int))(k:Kw):List (List Int):=L.flatMap λl=>(yal (tm k+1)).map λt:Nat=>l++[(t:Int)]
def jB:List Kw->List (List Int)
 | []=>[[]]
 |k::ks=>(yal (tm k+1)).flatMap λt:Nat=>(jB ks).map λl=>(t:Int)::l
theorem qd5:∀(ks:List Kw)(F:List (List Int)),ks.foldl qeX F=F.flatMap λp=>(jB ks).map λl=>p++l
 | [],F=>by simp[jB]
 |k::ks,F=>by
  rw[fo_,qd5 ks]
  unfold qeX
  rw[yfm]
  congr 1
  funext p
  simp only[jB]
  rw[List.flatMap_map,List.map_flatMap]
  congr 1
  funext t
  rw[mm_]
  congr 1
  funext l
  simp
theorem qj7(ks:List Kw):ks.foldl qeX [[]]=jB ks:=by rw[qd5];simp
def zy:List Kw->List Int->Int
 |k::ks,t::ts=>t*k.w+zy ks ts
 |_,_=>0
theorem qc7:∀{ks:List Kw}{l:List Int},l∈jB ks->l.length=ks.length
 | [],l,h=>by rw[ms_.mp h];rfl
 |k::ks,l,h=>by
  obtain⟨t,_,h2⟩:=List.mem_flatMap.mp h
  obtain⟨l',hl',rfl⟩:=mP_.mp h2
  rw[lC_,lC_,qc7 hl']
theorem qax:∀{ks:List Kw}{l:List Int},(∀k∈ks,sgK k)->l∈jB ks->∀t∈l,t=0\/t=1
 | [],l,_,h=>by rw[ms_.mp h];intro t ht;cases ht
 |k::ks,l,hk,h=>by
  obtain⟨t,ht,h2⟩:=List.mem_flatMap.mp h
  obtain⟨l',hl',rfl⟩:=mP_.mp h2
  intro x hx
  have:=qit (hk k mS_)
  have h3:=mR_.mp ht
  rcases List.mem_cons.mp hx with rfl|hx
  ·omega
  ·exact qax (λk hk'=>hk k (mM _ hk')) hl' x hx
theorem qbI:∀{ks:List Kw}{l:List Int},(∀k∈ks,sgK k)->(∀t∈l,t=0\/t=1)->0<=zy ks l/\0<=yD ks l
 | [],_,_,_=>⟨by simp[zy],by simp[yD]⟩
 |k::ks,[],_,_=>⟨by simp[zy],by simp[yD]⟩
 |k::ks,t::l,hk,hl=>by
  obtain⟨h1,h2⟩:=qbI (λk hk'=>hk k (mM _ hk')) (λx hx=>hl x (mM _ hx)) (ks:=ks) (l:=l)
  obtain⟨g1,g2,_⟩:=hk k mS_
  have ht:0<=t:=by rcases hl t mS_ with e|e<;>omega
  have a1:0<=t*k.w:=ydo ht (by omega)
  have a2:0<=t*k.v:=ydo ht g2
  exact⟨by show 0<=t*k.w+zy ks l;omega,by show 0<=t*k.v+yD ks l;omega⟩
theorem qiu{ks:List Kw}{l:List Int}(hk:∀k∈ks,sgK k)(h:l∈jB ks):0<=zy ks l/\0<=yD ks l:=qbI hk (qax hk h)
theorem qfV {α:Type} {f:Nat->List α} {m:Nat}:∀n,m<=n->(∀t,m<t->t<=n->f t=[])->(yal (n+1)).flatMap f=(yal (m+1)).flatMap f
 |0,h,_=>by
  have:m=0:=by omega
  rw[this]
 | n+1,h,hf=>by
  by_cases c:m=n+1
  ·rw[c]
  ·rw[yej,yeX,qfV n (by omega) λt h1 h2=>hf t h1 (by omega)]
   simp[hf (n+1) (by omega) (yad _)]
theorem qcq {α β:Type} {f g:α->List β}:∀{l:List α},(∀a∈l,f a=g a)->l.flatMap f=l.flatMap g
 | [],_=>rfl
 |a::l,h=>by rw[fC_,fC_,h a mS_,qcq λx hx=>h x (mM _ hx)]
theorem qbJ {α β:Type} {f:α->List β} {p:β->Bool}:∀l:List α,(l.flatMap f).filter p=l.flatMap λa=>(f a).filter p
 | []=>rfl
 |a::l=>by rw[fC_,List.filter_append,qbJ l,fC_]
theorem qeY {α β:Type} {f:α->β} {p:β->Bool} (l:List α):(l.map f).filter p=(l.filter λa=>p (f a)).map f:=by
 rw[List.filter_map]
 rfl
theorem qcr:∀{ks:List Kw}{r:Int},(∀k∈ks,sgK k)->0<=r->vG ks r=(jB ks).filter λl=>decide (zy ks l<=r)
 | [],r,_,hr=>by simp[vG,jB,zy,hr]
 | k :: ks,r,hk,hr=>by
  have gk:=hk k mS_
  have hk':∀k∈ks,sgK k:=λx hx=>hk x (mM _ hx)
  simp only[vG,jB]
  rw[qbJ]
  have hw:=gk.1
  have hle:ofn k r<=tm k:=by
   unfold ofn tm
   rcases gk.2.2 with q|q<;>rw[q]<;>simp only[yd4]<;>split<;>omega
  rw[qfV (m:=ofn k r) (tm k) hle λt h1 h2=>?_]
  ·have e:∀t∈yal (ofn k r+1),((vG ks (r-(t:Int)*k.w)).map λl=>(t:Int)::l)=((jB ks).map λl=>(t:Int)::l).filter λl=>decide (zy (k::ks) l<=r):=λt ht=>by
    have h1:=mR_.mp ht
    obtain⟨g1,_⟩:=qk2 gk.kd.1 gk.kd.2 hr (show t<=ofn k r by omega)
    rw[qcr hk' (show 0<=r-(t:Int)*k.w by omega),qeY]
    congr 1
    refine List.filter_congr λl _=>?_
    have:zy (k::ks) ((t:Int)::l)=(t:Int)*k.w+zy ks l:=rfl
    rw[this]
    apply decide_eq_decide.mpr
    omega
   rw[qcq λt ht=>e t ht]
  ·rw [List.filter_eq_nil_iff]
   intro l hl
   obtain⟨l',hl',rfl⟩:=mP_.mp hl
   have:=(qiu hk' hl').1
   have hx:¬okT k t r=true:=by
    rw[qir gk.kd.1 gk.kd.2 hr,decide_eq_true_eq]
    omega
   have hx:¬(t:Int)*k.w<=r:=λhw'=>hx (by
    unfold okT
    unfold tm at h2
    rw[decide_eq_true hw',ybu]
    rcases gk.2.2 with q|q<;>rw[q]at h2 |- <;> simp only[yd4]at h2<;>exact decide_eq_true (by omega))
   have e:zy (k::ks) ((t:Int)::l')=(t:Int)*k.w+zy ks l':=rfl
   rw[e,decide_eq_true_eq]
   omega
abbrev T3:=Int×Int×List Int
def wg(ks:List Kw)(l:List Int):T3:=(zy ks l,yD ks l,l)
def yw(ks:List Kw):List T3:=(jB ks).map (wg ks)
def kyT(x:T3):yc:=(x.1,-x.2.1,x.2.2)
def w9 (kept:List T3) (x:T3):List T3:=match kept.getLast? with
 |none=>[x]
 |some y=>if y.2.1<x.2.1 then kept++[x]else kept
def Bo(x y:T3):Prop:=lt3 (kyT y) (kyT x)=false
def srt(L:List T3):List T3:=(Srt.ord (qN (L.map kyT))).map λi=>L.getD i (0,0,[])
def nbL(ks:List Kw):List T3:=(srt (yw ks)).foldl w9 []
theorem qaa (L:List T3):(srt L).Perm L:=by
 have h:=(Srt.ord_perm (qN (L.map kyT))).map λi=>L.getD i ((0,0,[]):T3)
 rw[zn,lM_]at h
 have e:(yal L.length).map (λi=>L.getD i ((0,0,[]):T3))=L:=Srt.map_getD_range _ L
 rw[e]at h
 exact h
theorem qcs (L:List T3):(srt L).Pairwise Bo:=by
 unfold srt
 rw[ycN]
 have hp:=Srt.ord_perm (qN (L.map kyT))
 have hs:=Srt.ord_sorted (qN (L.map kyT))
 refine(List.pairwise_iff_forall_sublist.mpr λ{i j} hij=>?_)
 have hij':=(List.pairwise_iff_forall_sublist.mp hs) hij
 have hi:i<L.length:=by
  have:=hp.mem_iff.mp (hij.subset (mS_))
  rw[mR_,zn,lM_]at this
  exact this
 have hj:j<L.length:=by
  have:=hp.mem_iff.mp (hij.subset (mM _ mS_))
  rw[mR_,zn,lM_]at this
  exact this
 have hle:=hij'.le
 unfold Bo
 have e1:Srt.kk (qN (L.map kyT)) i=qbA (L.map kyT) (kyT (L.getD i (0,0,[]))):=by unfold Srt.kk qN;simp[hi]
 have e2:Srt.kk (qN (L.map kyT)) j=qbA (L.map kyT) (kyT (L.getD j (0,0,[]))):=by unfold Srt.kk qN;simp[hj]
 rw[e1,e2]at hle
 have hm:kyT (L.getD j (0,0,[]))∈L.map kyT:=mP_.mpr ⟨_,by simp[hj],rfl⟩
 rw[<-qeO hm]
 exact decide_eq_false (by omega)
theorem Bo.wle {x y:T3} (h:Bo x y):x.1<=y.1/\(x.1=y.1->y.2.1<=x.2.1):=by
 unfold Bo lt3 kyT at h
 dsimp only at h
 by_cases c:y.1=x.1
 ·refine ⟨by omega,λ_=>?_⟩
  rw[if_pos c]at h
  by_cases d : -y.2.1 = -x.2.1
  ·omega
  ·rw[if_neg d]at h
   have:=of_decide_eq_false h
   omega
 ·rw[if_neg c]at h
  have:=of_decide_eq_false h
  exact⟨by omega,λe=>by omega⟩
structure Kp (P kept:List T3):Prop where
 sub:∀x∈kept,x∈P
 dom:∀x∈P,∃y∈kept,y.1<=x.1/\x.2.1<=y.2.1
 top:∀y,kept.getLast? = some y->∀x∈P,x.2.1<=y.2.1
 rise:kept.Pairwise λx y=>x.1<y.1/\x.2.1<y.2.1
theorem Kp.step {P kept:List T3} {x:T3} (h:Kp P kept) (hs:∀y∈P,Bo y x):Kp (P++[x]) (w9 kept x):=by
 unfold w9
 cases e:kept.getLast? with
 | none=>
  have hk:kept=[]:=List.getLast?_eq_none_iff.mp e
  have hP:P=[]:=by
   cases P with
   |nil=>rfl
   |cons p P=>
    obtain⟨y,hy,_⟩:=h.dom p mS_
    rw[hk]at hy;cases hy
  subst hP
  refine⟨λy hy=>by simpa using hy,λy hy=>⟨x,by simp,?_⟩,λy hy z hz=>?_,by simp⟩
  ·have:y=x:=by simpa using hy
   subst this
   exact⟨ybw _,ybw _⟩
  ·have a:x=y:=by simpa using hy
   have b:z=x:=by simpa using hz
   subst a b
   exact ybw _
 | some l=>
  have hl:l∈kept:=List.mem_of_getLast? e
  have hlP:=h.sub l hl
  have hb:=(hs l hlP).wle
  dsimp only
  by_cases c:l.2.1<x.2.1
  ·rw [if_pos c]
   refine⟨λy hy=>?_,λy hy=>?_,λy hy z hz=>?_,?_⟩
   ·rcases mA_.mp hy with hy|hy
    ·exact ybx _ (h.sub y hy)
    ·exact mr_ _ hy
   ·rcases mA_.mp hy with hy|hy
    ·obtain⟨z,hz,h1,h2⟩:=h.dom y hy
     exact⟨z,ybx _ hz,h1,h2⟩
    ·have:y=x:=by simpa using hy
     subst this
     exact⟨y,by simp,ybw _,ybw _⟩
   ·have a:x=y:=by simpa using hy
    subst a
    rcases mA_.mp hz with hz|hz
    ·have:=h.top l e z hz
     omega
    ·have:z=x:=by simpa using hz
     subst this
     exact ybw _
   ·rw [List.pairwise_append]
    refine⟨h.rise,by simp,λy hy z hz=>?_⟩
    have a:z=x:=by simpa using hz
    subst a
    have h1:=h.top l e y (h.sub y hy)
    have h2:=(hs y (h.sub y hy)).wle
    have h3:y.2.1<z.2.1:=by omega
    refine⟨?_,h3⟩
    rcases Int.lt_or_eq_of_le h2.1 with g|g
    ·exact g
    ·have:=h2.2 g
     omega
  ·rw [if_neg c]
   refine⟨λy hy=>ybx _ (h.sub y hy),λy hy=>?_,λy hy z hz=>?_,h.rise⟩
   ·rcases mA_.mp hy with hy|hy
    ·exact h.dom y hy
    ·have:y=x:=by simpa using hy
     subst this
     exact⟨l,hl,hb.1,by omega⟩
   ·rw [e]at hy
    cases hy
    rcases mA_.mp hz with hz|hz
    ·exact h.top _ e z hz
    ·have:z=x:=by simpa using hz
     subst this
     omega
theorem qiv:∀(L P kept:List T3),(P++L).Pairwise Bo->Kp P kept->Kp (P++L) (L.foldl w9 kept)
 | [],P,kept,_,h=>by rw[yaZ];exact h
 |x::L,P,kept,hs,h=>by
  rw[fo_]
  have e:P++x::L=(P++[x])++L:=by simp
  rw[e]at hs |-
  refine qiv L (P++[x]) _ hs (h.step λy hy=>?_)
  have:=(List.pairwise_append.mp (List.pairwise_append.mp hs).1).2.2 y hy x (by simp)
  exact this
theorem qmx (ks:List Kw):Kp (srt (yw ks)) (nbL ks):=by
 have:=qiv (srt (yw ks)) [] [] (by simpa using qcs (yw ks)) ⟨(λx hx=>absurd hx nN_),(λx hx=>absurd hx nN_),(λy hy=>by simp at hy),ycL⟩
 simpa [nbL] using this
theorem qk4{ks:List Kw}{x:T3}(h:x∈nbL ks):x∈yw ks:=(qaa _).mem_iff.mp ((qmx ks).sub x h)
theorem qk5{ks:List Kw}{x:T3}(h:x∈yw ks):∃y∈nbL ks,y.1<=x.1/\x.2.1<=y.2.1:=(qmx ks).dom x ((qaa _).mem_iff.mpr h)
theorem qeZ(ks:List Kw):(nbL ks).Pairwise λx y=>x.1<y.1/\x.2.1<y.2.1:=(qmx ks).rise
theorem qfW{ks:List Kw}{x:T3}:x∈yw ks ↔ ∃l∈jB ks,wg ks l=x:=mP_
def bb(one:T3)(S:List T3)(r:Int):Int:=one.2.1+qo3 ((S.filter λo=>decide (o.1<=r-one.1)).map λo=>o.2.1)
section
variable{a b:List Kw}(ha:∀k∈a,sgK k)(hb:∀k∈b,sgK k){r:Int}(hr:0<=r)
include ha hb hr
end
section
variable{a b:List Kw}(ha:∀k∈a,sgK k)(hb:∀k∈b,sgK k){r:Int}(hr:0<=r)
include ha hb hr
end
end L2.Sk.Law
namespace L2.Sk.Law
def tAt(A:List T3)(i:Nat):T3:=(A[i]?).getD (0,0,[])
def qaL (A B:List T3) (r u:Int):Nat->Nat->Nat->List (Nat×Nat)->Option (List (Nat×Nat))
 |0,_,_,acc=>some acc
 | m+1,i,j,acc=>if i<A.length/\0<j then
   if r<(tAt A i).1+(tAt B (j-1)).1 then qaL A B r u m i (j-1) (acc++[(i,j-1)])
   else if u<=(tAt A i).2.1+(tAt B (j-1)).2.1 then none
   else qaL A B r u m (i+1) j (acc++[(i,j-1)])
  else some acc
def qiw(A B:List T3)(r u:Int):Option (List (Nat×Nat)):=qaL A B r u (A.length+B.length) 0 B.length []
theorem qmy {A:List T3} {i:Nat} (h:i<A.length):A[i]? = some (tAt A i):=by
 unfold tAt
 rw[gG h]
 rfl
section
variable{A B:List T3}(hA:A.Pairwise λx y=>x.1<y.1/\x.2.1<y.2.1)(hB:B.Pairwise λx y=>x.1<y.1/\x.2.1<y.2.1){r u:Int}
include hA hB
end
section
variable{a b:List Kw}(ha:∀k∈a,sgK k)(hb:∀k∈b,sgK k){r:Int}(hr:0<=r)
include ha hb hr
end
end L2.Sk.Law
namespace L2.Sk.Law
theorem qbK:∀a b:List Int,HT.lexLt a b=false->HT.lexLt b a=false->a=b
 | [],[],_,_=>rfl
 | [],_::_,h,_=>by cases h
 |_::_,[],_,h=>by cases h
 | x::a,y::b,h1,h2=>by
  rw[HT.lexLt_cons]at h1 h2
  by_cases c:x=y
  ·subst c
   rw[if_pos rfl]at h1 h2
   rw[qbK a b h1 h2]
  ·rw[if_neg c]at h1
   rw[if_neg λz=>c z.symm]at h2
   have:=of_decide_eq_false h1
   have:=of_decide_eq_false h2
   omega
theorem qix {x y:yc} (h1:lt3 x y=false) (h2:lt3 y x=false):x=y:=by
 obtain⟨x1,x2,x3⟩:=x
 obtain⟨y1,y2,y3⟩:=y
 unfold lt3 at h1 h2
 dsimp only at h1 h2
 by_cases c:x1=y1
 ·subst c
  rw[if_pos rfl]at h1 h2
  by_cases d:x2=y2
  ·subst d
   rw[if_pos rfl]at h1 h2
   rw[qbK _ _ h1 h2]
  ·rw[if_neg d]at h1
   rw[if_neg λz=>d z.symm]at h2
   have:=of_decide_eq_false h1
   have:=of_decide_eq_false h2
   omega
 ·rw[if_neg c]at h1
  rw[if_neg λz=>c z.symm]at h2
  have:=of_decide_eq_false h1
  have:=of_decide_eq_false h2
  omega
theorem qd6:∀{l m:List yc},l.Perm m->(l.Pairwise λx y=>lt3 y x=false)->(m.Pairwise λx y=>lt3 y x=false)->l=m
 | [],m,p,_,_=>by rw[List.nil_perm.mp p]
 |x::l,[],p,_,_=>by have:=p.length_eq;simp at this
 | x :: l,y::m,p,h1,h2=>by
  rw[List.pairwise_cons]at h1 h2
  have e:x=y:=by
   have hx:x∈y::m:=p.mem_iff.mp mS_
   have hy:y∈x::l:=p.mem_iff.mpr mS_
   rcases List.mem_cons.mp hx with e|hx
   ·exact e
   ·rcases List.mem_cons.mp hy with e|hy
    ·exact e.symm
    ·exact qix (h2.1 x hx) (h1.1 y hy)
  subst e
  rw[qd6 (List.perm_cons x |>.mp p) h1.2 h2.2]
def qmU(L:List T3):List T3:=(Srt.ord (qN L)).map λi=>L.getD i (0,0,[])
theorem qiy (L:List T3):(qmU L).Perm L:=by
 have h:=(Srt.ord_perm (qN L)).map λi=>L.getD i ((0,0,[]):T3)
 rw[zn]at h
 have e:(yal L.length).map (λi=>L.getD i ((0,0,[]):T3))=L:=Srt.map_getD_range _ L
 rw[e]at h
 exact h
theorem qe0 (L:List T3):(qmU L).Pairwise λx y=>lt3 y x=false:=by
 unfold qmU
 rw[ycN]
 have hp:=Srt.ord_perm (qN L)
 have hs:=Srt.ord_sorted (qN L)
 refine(List.pairwise_iff_forall_sublist.mpr λ{i j} hij=>?_)
 have hij':=(List.pairwise_iff_forall_sublist.mp hs) hij
 have hi:i<L.length:=by
  have:=hp.mem_iff.mp (hij.subset (mS_))
  rw[mR_,zn]at this
  exact this
 have hj:j<L.length:=by
  have:=hp.mem_iff.mp (hij.subset (mM _ mS_))
  rw[mR_,zn]at this
  exact this
 have hle:=hij'.le
 have e1:Srt.kk (qN L) i=qbA L (L.getD i (0,0,[])):=by unfold Srt.kk qN;simp[hi]
 have e2:Srt.kk (qN L) j=qbA L (L.getD j (0,0,[])):=by unfold Srt.kk qN;simp[hj]
 rw[e1,e2]at hle
 have hm:L.getD j (0,0,[])∈L:=by simp[hj]
 rw[<-qeO hm]
 exact decide_eq_false (by omega)
theorem qd7:∀ks:List Kw,(jB ks).Pairwise λl m=>HT.lexLt l m=true
 | []=>by simp[jB]
 | k::ks=>by
  simp only[jB]
  rw[List.pairwise_flatMap]
  refine⟨λt _=>?_,?_⟩
  ·rw[ycN]
   refine(qd7 ks).imp λ{l m} h=>?_
   rw[HT.lexLt_cons,if_pos rfl]
   exact h
  ·refine List.pairwise_lt_range.imp λ{t u} htu x hx y hy=>?_
   obtain⟨l,_,rfl⟩:=mP_.mp hx
   obtain⟨m,_,rfl⟩:=mP_.mp hy
   rw[HT.lexLt_cons,if_neg (by omega)]
   exact decide_eq_true (by omega)
theorem qgR (ks:List Kw):(yw ks).Nodup:=by
 unfold yw List.Nodup
 rw[ycN]
 refine(qd7 ks).imp λ{l m} h e=>?_
 have:l=m:=(Prod.mk.inj (Prod.mk.inj e).2).2
 rw[this,qcT]at h
 cases h
def wrs(x y:T3):Bool:=decide (y.1<=x.1)&&(decide (x.2.1<=y.2.1)&&decide (y.2.2≠x.2.2))&&(decide (y.1<x.1)||(decide (x.2.1<y.2.1)||HT.lexLt y.2.2 x.2.2))
def vo(L:List T3)(x:T3):Bool:=L.any (wrs x)
theorem qct:∀(L P kept:List T3),(P++L).Pairwise Bo->Kp P kept->(∀x∈kept,∀y∈P,lt3 (kyT y) (kyT x)=true->y.2.1<x.2.1)->∀x∈L.foldl w9 kept,∀y∈P++L,lt3 (kyT y) (kyT x)=true->y.2.1<x.2.1
 | [],P,kept,_,_,h=>by rw[yaZ];exact h
 | z :: L,P,kept,hs,hk,h=>by
  rw[fo_]
  have e:P++z::L=(P++[z])++L:=by simp
  rw[e]at hs |-
  have hb:∀y∈P,Bo y z:=λy hy=>(List.pairwise_append.mp (List.pairwise_append.mp hs).1).2.2 y hy z (by simp)
  refine qct L (P++[z]) _ hs (hk.step hb) λx hx y hy hlt=>?_
  have old:x∈kept->y.2.1<x.2.1:=λhxk=>by
   rcases mA_.mp hy with hy|hy
   ·exact h x hxk y hy hlt
   ·have:y=z:=by simpa using hy
    subst this
    have:=hb x (hk.sub x hxk)
    unfold Bo at this
    rw[this]at hlt
    cases hlt
  unfold w9 at hx
  cases el:kept.getLast? with
  | none=>
   rw[el]at hx
   have hx':x=z:=by simpa using hx
   have hk0:kept=[]:=List.getLast?_eq_none_iff.mp el
   have hP:P=[]:=by
    cases P with
    |nil=>rfl
    |cons p P=>
     obtain⟨w,hw,_⟩:=hk.dom p mS_
     rw[hk0]at hw;cases hw
   subst hP
   have hy':y=z:=by simpa using hy
   rw[hx',hy',qeN]at hlt
   cases hlt
  | some l=>
   rw[el]at hx
   dsimp only at hx
   by_cases c:l.2.1<z.2.1
   ·rw [if_pos c]at hx
    rcases mA_.mp hx with hx|hx
    ·exact old hx
    ·have hx':x=z:=by simpa using hx
     subst hx'
     rcases mA_.mp hy with hy|hy
     ·have:=hk.top l el y hy
      omega
     ·have:y=x:=by simpa using hy
      rw[this,qeN]at hlt
      cases hlt
   ·rw[if_neg c]at hx
    exact old hx
theorem qfX {ks:List Kw} {x y:T3} (hx:x∈nbL ks) (hy:y∈yw ks) (h:lt3 (kyT y) (kyT x)=true):y.2.1<x.2.1:=by
 have:=qct (srt (yw ks)) [] [] (by simpa using qcs (yw ks)) ⟨(λx hx=>absurd hx nN_),(λx hx=>absurd hx nN_),(λy hy=>by simp at hy),ycL⟩ (λx hx=>absurd hx nN_) x hx y (by simpa using (qaa _).mem_iff.mpr hy) h
 exact this
theorem qoE {ks:List Kw} {x z:T3} (hx:x∈nbL ks) (hz:z∈nbL ks) (h1:z.1<=x.1) (h2:x.2.1<=z.2.1):z=x:=by
 obtain⟨i,hi,rfl⟩:=yeY hx
 obtain⟨j,hj,rfl⟩:=yeY hz
 have hr:=List.pairwise_iff_getElem.mp (qeZ ks)
 rcases Nat.lt_trichotomy i j with h|h|h
 ·have:=hr i j hi hj h
  omega
 ·subst h;rfl
 ·have:=hr j i hj hi h
  omega
theorem qmz {ks:List Kw} {x y:T3} (hx:x∈yw ks) (hy:y∈yw ks) (h:x.2.2=y.2.2):x=y:=by
 obtain⟨l,_,rfl⟩:=qfW.mp hx
 obtain⟨m,_,rfl⟩:=qfW.mp hy
 have:l=m:=h
 rw[this]
theorem qoF {ks:List Kw} (x:T3):x∈nbL ks ↔ x∈(yw ks).filter λx => !vo (yw ks) x:=by
 rw[List.mem_filter,ydP]
 constructor
 ·intro hx
  refine⟨qk4 hx,?_⟩
  unfold vo
  rw[ydM]
  intro y hy hw
  unfold wrs at hw
  simp only[yag,ybP,decide_eq_true_eq]at hw
  obtain⟨⟨w1,w2,w3⟩,w4⟩:=hw
  obtain⟨z,hz,z1,z2⟩:=qk5 hy
  have:=qoE hx hz (by omega) (by omega)
  subst this
  have e1:y.1=z.1:=by omega
  have e2:y.2.1=z.2.1:=by omega
  have hl:HT.lexLt y.2.2 z.2.2=true:=by
   rcases w4 with w|w|w
   ·omega
   ·omega
   ·exact w
  have:=qfX hz hy (by
   unfold lt3 kyT
   dsimp only
   rw[if_pos e1,if_pos (by omega)]
   exact hl)
  omega
 ·rintro ⟨hx,hw⟩
  obtain⟨z,hz,z1,z2⟩:=qk5 hx
  by_cases c:z=x
  ·rw[<-c];exact hz
  ·exfalso
   have hzA:=qk4 hz
   have nl:z.2.2≠x.2.2:=λe=>c (qmz hzA hx e)
   unfold vo at hw
   rw[ydM]at hw
   have nw:=hw z hzA
   unfold wrs at nw
   simp only[yag,ybP,decide_eq_true_eq,not_and,not_or]at nw
   obtain⟨n1,n2,n3⟩:=nw ⟨z1,z2,nl⟩
   have e1:x.1=z.1:=by omega
   have e2:x.2.1=z.2.1:=by omega
   have hl:HT.lexLt x.2.2 z.2.2=true:=by
    cases q:HT.lexLt x.2.2 z.2.2 with
    |true=>rfl
    |false=>exact absurd (qbK _ _ (by simpa using n3) q) nl
   have:=qfX hz hx (by
    unfold lt3 kyT
    dsimp only
    rw[if_pos e1,if_pos (by omega)]
    exact hl)
   omega
theorem qoG (ks:List Kw):qmU ((yw ks).filter λx => !vo (yw ks) x)=nbL ks:=by
 have nd:(nbL ks).Nodup:=(qeZ ks).imp λ{x y} h e=>by rw[e]at h;omega
 have nf:((yw ks).filter λx => !vo (yw ks) x).Nodup:=(qgR ks).sublist List.filter_sublist
 have p:(nbL ks).Perm ((yw ks).filter λx => !vo (yw ks) x):=(List.perm_ext_iff_of_nodup nd nf).mpr λx=>qoF x
 refine qd6 ((qiy _).trans p.symm) (qe0 _) ((qeZ ks).imp λ{x y} h=>?_)
 unfold lt3
 rw[if_neg (by omega)]
 exact decide_eq_false (by omega)
end L2.Sk.Law
namespace L2.Sk
namespace Law
open PySem PySem.Spec PyProof.Rows
set_option maxHeartbeats 4000000
theorem qo8{t u:M Bool}{Z:Env}(h1:t Z=.ok (false,Z))(h2:u Z=.ok (false,Z)):tor t u Z=.ok (false,Z):=by rw[qgz,h1];exact h2
theorem qqy{t u:M Bool}{Z:Env}(h1:t Z=.ok (true,Z)):tor t u Z=.ok (true,Z):=by rw[qgz,h1];rfl
theorem qiz{t u:M Bool}{Z:Env}(h1:t Z=.ok (false,Z)):qah t u Z=.ok (false,Z):=by rw[qdN,h1];rfl
theorem qgS{t u:M Bool}{Z:Env}{b:Bool}(h1:t Z=.ok (true,Z))(h2:u Z=.ok (b,Z)):qah t u Z=.ok (b,Z):=by rw[qdN,h1];exact h2
theorem vX{F:List D->R D}{f g h:M D}{Z:Env}{a b c d:D}(hf:f Z=.ok (a,Z))(hg:g Z=.ok (b,Z))(hh:h Z=.ok (c,Z))(e:F [a,b,c]=.ok d):qp F (qa f (qa g (qa h (ret [])))) Z=.ok (d,Z):=qpR hf hg hh e
theorem qc8 (xs:List D) (j:Nat) (h:j<=xs.length):qfn xs none (some (j:Int))=xs.take j:=by
 unfold qfn
 rw[HT.sIx_none,HT.sIx_nat,ydb h]
 simp
theorem qfY (xs:List D) (j:Nat) (h:j<=xs.length):qfn xs (some (j:Int)) none=xs.drop j:=by
 unfold qfn
 rw[HT.sIx_none,HT.sIx_nat,ydb h]
 exact ybI (by simp)
theorem uM{i:Nat}{f:M D}{Z Z1:Env}{d:D}(h:f Z=.ok (d,Z1)):zi i f Z=.ok (.nx (Z1.set i (some d))):=by rw[wQ,h]
theorem ye{f:M D}{Z Z1:Env}{d:D}(h:f Z=.ok (d,Z1)):jd f Z=.ok (.rt d Z1):=by rw[qdO,h]
end Law
end L2.Sk
namespace L2.Sk.Law
open PySem PyProof.Rows
def sg(d:D):List Nat:=(zF d).shown.cps.toList
def okN:Nat->D->Prop
 |_,.int _=>True
 |n+1,.tup ds=>∀d∈ds,okN n d
 |_,_=>False
def vU:List D->List Nat
 | []=>[41]
 |d::ds=>44::32::(sg d++vU ds)
def qc9:List D->List Nat
 | []=>[41]
 | [d]=>sg d++[44,41]
 |d::e::ds=>sg d++vU (e::ds)
theorem qiA:∀ds:List D,(toPDs ds).length=ds.length
 | []=>rfl
 |d::ds=>by rw[toPDs,lC_,lC_,qiA ds]
theorem qd8:∀(d:D)(ds:List D),(Str.join ((", ":String):Str) (PyData.shownAll (toPDs (d::ds)))).cps.toList++[41]=sg d++vU ds
 |d,[]=>by
  rw[toPDs,toPDs,ycn,yeZ,join_one]
  rfl
 |d,e::ds=>by
  have ih:=qd8 e ds
  rw[toPDs,ycn]
  rw[toPDs,ycn]at ih |-
  rw[join_cons_cons,ybU,ybU,signs_sep,aA_,aA_,ih]
  simp[sg,vU]
theorem qcu (ds:List D):sg (.tup ds)=40::qc9 ds:=by
 unfold sg
 rw[zF,PyData.shown_tuple,ybU,ybU,signs_lparen,qiA]
 cases ds with
 |nil=>decide
 | cons d ds=>
  cases ds with
  | nil=>
   rw[toPDs,toPDs,ycn,yeZ,join_one]
   have e:(ybl (if([d].length==1)=true then ",)" else ")")).cps.toList=[44,41]:=by
    have:([d].length==1)=true:=rfl
    rw[this]
    decide
   rw[e]
   simp[qc9,sg]
  | cons e ds=>
   have e1:(ybl (if((d::e::ds).length==1)=true then ",)" else ")")).cps.toList=[41]:=by
    have:((d::e::ds).length==1)=false:=by simp
    rw[this]
    decide
   rw[e1,aA_,qd8]
   simp[qc9,vU]
def dg(c:Nat):Bool:=c==45||(decide (48<=c)&&decide (c<=57))
theorem qd9 (i:Int):∀c∈sg (.int i),dg c=true:=λc hc=>by
 unfold dg
 by_cases h:c≠45/\(c<48\/57<c)
 ·exact absurd hc (shown_int_free' h i)
 ·simp only[ybP,beq_iff_eq,yag,decide_eq_true_eq]
  omega
def qqz(l:List Char):Nat:=l.foldl (λa c=>a*10+(c.toNat-48)) 0
theorem qfZ:∀d:Nat,d<10->(yeT d).toNat-48=d:=by decide
theorem qcv (m:Nat):qqz (ybb 10 m)=m:=by
 induction m using Nat.strongRecOn with
 | _ m ih=>
  by_cases h:m<10
  ·rw[yb0 h]
   have e:=qfZ m h
   show 0*10+((yeT m).toNat-48)=m
   omega
  ·have hm:m%10<10:=Nat.mod_lt m (by decide)
   have t:ybb 10 (m/10)++ybb 10 (m%10)=ybb 10 (10*(m/10)+m%10):=ydp (by decide) (by omega) hm
   rw[Nat.div_add_mod]at t
   have i:=ih (m/10) (by omega)
   unfold qqz at i |-
   rw[<-t,yb0 hm,yfC,i]
   show m/10*10+((yeT (m%10)).toNat-48)=m
   rw[qfZ (m%10) hm]
   omega
theorem qiB (i:Int):sg (.int i)=(toString i).toList.map yfS:=by
 unfold sg
 rw[zF,PyData.shown_int,signs_ofString]
theorem qmA {a b:List Char} (h:a.map yfS=b.map yfS):a=b:=by
 induction a generalizing b with
 |nil=>cases b with
  |nil=>rfl
  |cons c b=>cases h
 | cons c a ih=>cases b with
  |nil=>cases h
  |cons d b=>
   rw[mC_,mC_,yb9]at h
   rw[ih h.2]
   have:c=d:=Char.ext (UInt32.toNat_inj.mp h.1)
   rw[this]
theorem qiC (n:Nat):ybb 10 n≠[]:=λe=>by
 by_cases h:n<10
 ·rw[yb0 h]at e
  cases e
 ·have hm:n%10<10:=Nat.mod_lt n (by decide)
  have t:ybb 10 (n/10)++ybb 10 (n%10)=ybb 10 (10*(n/10)+n%10):=ydp (by decide) (by omega) hm
  rw[Nat.div_add_mod,e,yb0 hm]at t
  exact absurd (congrArg yfF t) (by simp)
theorem qda (i:Int):(toString i).toList=if 0<=i then ybb 10 i.toNat else '-'::ybb 10 (-i).toNat:=by
 rw[Int.toString_eq_repr,Int.repr_eq_if]
 split
 ·rw[Nat.toList_repr]
 ·rw[String.toList_append,Nat.toList_repr]
  rfl
theorem qf0 (n:Nat) (l:List Char):ybb 10 n≠'-'::l:=λe=>by
 have:('-':Char)∈ybb 10 n:=by rw[e];exact mS_
 have:=Nat.isDigit_of_mem_toDigits (by decide) (by decide) this
 cases this
theorem qmB {i j:Int} (h:sg (.int i)=sg (.int j)):i=j:=by
 rw[qiB,qiB]at h
 have h:=qmA h
 rw[qda,qda]at h
 have nd:∀a b:Nat,ybb 10 a=ybb 10 b->a=b:=λa b e=>by rw[<-qcv a,<-qcv b,e]
 split at h<;>split at h
 ·have:=nd _ _ h
  omega
 ·exact absurd h (qf0 _ _)
 ·exact absurd h.symm (qf0 _ _)
 ·have:=nd _ _ (ya7 h).2
  omega
theorem qf1 (i:Int):∃c l,sg (.int i)=c::l/\dg c=true:=by
 cases e:sg (.int i) with
 |nil=>
  rw[qiB,qda]at e
  split at e
  ·exact absurd (List.map_eq_nil_iff.mp e) (qiC _)
  ·cases e
 |cons c l=>exact⟨c,l,rfl,qd9 i c (by rw[e];exact mS_)⟩
def stp(x:List Nat):Prop:=∀c l,x=c::l->dg c=false
theorem qf2:∀{a b x y:List Nat},(∀c∈a,dg c=true)->(∀c∈b,dg c=true)->stp x->stp y->a++x=b++y->a=b/\x=y
 | [],[],_,_,_,_,_,_,h=>⟨rfl,h⟩
 | [],c::b,x,y,_,hb,hx,_,h=>by
  have:=hx c (b++y) h
  rw[hb c mS_]at this
  cases this
 |c::a,[],x,y,ha,_,_,hy,h=>by
  have:=hy c (a++x) h.symm
  rw[ha c mS_]at this
  cases this
 |c::a,d::b,x,y,ha,hb,hx,hy,h=>by
  rw[yea,yea,yb9]at h
  obtain⟨e1,e2⟩:=qf2 (λz hz=>ha z (mM _ hz)) (λz hz=>hb z (mM _ hz)) hx hy h.2
  rw[h.1,e1]
  exact⟨rfl,e2⟩
theorem qgT {c:Nat} {l:List Nat} (h:dg c=false):stp (c::l):=λa b e=>by
 cases e
 exact h
theorem vR (ds:List D) (x:List Nat):stp (vU ds++x):=by
 cases ds with
 |nil=>exact qgT (by decide)
 |cons d ds=>exact qgT (by decide)
theorem qmC:∀{n:Nat}{d:D},okN n d->∃c l,sg d=c::l/\(c=40\/dg c=true)
 |_,.int i,_=>by
  obtain⟨c,l,e,h⟩:=qf1 i
  exact⟨c,l,e,.inr h⟩
 |n+1,.tup ds,_=>⟨40,_,qcu ds,.inl rfl⟩
 |0,.tup _,h=>by cases h
 |n,.non,h=>by cases n<;>cases h
 |n,.bl _,h=>by cases n<;>cases h
 |n,.str _,h=>by cases n<;>cases h
 |n,.lst _,h=>by cases n<;>cases h
 |n,.dic _,h=>by cases n<;>cases h
 |n,.fz _,h=>by cases n<;>cases h
 |n,.exc _,h=>by cases n<;>cases h
section
variable{P:D->Prop}(hP:∀d e:D,P d->P e->∀x y,stp x->stp y->sg d++x=sg e++y->d=e/\x=y)(hH:∀d,P d->∃c l,sg d=c::l/\(c=40\/dg c=true))
include hP
theorem qea:∀(ds es:List D),(∀d∈ds,P d)->(∀e∈es,P e)->∀x y,stp x->stp y->vU ds++x=vU es++y->ds=es/\x=y
 | [],[],_,_,x,y,_,_,h=>⟨rfl,(ya7 h).2⟩
 | [],e::es,_,_,x,y,_,_,h=>by cases h
 |d::ds,[],_,_,x,y,_,_,h=>by cases h
 | d::ds,e::es,h1,h2,x,y,hx,hy,h=>by
  have h':sg d++(vU ds++x)=sg e++(vU es++y):=by
   have:=(ya7 (ya7 h).2).2
   rw[<-aA_,<-aA_]
   exact this
  obtain⟨e1,e2⟩:=hP d e (h1 d mS_) (h2 e mS_) _ _ (vR ds x) (vR es y) h'
  obtain⟨e3,e4⟩:=qea ds es (λz hz=>h1 z (mM _ hz)) (λz hz=>h2 z (mM _ hz)) x y hx hy e2
  rw[e1,e3]
  exact⟨rfl,e4⟩
include hH
theorem qiD (ds es:List D) (h1:∀d∈ds,P d) (h2:∀e∈es,P e) (x y:List Nat) (hx:stp x) (hy:stp y) (h:qc9 ds++x=qc9 es++y):ds=es/\x=y:=by
 have no:∀(d:D)(ds:List D)(z w:List Nat),P d->[41]++z=qc9 (d::ds)++w->False:=λd ds z w hd e=>by
  obtain⟨c,l,e1,e2⟩:=hH d hd
  have:∃r,qc9 (d::ds)++w=c::r:=by
   cases ds with
   |nil=>exact⟨_,by rw[qc9,e1];rfl⟩
   |cons f ds=>exact⟨_,by rw[qc9,e1];rfl⟩
  obtain⟨r,er⟩:=this
  rw[er]at e
  have ec:c=41:=((ya7 e).1).symm
  rw[ec]at e2
  rcases e2 with q|q
  ·exact absurd q (by decide)
  ·exact absurd q (by decide)
 match ds,es with
 | [],[]=>exact⟨rfl,(ya7 h).2⟩
 | [],e::es=>exact(no e es x y (h2 e mS_) h).elim
 |d::ds,[]=>exact(no d ds y x (h1 d mS_) h.symm).elim
 | [d],[e]=>
  have h':sg d++([44,41]++x)=sg e++([44,41]++y):=by
   rw[<-aA_,<-aA_]
   exact h
  obtain⟨e1,e2⟩:=hP d e (h1 d mS_) (h2 e mS_) _ _ (qgT (by decide)) (qgT (by decide)) h'
  rw[e1]
  exact⟨rfl,(ya7 (ya7 e2).2).2⟩
 | [d],e::f::es=>
  have h':sg d++([44,41]++x)=sg e++(vU (f::es)++y):=by
   rw[<-aA_,<-aA_]
   exact h
  obtain⟨_,e2⟩:=hP d e (h1 d mS_) (h2 e mS_) _ _ (qgT (by decide)) (vR _ _) h'
  exact absurd (ya7 (ya7 e2).2).1 (by decide)
 | d::f::ds,[e]=>
  have h':sg d++(vU (f::ds)++x)=sg e++([44,41]++y):=by
   rw[<-aA_,<-aA_]
   exact h
  obtain⟨_,e2⟩:=hP d e (h1 d mS_) (h2 e mS_) _ _ (vR _ _) (qgT (by decide)) h'
  exact absurd (ya7 (ya7 e2).2).1 (by decide)
 | d::f::ds,e::g::es=>
  have h':sg d++(vU (f::ds)++x)=sg e++(vU (g::es)++y):=by
   rw[<-aA_,<-aA_]
   exact h
  obtain⟨e1,e2⟩:=hP d e (h1 d mS_) (h2 e mS_) _ _ (vR _ _) (vR _ _) h'
  obtain⟨e3,e4⟩:=qea hP (f::ds) (g::es) (λz hz=>h1 z (mM _ hz)) (λz hz=>h2 z (mM _ hz)) x y hx hy e2
  rw[e1,e3]
  exact⟨rfl,e4⟩
end
theorem qmD:∀(n:Nat)(d e:D),okN n d->okN n e->∀x y,stp x->stp y->sg d++x=sg e++y->d=e/\x=y:=λn=>by
 have ii:∀(i j:Int)(x y:List Nat),stp x->stp y->sg (.int i)++x=sg (.int j)++y->D.int i=.int j/\x=y:=λi j x y hx hy h=>by
  obtain⟨e1,e2⟩:=qf2 (qd9 i) (qd9 j) hx hy h
  rw[qmB e1]
  exact⟨rfl,e2⟩
 have it:∀(i:Int)(ds:List D)(x y:List Nat),sg (.int i)++x=sg (.tup ds)++y->False:=λi ds x y h=>by
  obtain⟨c,l,e1,e2⟩:=qf1 i
  rw[e1,qcu]at h
  have:c=40:=(ya7 h).1
  rw[this]at e2
  exact absurd e2 (by decide)
 induction n with
 |zero=>
  intro d e hd he x y hx hy h
  cases d<;>first|exact hd.elim|skip
  cases e<;>first|exact he.elim|skip
  exact ii _ _ x y hx hy h
 | succ n ih=>
  intro d e hd he x y hx hy h
  cases d<;>first|exact hd.elim|skip
  ·cases e<;>first|exact he.elim|skip
   ·exact ii _ _ x y hx hy h
   ·exact(it _ _ x y h).elim
  ·cases e<;>first|exact he.elim|skip
   ·exact(it _ _ y x h.symm).elim
   ·rename_i ds es
    rw[qcu,qcu]at h
    obtain⟨e1,e2⟩:=qiD (P:=okN n) ih (λd hd=>qmC hd) ds es hd he x y hx hy (ya7 h).2
    rw[e1]
    exact⟨rfl,e2⟩
theorem qoH{n:Nat}{d e:D}(hd:okN n d)(he:okN n e)(h:sg d=sg e):d=e:=(qmD n d e hd he [] [] (λ_ _ q=>by cases q) (λ_ _ q=>by cases q) (by rw[h])).1
def odS(c:Nat):Bool := !(dg c||c==40||c==41||c==44||c==32)
theorem qj8:∀{n:Nat}{d:D},okN n d->∀c∈sg d,odS c=false:=λ{n}=>by
 induction n with
 |zero=>
  intro d hd c hc
  cases d<;>first|exact hd.elim|skip
  unfold odS
  rw[qd9 _ c hc]
  rfl
 | succ n ih=>
  intro d hd c hc
  cases d<;>first|exact hd.elim|skip
  ·unfold odS
   rw[qd9 _ c hc]
   rfl
  ·rename_i ds
   have ht:∀es:List D,(∀e∈es,okN n e)->∀c∈vU es,odS c=false:=λes=>by
    induction es with
    |nil=>intro _ c hc;rw[ms_.mp hc];decide
    |cons e es ih2=>
     intro h c hc
     rcases List.mem_cons.mp hc with rfl|hc
     ·decide
     rcases List.mem_cons.mp hc with rfl|hc
     ·decide
     rcases mA_.mp hc with hc|hc
     ·exact ih (h e mS_) c hc
     ·exact ih2 (λz hz=>h z (mM _ hz)) c hc
   have hd':∀d∈ds,okN n d:=hd
   rw[qcu]at hc
   rcases List.mem_cons.mp hc with rfl|hc
   ·decide
   match ds,hd' with
   | [],_=>rw[ms_.mp hc];decide
   | [e],h=>
    rcases mA_.mp hc with hc|hc
    ·exact ih (h e mS_) c hc
    ·rcases List.mem_cons.mp hc with rfl|hc
     ·decide
     ·rw[ms_.mp hc];decide
   |e::f::es,h=>
    rcases mA_.mp hc with hc|hc
    ·exact ih (h e mS_) c hc
    ·exact ht (f::es) (λz hz=>h z (mM _ hz)) c hc
theorem qf3 {c:Nat} {x:D}:∀(ds:List D),x∈ds->c∈sg x->c∈vU ds
 |d::ds,hx,hc=>by
  refine mM _ (mM _ (mA_.mpr ?_))
  rcases List.mem_cons.mp hx with rfl|hx
  ·exact .inl hc
  ·exact .inr (qf3 ds hx hc)
theorem qiE {c:Nat} {x:D} {ds:List D} (hx:x∈ds) (hc:c∈sg x):c∈sg (.tup ds):=by
 rw[qcu]
 refine mM _ ?_
 match ds,hx with
 | [d],hx=>
  rw[ms_]at hx
  subst hx
  exact mA_.mpr (.inl hc)
 |d::e::ds,hx=>
  refine mA_.mpr ?_
  rcases List.mem_cons.mp hx with rfl|hx
  ·exact .inl hc
  ·exact .inr (qf3 _ hx hc)
def qi1(d:D):Prop:=∃c∈sg d,odS c=true
theorem qf4 {x:D} {ds:List D} (hx:x∈ds) (h:qi1 x):qi1 (.tup ds):=by
 obtain⟨c,hc,e⟩:=h
 exact⟨c,qiE hx hc,e⟩
theorem qf5 (ds:List D):qi1 (.lst ds):=by
 refine⟨91,?_,by decide⟩
 unfold sg
 rw[zF,PyData.shown_list,ybU,ybU,signs_lbrack]
 simp
theorem qj9 {n:Nat} {d e:D} (hd:okN n d\/qi1 d) (he:okN n e):decide ((zF d).shown=(zF e).shown)=true ↔ d=e:=by
 refine⟨λh=>?_,λh=>by rw[h];exact decide_eq_true rfl⟩
 have h:sg d=sg e:=by unfold sg;rw[of_decide_eq_true h]
 rcases hd with hd|⟨c,hc,q⟩
 ·exact qoH hd he h
 ·rw[h]at hc
  rw[qj8 he c hc]at q
  cases q
end L2.Sk.Law
namespace L2.Sk
namespace Law
open PySem PySem.Spec PyProof.Rows
def top(i:Nat):Stmt:=PySem.Challenge.pw_sackloads_k18_stairs_of_loads.main.body.getD i (.Pass ⟨0,0,0,0⟩)
abbrev jm:Stmt:=top 48
abbrev y8:Stmt:=top 13
abbrev uN:Stmt:=top 32
abbrev zW:Stmt:=top 28
abbrev jJ:Stmt:=top 26
abbrev zu:Stmt:=top 20
abbrev z5:Stmt:=top 27
abbrev jN:Stmt:=top 29
abbrev jw:Stmt:=top 25
abbrev jO:Stmt:=top 24
abbrev zQ:Stmt:=top 23
abbrev y9:Stmt:=top 14
abbrev uO:Stmt:=top 15
abbrev yi:Stmt:=top 16
abbrev jn:Stmt:=top 17
abbrev jo:Stmt:=top 30
abbrev jp:Stmt:=top 19
abbrev jq:Stmt:=top 18
abbrev jK:Stmt:=top 31
abbrev jP:Stmt:=top 33
abbrev yj:Stmt:=top 51
abbrev yk:Stmt:=top 38
abbrev ym:Stmt:=top 50
abbrev jQ:Stmt:=top 39
abbrev jx:Stmt:=top 46
abbrev zk:Stmt:=top 45
abbrev ua:Stmt:=top 44
abbrev zq:Stmt:=top 47
abbrev zo:Stmt:=top 49
abbrev zN:Stmt:=top 43
abbrev jb:Stmt:=top 40
abbrev jc:Stmt:=top 41
abbrev zr:Stmt:=top 42
abbrev ub:Stmt:=top 36
abbrev yn:Stmt:=top 35
abbrev uc:Stmt:=top 37
abbrev qbL:Stmt:=top 52
structure Txt (K:yaf) (mg:Str->Option Value):Prop where
 b_ValueError:mg "ValueError"=none
 b_abs:mg "abs"=none
 b_all:mg "all"=none
 b_bool:mg "bool"=none
 b_divmod:mg "divmod"=none
 b_int:mg "int"=none
 b_isinstance:mg "isinstance"=none
 b_len:mg "len"=none
 b_list:mg "list"=none
 b_max:mg "max"=none
 b_min:mg "min"=none
 b_range:mg "range"=none
 b_repr:mg "repr"=none
 b_sorted:mg "sorted"=none
 b_sum:mg "sum"=none
 b_tuple:mg "tuple"=none
 b_zip:mg "zip"=none
 c_KINDS_AT_MOST:∃t,mg "KINDS_AT_MOST"=some (.int 12 t)
 c_LOAD:∃t,mg "LOAD"=some (.int 2 t)
 c_MOST:∃t,mg "MOST"=some (.int 2 t)
 c_WEIGHT:∃t,mg "WEIGHT"=some (.int 0 t)
 c_WORTH:∃t,mg "WORTH"=some (.int 1 t)
def RN:List Str:=["NotSingle","NoStore","NoNumber"]
def TN:List Str:=["SackError","NoText","NotSingle","TooMany","NoLoad","NoNumber","NoStore"]
noncomputable def yE:MS :=
  (qH (sif (tor (wE (tst (qgI RN "SackError" (dv 0)))) (wE (tst (qgI RN "ValueError" (dv 0))))) (jd (ret (.str "other"))) jA)
  (qH (zi 1 (jI (qa (qgI RN "NoStore" (dv 0)) (qa (qgI RN "NoNumber" (dv 0)) (qa (qgI RN "NoLoad" (dv 0)) (qa (qgI RN "TooMany" (dv 0)) (ret [])))))))
  (qH (zi 1 (d2 qU (dv 1) (jI (qa (qgI RN "NotSingle" (dv 0)) (qa (qgI RN "NoText" (dv 0)) (ret []))))))
  (qH (sif (tst (d2 neS (qhZ qdS (dv 1) (qa (ret (.bl true)) (ret []))) (ret (.int 1)))) (jd (ret (.str "other"))) jA)
  (jd (d2 ixD (jI (qa (ret (.str "store")) (qa (ret (.str "number")) (qa (ret (.str "load")) (qa (ret (.str "many")) (qa (ret (.str "single")) (qa (ret (.str "text")) (ret [])))))))) (qhZ qdT (dv 1) (qa (ret (.bl true)) (ret [])))))))))
noncomputable def jr:List D->R D:=dfn 2 1 yE
noncomputable def qay:MS :=
  (jd (qaR (qeD "int" (dv 0)) (qo0 (qeD "bool" (dv 0)))))
noncomputable def jy:List D->R D:=dfn 1 1 qay
noncomputable def qbM:MS :=
  (jd (qaR (qeD "tuple" (dv 0)) (qaR (d2 eqB (qq vt (qa (dv 0) (ret []))) (ret (.int 2))) (qaR (qp jy (qa (d2 ixD (dv 0) (ret (.int 0))) (ret []))) (qp jy (qa (d2 ixD (dv 0) (ret (.int 1))) (ret [])))))))
noncomputable def uP:List D->R D:=dfn 1 1 qbM
noncomputable def uo:MS :=
  (jd (qO (qa (d2 ixD (dv 0) (ret (.int 0))) (qa (d1 qaI (d2 ixD (dv 0) (ret (.int 1)))) (qa (d2 ixD (dv 0) (ret (.int 2))) (ret []))))))
noncomputable def zX:List D->R D:=dfn 1 1 uo
noncomputable def wp:MS :=
  (qH (zi 1 (jI (qa (qO (ret [])) (ret []))))
  (qH (wy (yt (dv 0)) (ql 2) (qH (vn 3 (qgw (ret [])))
  (qH (wy (yt (dv 1)) (ql 4) (jk (vF 3 (zE 1 [4] none (jC (qa (d2 qU (d2 ixD (dv 2) (ret (.int 2))) (ret (.int 1))) (ret []))) (ql 0) (ret true) (d2 qU (dv 1) (qO (qa (dv 0) (ret []))))))))
  (qjT 1 3))))
  (jd (dv 1))))
noncomputable def uq:List D->R D:=dfn 5 1 wp
noncomputable def yP:MS :=
  (jd (qq qnG (qa (zE 2 [2] none (qnV (qa (dv 0) (qa (dv 1) (ret [])))) (vN 2 (qQ (ql 0) (qQ (ql 1) vq))) (ret true) (d2 uF (d2 ixD (dv 0) (dv 2)) (dv 1))) (ret []))))
noncomputable def zv:List D->R D:=dfn 3 3 yP
noncomputable def uY:MS :=
  (jd (zE 1 [0] none (yt (qp uq (qa (dv 0) (ret [])))) (ql 0) (ret true) (qO (qa (qp zv (qa (dv 1) (qa (dv 0) (qa (ret (.int 0)) (ret []))))) (qa (qp zv (qa (dv 1) (qa (dv 0) (qa (ret (.int 1)) (ret []))))) (qa (dv 0) (ret [])))))))
noncomputable def j8:List D->R D:=dfn 1 1 uY
noncomputable def vH:MS :=
  (qH (vn 1 (qgw (ret [])))
  (qH (wy (yt (qdW zX (qp j8 (qa (dv 0) (ret []))))) (ql 2) (sif (tor (qcO (tst (d2 eqB (dv 1) (jI (ret []))))) (tst (d2 gtD (d2 ixD (dv 2) (ret (.int 1))) (d2 ixD (qeF 1 (d1 qaI (ret (.int 1)))) (ret (.int 1)))))) (jk (zH 1 (dv 2))) jA))
  (qlN 1)))
noncomputable def yF:List D->R D:=dfn 3 1 vH
noncomputable def uZ:MS :=
  (jd (qcQ (dv 0) (yA (d2 ux (qq vt (qa (dv 0) (ret []))) (ret (.int 2)))) (ret none)))
noncomputable def yV:List D->R D:=dfn 1 1 uZ
noncomputable def vI:MS :=
  (jd (qcQ (dv 0) (ret none) (yA (d2 ux (qq vt (qa (dv 0) (ret []))) (ret (.int 2))))))
noncomputable def uD:List D->R D:=dfn 1 1 vI
noncomputable def z6:MS :=
  (sif (wE (tst (qq qfm (qa (zE 1 [] none (yt (dv 0)) (ql 0) (ret true) (d2 inB (d2 ixD (dv 0) (ret (.int 2))) (qO (qa (ret (.int 0)) (qa (ret (.int 1)) (ret [])))))) (ret []))))) (qbu "NotSingle" (qa (ret (.str "some kind is there more often than once")) (ret []))) jA)
noncomputable def j9:List D->R D:=qbt 1 1 z6
noncomputable def qaz:MS :=
  (jd (qaR (qp jy (qa (dv 0) (ret []))) (d2 geD (dv 0) (ret (.int 0)))))
noncomputable def yo:List D->R D:=dfn 1 1 qaz
noncomputable def qbN:MS :=
  (qH (sif (tor (wE (tst (qeD "tuple" (dv 0)))) (tst (d2 neB (qq vt (qa (dv 0) (ret []))) (ret (.int 3))))) (jd (ret (.bl false))) jA)
  (qH (sif (tor (wE (tst (qp yo (qa (d2 ixD (dv 0) (ret (.int 0))) (ret []))))) (tst (d2 eqB (d2 ixD (dv 0) (ret (.int 0))) (ret (.int 0))))) (jd (ret (.bl false))) jA)
  (jd (qaR (qp yo (qa (d2 ixD (dv 0) (ret (.int 1))) (ret []))) (dor (d2 isN (d2 ixD (dv 0) (ret (.int 2))) (ret .non)) (qp yo (qa (d2 ixD (dv 0) (ret (.int 2))) (ret []))))))))
noncomputable def vJ:List D->R D:=dfn 1 1 qbN
noncomputable def qaA:MS :=
  (qH (sif (tor (wE (tst (qeD "tuple" (dv 0)))) (tst (d2 gtD (qq vt (qa (dv 0) (ret []))) (ret (.int 12))))) (jd (ret (.bl false))) jA)
  (jd (qq qfm (qa (zE 1 [] none (yt (dv 0)) (ql 0) (ret true) (qp vJ (qa (dv 0) (ret [])))) (ret [])))))
noncomputable def vS:List D->R D:=dfn 1 1 qaA
noncomputable def uE:MS :=
  (sif (wE (tst (qp vS (qa (dv 0) (ret []))))) (qbu "NoStore" (qa (ret (.str "this is no store")) (ret []))) jA)
noncomputable def yG:List D->R D:=qbt 1 1 uE
noncomputable def yH:MS :=
  (qH (jk (yT RN yG (qa (dv 0) (ret []))))
  (qH (jk (yT RN j9 (qa (dv 0) (ret []))))
  (jd (qO (qa (qp yF (qa (qp uD (qa (dv 0) (ret []))) (ret []))) (qa (qp yF (qa (qp yV (qa (dv 0) (ret []))) (ret []))) (ret [])))))))
noncomputable def jR:List D->R D:=qbt 1 1 yH
noncomputable def yI:MS :=
  (sif (wE (tst (qp jy (qa (dv 0) (ret []))))) (qbu "NoNumber" (qa (ret (.str "this is no whole number")) (ret []))) jA)
noncomputable def jS:List D->R D:=qbt 1 1 yI
noncomputable def yJ:MS :=
  (sif (wE (tst (qp yo (qa (dv 0) (ret []))))) (qbu "NoNumber" (qa (ret (.str "this is no whole number from 0 on")) (ret []))) jA)
noncomputable def js:List D->R D:=qbt 1 1 yJ
noncomputable def jL:MS :=
  (qH (jk (yT RN yG (qa (dv 0) (ret []))))
  (qH (jk (yT RN js (qa (dv 1) (ret []))))
  (qH (jk (yT RN jS (qa (dv 2) (ret []))))
  (qH (zi 3 (yT RN jR (qa (dv 0) (ret []))))
  (qH (vn 4 (qgw (ret [])))
  (qH (zi 5 (ret (.int 0)))
  (qH (zi 6 (d2 qdp (qq vt (qa (d2 ixD (dv 3) (ret (.int 1))) (ret []))) (ret (.int 1))))
  (qH (qbs (qah (tst (d2 ltD (dv 5) (qq vt (qa (d2 ixD (dv 3) (ret (.int 0))) (ret []))))) (tst (d2 geD (dv 6) (ret (.int 0))))) (qH (jk (zH 4 (qO (qa (dv 5) (qa (dv 6) (ret []))))))
  (sif (tst (d2 gtD (d2 qU (d2 ixD (d2 ixD (d2 ixD (dv 3) (ret (.int 0))) (dv 5)) (ret (.int 0))) (d2 ixD (d2 ixD (d2 ixD (dv 3) (ret (.int 1))) (dv 6)) (ret (.int 0)))) (dv 1))) (zi 6 (d2 qdp (dv 6) (ret (.int 1)))) (sif (tst (d2 geD (d2 qU (d2 ixD (d2 ixD (d2 ixD (dv 3) (ret (.int 0))) (dv 5)) (ret (.int 1))) (d2 ixD (d2 ixD (d2 ixD (dv 3) (ret (.int 1))) (dv 6)) (ret (.int 1)))) (dv 2))) (jd (ret .non)) (zi 5 (d2 qU (dv 5) (ret (.int 1))))))))
  (jd (qb0 4))))))))))
noncomputable def qx:List D->R D:=qbt 7 3 jL
noncomputable def jT:MS :=
  (qH (zi 4 (yT RN qx (qa (dv 1) (qa (dv 2) (qa (dv 3) (ret []))))))
  (qH (sif (tor (tst (d2 isN (dv 4) (ret .non))) (wE (tst (qeD "tuple" (dv 0))))) (jd (ret (.bl false))) jA)
  (jd (qaR (qq qfm (qa (zE 1 [] none (yt (dv 0)) (ql 0) (ret true) (qp uP (qa (dv 0) (ret [])))) (ret []))) (d2 eqB (dv 0) (dv 4))))))
noncomputable def qI:List D->R D:=qbt 5 4 jT
noncomputable def wv:MS :=
  (qH (qiZ RN (jk (yT RN qI (qa (ret .non) (qa (dv 0) (qa (dv 1) (qa (dv 2) (ret []))))))) jr)
  (jd (ret (.str "told"))))
noncomputable def zg:List D->R D:=dfn 4 3 wv
noncomputable def u0:MS :=
  (qH (qer (qq qbc (qa (qeF 0 (ret (.int 0))) (qa (dv 1) (ret [])))) (vN 2 (qQ (ql 2) (qQ (ql 3) vq))))
  (qH (qju 0 (ret (.int 0)) (dv 2))
  (jd (dv 3))))
noncomputable def qg:List D->List D->R (D×List D):=vA 4 2 u0
noncomputable def ur:MS :=
  (qH (zi 3 (qj qg 0 (qa (d2 qU (qq vt (qa (dv 1) (ret []))) (ret (.int 1))) (ret []))))
  (qH (qer (d2 ixD (d2 qU (qcQ (dv 1) (yA (dv 3)) (ret none)) (qO (qa (qO (qa (ret (.int 0)) (qa (ret (.int 0)) (ret [])))) (ret [])))) (ret (.int 0))) (vN 2 (qQ (ql 4) (qQ (ql 5) vq))))
  (qH (zi 6 (jI (qa (qO (ret [])) (qa (qO (qa (qO (qa (dv 4) (qa (dv 5) (ret [])))) (qa (qO (qa (dv 4) (qa (dv 5) (ret [])))) (ret [])))) (qa (qO (qa (qO (qa (dv 5) (qa (dv 4) (ret [])))) (ret []))) (qa (qO (qa (qO (qa (d2 qU (dv 4) (ret (.int 1))) (qa (dv 5) (ret [])))) (ret []))) (qa (qO (qa (qO (qa (dv 4) (qa (d2 eqB (dv 5) (ret (.int 1))) (ret [])))) (ret []))) (qa (qO (qa (jI (qa (dv 4) (qa (dv 5) (ret [])))) (ret []))) (qa (qO (qa (qO (qa (dv 4) (qa (dv 5) (qa (ret (.int 0)) (ret []))))) (ret []))) (qa (qO (qa (dv 2) (ret []))) (ret [])))))))))))
  (qH (zi 7 (qj qg 0 (qa (ret (.int 11)) (ret []))))
  (qH (sif (tst (d2 ltD (dv 7) (ret (.int 8)))) (jd (d2 qU (d2 qU (qcQ (dv 1) (ret none) (yA (dv 3))) (d2 ixD (dv 6) (dv 7))) (qcQ (dv 1) (yA (d2 qU (dv 3) (ret (.int 1)))) (ret none)))) jA)
  (jd (d2 ixD (jI (qa (qgJ (dv 1)) (qa (qq qgs (qa (dv 1) (ret []))) (qa (d2 qU (dv 1) (qO (qa (qO (qa (ret (.int 0)) (qa (ret (.int 0)) (ret [])))) (ret [])))) (ret []))))) (d2 qdp (dv 7) (ret (.int 8))))))))))
noncomputable def qT:List D->List D->R (D×List D):=vA 8 3 ur
noncomputable def vK:MS :=
  (jd (qaR (qeD "bool" (dv 0)) (d2 eqB (dv 0) (dv 1))))
noncomputable def qX:List D->R D:=dfn 2 2 vK
noncomputable def u3:MS :=
  (qH (zi 1 (d2 ux (qq vt (qa (dv 0) (ret []))) (ret (.int 2))))
  (jd (qO (qa (qcQ (dv 0) (ret none) (yA (dv 1))) (qa (qcQ (dv 0) (yA (dv 1)) (ret none)) (ret []))))))
noncomputable def jz:List D->R D:=dfn 2 1 u3
noncomputable def yQ:MS :=
  (qH (zi 2 (jI (qa (qO (qa (qO (ret [])) (qa (dv 1) (ret [])))) (ret []))))
  (qH (wy (yt (dv 0)) (vN 3 (qQ (ql 3) (qQ (ql 4) (qQ (ql 5) vq)))) (qH (zi 6 (jI (ret [])))
  (qH (wy (yt (dv 2)) (vN 2 (qQ (ql 7) (qQ (ql 8) vq))) (qH (zi 9 (d2 ux (dv 8) (dv 3)))
  (qH (sif (tst (d2 qjk (dv 5) (ret .non))) (zi 9 (qq v3 (qa (dv 9) (qa (dv 5) (ret []))))) jA)
  (zi 6 (d2 qU (dv 6) (zE 1 [7,8,3] none (jC (qa (d2 qU (dv 9) (ret (.int 1))) (ret []))) (ql 0) (ret true) (qO (qa (d2 qU (dv 1) (qO (qa (dv 0) (ret [])))) (qa (d2 qdp (dv 2) (d2 uF (dv 0) (dv 3))) (ret []))))))))))
  (zi 2 (dv 6)))))
  (jd (zE 2 [] none (yt (dv 2)) (vN 2 (qQ (ql 0) (qQ (ql 1) vq))) (ret true) (dv 0)))))
noncomputable def ja:List D->R D:=dfn 10 2 yQ
noncomputable def qaB:MS :=
  (qH (zi 3 (ret (.int 0)))
  (qH (wy (jC (qa (qq vt (qa (dv 0) (ret []))) (ret []))) (ql 4) (zi 3 (d2 qU (dv 3) (d2 uF (d2 ixD (d2 ixD (dv 0) (dv 4)) (dv 2)) (d2 ixD (dv 1) (dv 4))))))
  (jd (dv 3))))
noncomputable def zh:List D->R D:=dfn 5 3 qaB
noncomputable def ut:MS :=
  (qH (zi 1 (zE 1 [0] none (yt (qp ja (qa (dv 0) (qa (d2 qfq (ret (.int 10)) (ret (.int 60))) (ret []))))) (ql 0) (ret true) (qO (qa (qp zh (qa (dv 1) (qa (dv 0) (qa (ret (.int 0)) (ret []))))) (qa (qp zh (qa (dv 1) (qa (dv 0) (qa (ret (.int 1)) (ret []))))) (qa (dv 0) (ret [])))))))
  (qH (vn 2 (qgw (ret [])))
  (qH (wy (yt (dv 1)) (vN 3 (qQ (ql 3) (qQ (ql 4) (qQ (ql 5) vq)))) (qH (zi 6 (ret (.bl false)))
  (qH (wy (yt (dv 1)) (ql 7) (sif (qah (tst (d2 leD (d2 ixD (dv 7) (ret (.int 0))) (dv 3))) (qah (tst (d2 geD (d2 ixD (dv 7) (ret (.int 1))) (dv 4))) (tst (d2 neB (d2 ixD (dv 7) (ret (.int 2))) (dv 5))))) (zi 6 (dor (dv 6) (dor (d2 ltB (d2 ixD (dv 7) (ret (.int 0))) (dv 3)) (dor (d2 gtD (d2 ixD (dv 7) (ret (.int 1))) (dv 4)) (d2 ltB (d2 ixD (dv 7) (ret (.int 2))) (dv 5)))))) jA))
  (sif (wE (tst (dv 6))) (jk (zH 2 (qO (qa (dv 3) (qa (dv 4) (qa (dv 5) (ret []))))))) jA))))
  (jd (qmT (qd0 2))))))
noncomputable def zY:List D->R D:=dfn 8 1 ut
noncomputable def yp:MS :=
  (qH (qer (zE 1 [] none (yt (qp jz (qa (dv 0) (ret [])))) (ql 0) (ret true) (qp zY (qa (dv 0) (ret [])))) (qpN 2 (qQ (ql 3) (qQ (ql 4) vq))))
  (qH (vn 5 (qgw (ret [])))
  (qH (qdK 6 7 (qa (ret (.int 0)) (qa (d2 qdp (qq vt (qa (dv 4) (ret []))) (ret (.int 1))) (ret []))))
  (qH (qbs (qah (tst (d2 ltD (dv 6) (qq vt (qa (dv 3) (ret []))))) (tst (d2 geD (dv 7) (ret (.int 0))))) (qH (qdK 8 9 (qa (d2 qU (d2 ixD (d2 ixD (dv 3) (dv 6)) (ret (.int 0))) (d2 ixD (d2 ixD (dv 4) (dv 7)) (ret (.int 0)))) (qa (d2 qU (d2 ixD (d2 ixD (dv 3) (dv 6)) (ret (.int 1))) (d2 ixD (d2 ixD (dv 4) (dv 7)) (ret (.int 1)))) (ret []))))
  (qH (jk (zH 5 (qO (qa (dv 6) (qa (dv 7) (ret []))))))
  (qH (sif (qah (tst (d2 leD (dv 8) (dv 1))) (tst (d2 geD (dv 9) (dv 2)))) (jd (qO (qa (qb0 5) (qa (ret (.bl false)) (ret []))))) jA)
  (sif (tst (d2 leD (dv 8) (dv 1))) (zi 6 (d2 qU (dv 6) (ret (.int 1)))) (zi 7 (d2 qdp (dv 7) (ret (.int 1)))))))))
  (jd (qO (qa (qb0 5) (qa (ret (.bl true)) (ret [])))))))))
noncomputable def qJ:List D->R D:=dfn 10 3 yp
noncomputable def jF:MS :=
  (qH (zi 1 (jI (qa (ret .non) (qa (ret (.bl true)) (qa (ret (.bl false)) (qa (d1 qaI (ret (.int 1))) (qa (ret (.str "")) (qa (ret (.str "1")) (qa (qO (qa (ret (.int 0)) (ret []))) (qa (jI (qa (ret (.int 1)) (ret []))) (qa (ret (.dic [(.inr "a",1)])) (qa (qO (qa (d1 qaI (ret (.int 1))) (ret []))) (qa (qO (qa (ret (.bl true)) (ret []))) (qa (qO (qa (qO (qa (ret (.int 1)) (qa (ret (.int 2)) (ret [])))) (ret []))) (qa (qO (qa (ret .non) (ret []))) (qa (d2 qfq (ret (.int 10)) (ret (.int 29))) (ret [])))))))))))))))))
  (qH (zi 1 (d2 qU (dv 1) (jI (qa (qO (qa (ret (.int 1)) (qa (ret (.int 2)) (qa (ret (.int 3)) (ret []))))) (qa (qO (qa (qO (qa (ret (.int 0)) (qa (ret (.int 1)) (qa (ret (.int 1)) (ret []))))) (ret []))) (qa (qO (qa (qO (qa (ret (.int 1)) (qa (d1 qaI (ret (.int 1))) (qa (ret (.int 1)) (ret []))))) (ret []))) (qa (qO (qa (qO (qa (ret (.int 1)) (qa (ret (.int 1)) (qa (d1 qaI (ret (.int 1))) (ret []))))) (ret []))) (qa (jI (qa (qO (qa (ret (.int 1)) (qa (ret (.int 1)) (qa (ret (.int 1)) (ret []))))) (ret []))) (qa (ret (.dic [(.inl 0,1)])) (qa (ret (.str "1/1*1")) (qa (qO (qa (qO (qa (ret (.int 1)) (qa (ret (.int 1)) (qa (ret (.bl true)) (ret []))))) (ret []))) (ret []))))))))))))
  (jd (d2 ixD (dv 1) (qj qg 0 (qa (ret (.int 22)) (ret [])))))))
noncomputable def zw:List D->List D->R (D×List D):=vA 2 1 jF
noncomputable def yx:MS :=
  (qH (zi 2 (qj qg 0 (qa (ret (.int 6)) (ret []))))
  (qH (qdK 3 4 (qa (d2 qU (ret (.int 1)) (qj qg 0 (qa (ret (.int 7)) (ret [])))) (qa (qj qg 0 (qa (ret (.int 10)) (ret []))) (ret []))))
  (qH (sif (tst (d2 eqB (dv 2) (ret (.int 1)))) (zi 4 (d2 uF (ret (.int 2)) (dv 3))) jA)
  (qH (sif (tst (d2 eqB (dv 2) (ret (.int 2)))) (zi 4 (d2 qU (dv 3) (qj qg 0 (qa (ret (.int 3)) (ret []))))) jA)
  (qH (sif (tst (d2 eqB (dv 2) (ret (.int 3)))) (qdK 3 4 (qa (d2 qU (ret (.int 1)) (qj qg 0 (qa (ret (.int 25)) (ret [])))) (qa (qj qg 0 (qa (ret (.int 40)) (ret []))) (ret [])))) jA)
  (qH (zi 5 (d2 ixD (jI (qa (ret (.int 1)) (qa (ret (.int 1)) (qa (ret (.int 1)) (qa (ret (.int 2)) (qa (ret (.int 3)) (qa (ret (.int 0)) (qa (ret (.int 5)) (qa (dv 1) (ret [])))))))))) (qj qg 0 (qa (ret (.int 8)) (ret [])))))
  (jd (qO (qa (dv 3) (qa (dv 4) (qa (dv 5) (ret []))))))))))))
noncomputable def zS:List D->List D->R (D×List D):=vA 6 2 yx
noncomputable def yy:MS :=
  (qH (vn 3 (qgw (ret [])))
  (qH (wy (jC (qa (qj qg 0 (qa (d2 qU (dv 1) (ret (.int 1))) (ret []))) (ret []))) (ql 4) (qH (zi 5 (qj zS 0 (qa (dv 2) (ret []))))
  (qH (sif (qah (tst (qkE 3 (jI (ret [])))) (tst (d2 eqB (qj qg 0 (qa (ret (.int 7)) (ret []))) (ret (.int 6))))) (zi 5 (qeF 3 (qj qg 0 (qa (qdH 3) (ret []))))) jA)
  (jk (zH 3 (dv 5))))))
  (jd (qb0 3))))
noncomputable def jE:List D->List D->R (D×List D):=vA 6 3 yy
noncomputable def jh:MS :=
  (qH (vn 3 (qgw (ret [])))
  (qH (wy (yt (qj jE 0 (qa (dv 1) (qa (ret (.int 1)) (ret []))))) (vN 3 (qQ (ql 4) (qQ (ql 5) (qQ (ql 6) vq)))) (jk (zH 3 (qO (qa (d2 qU (d2 uF (dv 4) (dv 2)) (qj qg 0 (qa (dv 2) (ret [])))) (qa (d2 qU (d2 uF (dv 5) (dv 2)) (qj qg 0 (qa (dv 2) (ret [])))) (qa (qq v3 (qa (dv 6) (qa (ret (.int 1)) (ret [])))) (ret []))))))))
  (jd (qb0 3))))
noncomputable def qY:List D->List D->R (D×List D):=vA 7 3 jh
noncomputable def qaC:MS :=
  (qH (zi 2 (jI (qa (ret (.int 48271)) (qa (ret (.int 69621)) (qa (ret (.int 16807)) (qa (ret (.int 39373)) (qa (ret (.int 30269)) (qa (ret (.int 40014)) (qa (ret (.int 40692)) (qa (ret (.int 50021)) (qa (ret (.int 61687)) (qa (ret (.int 71993)) (qa (ret (.int 83869)) (qa (ret (.int 95561)) (qa (ret (.int 30307)) (ret []))))))))))))))))
  (qH (zi 3 (d2 qU (d2 qU (d2 uF (d2 qU (d2 qku (dv 0) (ret (.int 2147483647))) (ret (.int 12345))) (d2 ixD (dv 2) (d2 qku (dv 1) (ret (.int 13))))) (d2 uF (ret (.int 977)) (dv 1))) (d2 uF (ret (.int 7919)) (d2 ux (dv 1) (ret (.int 13))))))
  (qH (zi 3 (d2 qku (dv 3) (ret (.int 1000000007))))
  (jd (d2 ux (d2 qku (d2 qU (d2 uF (dv 3) (dv 3)) (d2 uF (ret (.int 48271)) (dv 1))) (ret (.int 1000000007))) (ret (.int 7)))))))
noncomputable def ud:List D->R D:=dfn 4 2 qaC
noncomputable def u4:MS :=
  (qH (sif (tst (d2 ltD (dv 1) (qq vt (qa (dv 0) (ret []))))) (jd (d2 ixD (dv 0) (dv 1))) jA)
  (jd (ret (.int 0))))
noncomputable def yq:List D->R D:=dfn 2 2 u4
noncomputable def vT:MS :=
  (qH (zi 2 (qp yq (qa (dv 0) (qa (dv 1) (ret [])))))
  (qH (sif (tst (d2 eqB (d2 qku (dv 2) (ret (.int 2))) (ret (.int 0)))) (jd (jI (qa (d2 ux (qq qo1 (qa (dv 2) (ret []))) (ret (.int 2))) (ret [])))) jA)
  (qH (zi 3 (ret (.int 0)))
  (qH (wy (jC (qa (ret (.int 40)) (ret []))) (ql 4) (zi 3 (d2 qU (d2 uF (dv 3) (ret (.int 142857143))) (qp ud (qa (dv 2) (qa (dv 4) (ret [])))))))
  (jd (jI (qa (dv 3) (ret []))))))))
noncomputable def jU:List D->R D:=dfn 5 2 vT
noncomputable def qmE:MS :=
  (qH (wy (jC (qa (qq qlE (qa (ret (.int 1)) (qa (qq v3 (qa (qq vt (qa (dv 0) (ret []))) (qa (ret (.int 3)) (ret [])))) (ret [])))) (ret []))) (ql 1) (qH (vn 2 (qdM jU (qa (dv 0) (qa (dv 1) (ret [])))))
  (qH (zi 3 (qj qY 2 (qa (ret (.int 8)) (qa (d2 ixD (jI (qa (ret (.int 1)) (qa (ret (.int 1)) (qa (d2 qfq (ret (.int 10)) (ret (.int 20))) (ret []))))) (qj qg 2 (qa (ret (.int 3)) (ret [])))) (ret [])))))
  (qH (zi 4 (qj zw 2 (ret [])))
  (qH (zi 5 (qq qbd (qa (zE 1 [2] (some (1,2)) (yt (dv 3)) (ql 0) (ret true) (qj qg 1 (qa (d2 qU (ret (.int 1)) (d2 ixD (dv 0) (ret (.int 2)))) (ret [])))) (ret []))))
  (qH (qdK 6 7 (qa (qp zh (qa (dv 3) (qa (dv 5) (qa (ret (.int 0)) (ret []))))) (qa (qp zh (qa (dv 3) (qa (dv 5) (qa (ret (.int 1)) (ret []))))) (ret []))))
  (qH (wy (yt (jI (qa (qO (qa (dv 6) (qa (dv 7) (ret [])))) (qa (qO (qa (dv 6) (qa (d2 qU (d2 qU (dv 7) (ret (.int 1))) (qj qg 2 (qa (ret (.int 9)) (ret [])))) (ret [])))) (qa (qO (qa (d2 qU (dv 6) (ret (.int 3))) (qa (d2 qU (d2 uF (ret (.int 2)) (dv 7)) (ret (.int 1))) (ret [])))) (qa (qO (qa (ret (.int 0)) (qa (d1 qaI (ret (.int 1))) (ret [])))) (ret []))))))) (vN 2 (qQ (ql 8) (qQ (ql 9) vq))) (qH (qer (qp qJ (qa (dv 3) (qa (dv 8) (qa (dv 9) (ret []))))) (vN 2 (qQ (ql 10) (qQ (ql 11) vq))))
  (qH (sif (tst (d2 neB (qq zj (qa (jf qx (qa (dv 3) (qa (dv 8) (qa (dv 9) (ret []))))) (ret []))) (qq zj (qa (d2 ixD (jI (qa (ret .non) (qa (dv 10) (ret [])))) (qq qal (qa (dv 11) (ret [])))) (ret []))))) (jd (ret (.bl false))) jA)
  (wy (yt (d2 qU (jI (qa (dv 10) (qa (dv 4) (qa (qO (ret [])) (ret []))))) (zE 1 [2,10,4] (some (1,2)) (jC (qa (ret (.int 2)) (ret []))) (ql 0) (ret true) (qj qT 1 (qa (dv 2) (qa (dv 3) (ret []))))))) (ql 12) (qH (zi 13 (qq zj (qa (dv 12) (ret []))))
  (qH (zi 14 (qaR (dv 11) (d2 eqB (qq zj (qa (dv 12) (ret []))) (qq zj (qa (dv 10) (ret []))))))
  (sif (tor (wE (tst (qp qX (qa (jf qI (qa (dv 12) (qa (dv 3) (qa (dv 8) (qa (dv 9) (ret [])))))) (qa (dv 14) (ret [])))))) (tst (d2 neB (qq zj (qa (dv 12) (ret []))) (dv 13)))) (jd (ret (.bl false))) jA)))))))
  (qH (zi 15 (d2 qU (dv 3) (qO (qa (qO (qa (ret (.int 1)) (qa (ret (.int 1)) (qa (ret (.int 2)) (ret []))))) (ret [])))))
  (qH (sif (tor (tst (d2 neB (qp zg (qa (dv 15) (qa (ret (.int 0)) (qa (ret (.int 0)) (ret []))))) (ret (.str "single")))) (tst (d2 neB (qp zg (qa (dv 15) (qa (d1 qaI (ret (.int 1))) (qa (ret (.int 0)) (ret []))))) (ret (.str "number"))))) (jd (ret (.bl false))) jA)
  (sif (tst (d2 neB (qp zg (qa (dv 15) (qa (ret (.int 0)) (qa (ret .non) (ret []))))) (ret (.str "number")))) (jd (ret (.bl false))) jA))))))))))
  (jd (ret (.bl true))))
noncomputable def qe1:List D->R D:=dfn 16 1 qmE
local macro_rules | `(tactic| push_cast [$xs,*]) => `(tactic| simp only [yL, vB, qqj, j4, wO, qch, qkG, qo2, qpD, qbn, wP, qfs, ql3, qaJ, qbo, qdN, qgz, qft, ql4, qkH, qn4, qjD, qdO, wQ, qhP, v9, qkJ, qhQ, qdP, yS, qbp, qhR, qhS, vC, qhT, qhU, qhV, qhW, qhX, qkK, wR, qn5, qaq, lC_, lN_, mC_, List.map_nil, List.replicate, List.nil_append, List.cons_append, List.append_nil, List.getElem?_cons_zero, List.getElem?_cons_succ, List.set_cons_zero, List.set_cons_succ, Nat.reduceAdd, Nat.reduceSub, Nat.sub_self, Nat.zero_add, reduceIte, Bool.not_true, Bool.not_false, Bool.false_eq_true, if_true, if_false, ite_true, ite_false, cond_true, cond_false, decide_true, decide_false, ix0, ix1, ix2, wd, j6, qeS, qbC, qd1, qeT, wf, wj, qcU, qkW, qkX, wU, qaW, qfB, qkR, qh5, qhY, $xs,*])
theorem ya (d:D):jy [d]=.ok (.bl (yO d)):=by
 unfold jy qay
 refine qai rfl ⟨[some d],?_⟩
 push_cast []
 cases d<;>rfl
theorem yb (d:D):yo [d]=.ok (.bl (j7 d)):=by
 unfold yo qaz
 refine qai rfl ⟨[some d],?_⟩
 push_cast []
 rw[ya]
 cases d<;>rfl
theorem qeb (d:D):vJ [d]=.ok (.bl (vW d)):=by
 unfold vJ qbN
 refine qai rfl ⟨[some d],?_⟩
 cases d with
 | tup ds=>
  by_cases h:ds.length=3
  ·obtain ⟨a,b,c,rfl⟩:=qq8 h
   refine(qi (Z':=[some (.tup [a,b,c])]) rfl).trans ?_
   by_cases hp:qij a=true
   ·refine (qi (Z':=[some (.tup [a,b,c])]) ?_).trans ?_
    ·cases a with
     |int i=>
      have h2:0<i:=of_decide_eq_true hp
      have h0:0<=i:=by omega
      have h1:¬i=0:=by omega
      push_cast [ix0,yb,j7,qbC,qaJ,h0,h1,decide_true,decide_false]
     |_=>exact absurd hp (by simp[qij])
    ·push_cast [ix1,ix2,yb,qd1,vW,hp,qaJ,ybu]
     cases hb:j7 b<;>cases hc:ve c<;>rfl
   ·refine (vh (d:=.bl false) (Z':=[some (.tup [a,b,c])]) ?_).trans ?_
    ·cases a with
     | int i=>
      have h2:¬0<i:=λz=>hp (decide_eq_true z)
      push_cast [ix0,yb,j7,qbC,qaJ]
      by_cases h0:0<=i
      ·have h1:i=0:=by omega
       subst h1;rfl
      ·simp only[h0,decide_false]
       rfl
     |_=>rfl
    ·have hp':qij a=false:=by simpa using hp
     simp only[vW,hp',ydj]
  ·refine (vh (d:=.bl false) (Z':=[some (.tup ds)]) ?_).trans ?_
   ·push_cast []
    have h3:¬((ds.length:Int)=3):=by omega
    simp only[wd,j6,qeS,h3,decide_false,qaJ]
    rfl
   ·rw[qgN h]
 |_=>rfl
theorem qdb (d:D):vS [d]=.ok (.bl (uG d)):=by
 unfold vS qaA
 refine qai rfl ⟨[some d],?_⟩
 cases d with
 | tup ds=>
  by_cases h:ds.length<=12
  ·have h2:¬((12:Int)<(ds.length:Int)):=by omega
   refine(qi (Z':=[some (.tup ds)]) ?_).trans ?_
   ·push_cast [wd,j6,wf,h2,decide_false,qaJ]
   ·rw[qdO,qmr (F:=vJ) (f:=vW) (xs:=yt (dv 0)) (ds:=ds) (Z:=[some (.tup ds)]) rfl (λd _=>qeb d) (by omega)]
    simp only[uG,h,decide_true,ybu]
  ·have h2:((12:Int)<(ds.length:Int)):=by omega
   refine(vh (d:=.bl false) (Z':=[some (.tup ds)]) ?_).trans ?_
   ·push_cast [wd,j6,wf,h2,decide_true,qaJ]
   ·simp only[uG,h,decide_false,ydj]
 |_=>rfl
theorem sm1:zp 1=true:=zf (by omega)
theorem z7 (d:D) (h:uG d=true):yG [d]=.ok .non:=by
 unfold yG
 refine qfC rfl ⟨[some d],?_⟩
 unfold uE
 push_cast [qdb,h]
theorem u5 (d:D) (h:j7 d=true):js [d]=.ok .non:=by
 unfold js
 refine qfC rfl ⟨[some d],?_⟩
 unfold yJ
 push_cast [yb,h]
theorem qec (d:D) (h:j7 d=false):js [d]=.exc ⟨"NoNumber",.non⟩ [some d]:=by
 unfold js
 refine qaK rfl ?_
 unfold yJ
 push_cast [yb,h,sm1]
theorem u6 (d:D) (h:yO d=true):jS [d]=.ok .non:=by
 unfold jS
 refine qfC rfl ⟨[some d],?_⟩
 unfold yI
 push_cast [ya,h]
theorem qed (d:D) (h:yO d=false):jS [d]=.exc ⟨"NoNumber",.non⟩ [some d]:=by
 unfold jS
 refine qaK rfl ?_
 unfold yI
 push_cast [ya,h,sm1]
theorem qpV {p:MS} {F:List D->R D} {Z Z':Env} {d v:D} {n:Str} (h:p Z=.exc ⟨n,v⟩ Z') (hn:RN.contains n=true) (hF:F [.exc n]=.ok d):qiZ RN p F Z=.ok (.rt d Z'):=by
 rw[qof,h]
 simp only[hn,if_true,hF]
theorem qbO (a b:Bool):qX [.bl a,.bl b]=.ok (.bl (a==b)):=by
 unfold qX vK
 refine qai rfl ⟨[some (.bl a),some (.bl b)],?_⟩
 push_cast []
 cases a<;>cases b<;>rfl
theorem je {n m:Int} (h0:0<m) (h1:m<1606938044258990275541962092341162602522202993782792835301376):qg [.int n] [.int m]=.ok (.int (n%m),[.int (n/m)]):=by
 unfold qg
 refine qbr (Z:=[some (.lst [.int (n/m)]),some (.int m),some (.int (n/m)),some (.int (n%m))]) rfl ?_ rfl
 unfold u0
 refine(qi (Z':=[some (.lst [.int n]),some (.int m),some (.int (n/m)),some (.int (n%m))]) ?_).trans ?_
 ·push_cast [at0,qik h0 h1,vN,qQ,ql,vq,yd7]
 ·refine(qi (Z':=[some (.lst [.int (n/m)]),some (.int m),some (.int (n/m)),some (.int (n%m))]) ?_).trans rfl
  push_cast [qq9,imm]
theorem qgU (n:Int) (c:D):∃a b m n',zS [.int n] [c]=.ok (.tup [.int a,.int b,m],[.int n'])/\1<=a/\a<=25/\0<=b/\b<=39/\qj0 c m:=by
 have s2:∀n k:Int,∃n' a b,(qdK 3 4 (qa (d2 qU (ret (.int 1)) (qj qg 0 (qa (ret (.int 7)) (ret [])))) (qa (qj qg 0 (qa (ret (.int 10)) (ret []))) (ret [])))) [some (.lst [.int n]),some c,some (.int k),none,none,none]=.ok (.nx [some (.lst [.int n']),some c,some (.int k),some (.int a),some (.int b),none])/\1<=a/\a<=7/\0<=b/\b<=9:=by
  intro n k
  refine⟨n/7/10,1+n%7,n/7%10,?_,by omega,by omega,by omega,by omega⟩
  push_cast [je (m:=7) (by decide) (by decide),je (m:=10) (by decide) (by decide),zx]
 have s3:∀n k a b:Int,1<=a->a<=7->0<=b->b<=9->∃b',(sif (tst (d2 eqB (dv 2) (ret (.int 1)))) (zi 4 (d2 uF (ret (.int 2)) (dv 3))) jA) [some (.lst [.int n]),some c,some (.int k),some (.int a),some (.int b),none]=.ok (.nx [some (.lst [.int n]),some c,some (.int k),some (.int a),some (.int b'),none])/\0<=b'/\b'<=14:=by
  intro n k a b h1 h2 h3 h4
  by_cases hk:k=1
  ·refine⟨2*a,?_,by omega,by omega⟩
   push_cast [hk,qra]
  ·refine⟨b,?_,by omega,by omega⟩
   push_cast [hk]
 have s4:∀n k a b:Int,1<=a->a<=7->0<=b->b<=14->∃n' b',(sif (tst (d2 eqB (dv 2) (ret (.int 2)))) (zi 4 (d2 qU (dv 3) (qj qg 0 (qa (ret (.int 3)) (ret []))))) jA) [some (.lst [.int n]),some c,some (.int k),some (.int a),some (.int b),none]=.ok (.nx [some (.lst [.int n']),some c,some (.int k),some (.int a),some (.int b'),none])/\0<=b'/\b'<=14:=by
  intro n k a b h1 h2 h3 h4
  by_cases hk:k=2
  ·refine⟨n/3,a+n%3,?_,by omega,by omega⟩
   push_cast [hk,zx,je (m:=3) (by decide) (by decide)]
  ·refine⟨n,b,?_,by omega,by omega⟩
   push_cast [hk]
 have s5:∀n k a b:Int,1<=a->a<=7->0<=b->b<=14->∃n' a' b',(sif (tst (d2 eqB (dv 2) (ret (.int 3)))) (qdK 3 4 (qa (d2 qU (ret (.int 1)) (qj qg 0 (qa (ret (.int 25)) (ret [])))) (qa (qj qg 0 (qa (ret (.int 40)) (ret []))) (ret [])))) jA) [some (.lst [.int n]),some c,some (.int k),some (.int a),some (.int b),none]=.ok (.nx [some (.lst [.int n']),some c,some (.int k),some (.int a'),some (.int b'),none])/\1<=a'/\a'<=25/\0<=b'/\b'<=39:=by
  intro n k a b h1 h2 h3 h4
  by_cases hk:k=3
  ·refine⟨n/25/40,1+n%25,n/25%40,?_,by omega,by omega,by omega,by omega⟩
   push_cast [hk,zx,je (m:=25) (by decide) (by decide),je (m:=40) (by decide) (by decide)]
  ·refine⟨n,a,b,?_,by omega,by omega,by omega,by omega⟩
   push_cast [hk]
 have s6:∀n k a b:Int,∃n' m,(zi 5 (d2 ixD (jI (qa (ret (.int 1)) (qa (ret (.int 1)) (qa (ret (.int 1)) (qa (ret (.int 2)) (qa (ret (.int 3)) (qa (ret (.int 0)) (qa (ret (.int 5)) (qa (dv 1) (ret [])))))))))) (qj qg 0 (qa (ret (.int 8)) (ret []))))) [some (.lst [.int n]),some c,some (.int k),some (.int a),some (.int b),none]=.ok (.nx [some (.lst [.int n']),some c,some (.int k),some (.int a),some (.int b),some m])/\qj0 c m:=by
  intro n k a b
  obtain⟨m,hm,e⟩:=qco (ds:=[.int 1,.int 1,.int 1,.int 2,.int 3,.int 0,.int 5,c]) (k:=n%8) (by omega) (by simp;omega)
  refine⟨n/8,m,?_,?_⟩
  ·push_cast [je (m:=8) (by decide) (by decide),zf (show 8<=1000000 by omega),e]
  ·simp only[yax,nN_,or_false]at hm
   rcases hm with h|h|h|h|h|h|h|h
   ·exact .inr ⟨_,h,by omega,by omega⟩
   ·exact .inr ⟨_,h,by omega,by omega⟩
   ·exact .inr ⟨_,h,by omega,by omega⟩
   ·exact .inr ⟨_,h,by omega,by omega⟩
   ·exact .inr ⟨_,h,by omega,by omega⟩
   ·exact .inr ⟨_,h,by omega,by omega⟩
   ·exact .inr ⟨_,h,by omega,by omega⟩
   ·exact .inl h
 obtain⟨n2,a2,b2,e2,p2,q2,r2,t2⟩:=s2 (n/6) (n%6)
 obtain⟨b3,e3,r3,t3⟩:=s3 n2 (n%6) a2 b2 p2 q2 r2 t2
 obtain⟨n4,b4,e4,r4,t4⟩:=s4 n2 (n%6) a2 b3 p2 q2 r3 t3
 obtain⟨n5,a5,b5,e5,p5,q5,r5,t5⟩:=s5 n4 (n%6) a2 b4 p2 q2 r4 t4
 obtain⟨n6,m,e6,g6⟩:=s6 n5 (n%6) a5 b5
 refine⟨a5,b5,m,n6,?_,p5,q5,r5,t5,g6⟩
 unfold zS
 refine qbr (Z:=[some (.lst [.int n6]),some c,some (.int (n%6)),some (.int a5),some (.int b5),some m]) rfl ?_ rfl
 unfold yx
 refine(qi (Z':=[some (.lst [.int (n/6)]),some c,some (.int (n%6)),none,none,none]) ?_).trans ?_
 ·push_cast [je (m:=6) (by decide) (by decide)]
 refine(qi e2).trans ?_
 refine(qi e3).trans ?_
 refine(qi e4).trans ?_
 refine(qi e5).trans ?_
 refine(qi e6).trans ?_
 push_cast [zf (show 3<=1000000 by omega)]
theorem qmF (ns:List Int) (i:Int) (h0:0<=i):∃x,yq [.fz ns,.int i]=.ok (.int x):=by
 by_cases h:i<ns.length
 ·obtain ⟨j,rfl⟩:=ybZ h0
  have hj:j<ns.length:=by omega
  have e:ixD (.fz ns) (.int (j:Int))=some (.int ns[j]):=by
   show(atI ns (j:Int)).map D.int=_
   unfold atI ixN
   rw[if_pos (by omega),if_pos (by omega)]
   show(ns[(j:Int).toNat]?).map D.int=_
   rw[ybD,gG hj];rfl
  refine⟨ns[j],?_⟩
  unfold yq u4
  refine qai rfl ⟨[some (.fz ns),some (.int (j:Int))],?_⟩
  refine(vh (d:=.int ns[j]) (Z':=[some (.fz ns),some (.int (j:Int))]) ?_)
  push_cast [e,vt,h]
 ·refine⟨0,?_⟩
  unfold yq u4
  refine qai rfl ⟨[some (.fz ns),some (.int i)],?_⟩
  refine(qi (Z':=[some (.fz ns),some (.int i)]) ?_).trans rfl
  push_cast [vt,h]
theorem qoI (x j:Int) (h0:0<=j) (h1:j<40):∃v,ud [.int x,.int j]=.ok (.int v):=by
 obtain⟨m,hm,e⟩:=qco (ds:=[.int 48271,.int 69621,.int 16807,.int 39373,.int 30269,.int 40014,.int 40692,.int 50021,.int 61687,.int 71993,.int 83869,.int 95561,.int 30307]) (k:=j%13) (by omega) (by simp;omega)
 have hm2:∃c,m=.int c/\uf c=true:=by
  have:m∈facts.map D.int:=hm
  obtain⟨c,hc,rfl⟩:=mP_.mp this
  exact⟨c,rfl,List.all_eq_true.mp (show facts.all uf=true by decide) c hc⟩
 obtain⟨c,rfl,hc⟩:=hm2
 have f3:∀s:Int,uf (s%1000000007)=true:=λs=>wm (by omega) (by omega)
 have f977:uf 977=true:=by decide
 have f79:uf 7919=true:=by decide
 have f48:uf 48271=true:=by decide
 let L:D:=.lst [.int 48271,.int 69621,.int 16807,.int 39373,.int 30269,.int 40014,.int 40692,.int 50021,.int 61687,.int 71993,.int 83869,.int 95561,.int 30307]
 let s1:Int:=(x%2147483647+12345)*c+977*j+7919*(j/13)
 let s2:Int:=s1%1000000007
 refine⟨(s2*s2+48271*j)%1000000007/7,?_⟩
 unfold ud qaC
 refine qai rfl ⟨[some (.int x),some (.int j),some L,some (.int s2)],?_⟩
 refine(qi (Z':=[some (.int x),some (.int j),some L,none]) ?_).trans ?_
 ·push_cast [zf (show 13<=1000000 by omega)]
  rfl
 refine(qi (Z':=[some (.int x),some (.int j),some L,some (.int s1)]) ?_).trans ?_
 ·push_cast [L,vQ (j:=2147483647) (by decide),vQ (j:=13) (by decide),zx,e,qj2 hc,qd3 f977,qd3 f79,ul (j:=13) (by decide) (by decide)]
  rfl
 refine(qi (Z':=[some (.int x),some (.int j),some L,some (.int s2)]) ?_).trans ?_
 ·push_cast [vQ (j:=1000000007) (by decide),s2]
 ·push_cast [vQ (j:=1000000007) (by decide),s2,zx,qd3 (f3 _),qd3 f48,ul (j:=7) (by decide) (by decide)]
theorem qf6 (A B:OD) (x:Int):∀(ds:List D)(s:Int)(o:OD),(∀d∈ds,∃j:Int,d=.int j/\0<=j/\j<40)->∃s' o',uS (ql 4) (zi 3 (d2 qU (d2 uF (dv 3) (ret (.int 142857143))) (qp ud (qa (dv 2) (qa (dv 4) (ret [])))))) ds [A,B,some (.int x),some (.int s),o]=.ok (.nx [A,B,some (.int x),some (.int s'),o'])
 | [],s,o,_=>⟨s,o,rfl⟩
 | d::ds,s,o,h=>by
  obtain⟨j,rfl,h0,h1⟩:=h d mS_
  obtain⟨v,e⟩:=qoI x j h0 h1
  obtain⟨s',o',q⟩:=qf6 A B x ds (s*142857143+v) (some (.int j)) λy hy=>h y (mM _ hy)
  refine⟨s',o',?_⟩
  have st:(zi 3 (d2 qU (d2 uF (dv 3) (ret (.int 142857143))) (qp ud (qa (dv 2) (qa (dv 4) (ret [])))))) [A,B,some (.int x),some (.int s),some (.int j)]=.ok (.nx [A,B,some (.int x),some (.int (s*142857143+v)),some (.int j)]):=by
   push_cast [e,qj2 (j:=142857143) (by decide),zx]
  unfold uS
  simp only[ql,ybm,ydz,st]
  exact q
theorem qoJ (ns:List Int) (i:Int) (h0:0<=i):∃n,jU [.fz ns,.int i]=.ok (.lst [.int n]):=by
 obtain⟨x,e⟩:=qmF ns i h0
 have s1:(zi 2 (qp yq (qa (dv 0) (qa (dv 1) (ret []))))) [some (.fz ns),some (.int i),none,none,none]=.ok (.nx [some (.fz ns),some (.int i),some (.int x),none,none]):=by
  push_cast [e]
 by_cases hx:x%2=0
 ·refine⟨(if x<0 then -x else x)/2,?_⟩
  unfold jU vT
  refine qai rfl ⟨[some (.fz ns),some (.int i),some (.int x),none,none],?_⟩
  refine(qi s1).trans (vh ?_)
  push_cast [vQ (j:=2) (by decide),hx,qo1,ul (j:=2) (by decide) (by decide),zf (show 1<=1000000 by omega)]
 ·obtain ⟨s',o',q⟩:=qf6 (some (.fz ns)) (some (.int i)) x (qcJ 0 40) 0 none λd hd=>by
   unfold qcJ at hd
   obtain⟨k,hk,rfl⟩:=mP_.mp hd
   have hk':=mR_.mp hk
   exact⟨_,rfl,by omega,by omega⟩
  refine⟨s',?_⟩
  unfold jU vT
  refine qai rfl ⟨[some (.fz ns),some (.int i),some (.int x),some (.int s'),o'],?_⟩
  refine(qi s1).trans ?_
  refine(qi (Z':=[some (.fz ns),some (.int i),some (.int x),none,none]) ?_).trans ?_
  ·push_cast [vQ (j:=2) (by decide),hx]
  refine(qi (Z':=[some (.fz ns),some (.int i),some (.int x),some (.int 0),none]) ?_).trans ?_
  ·push_cast []
  refine(qi (Z':=[some (.fz ns),some (.int i),some (.int x),some (.int s'),o']) ?_).trans ?_
  ·rw[yS,uV (j:=40) (Z1:=[some (.fz ns),some (.int i),some (.int x),some (.int 0),none]) rfl (by omega) (by omega)]
   exact q
  ·push_cast [zf (show 1<=1000000 by omega)]
def gdH(k:D):Prop:=uW k/\∃a b j,k=.tup [.int a,.int b,.int j]
theorem qoK {a b:Int} {m:D} (h1:1<=a) (h2:a<=25) (h3:0<=b) (h4:b<=39) (g:qj0 (.int 1) m):gdH (.tup [.int a,.int b,m]):=by
 rcases g with rfl|⟨j,rfl,j0,j1⟩
 ·exact⟨⟨a,b,_,rfl,h1,h2,h3,h4,.inr ⟨1,rfl,by omega,by omega⟩⟩,a,b,1,rfl⟩
 ·exact⟨⟨a,b,_,rfl,h1,h2,h3,h4,.inr ⟨j,rfl,j0,j1⟩⟩,a,b,j,rfl⟩
theorem qe2 (M:Int) (n:Int) (ks:List D) (o4 o5:OD) (h:∀k∈ks,gdH k) (hl:ks.length<=12):∃n' k',gdH k'/\(qH (zi 5 (qj zS 0 (qa (dv 2) (ret [])))) (qH (sif (qah (tst (qkE 3 (jI (ret [])))) (tst (d2 eqB (qj qg 0 (qa (ret (.int 7)) (ret []))) (ret (.int 6))))) (zi 5 (qeF 3 (qj qg 0 (qa (qdH 3) (ret []))))) jA) (jk (zH 3 (dv 5))))) [some (.lst [.int n]),some (.int M),some (.int 1),some (.lst ks),o4,o5]=.ok (.nx [some (.lst [.int n']),some (.int M),some (.int 1),some (.lst (ks++[k'])),o4,some k']):=by
 obtain⟨a,b,m,n1,e1,p1,p2,p3,p4,p5⟩:=qgU n (.int 1)
 have gk:gdH (.tup [.int a,.int b,m]):=qoK p1 p2 p3 p4 p5
 obtain⟨b0,eb,hb⟩:=qeU λk hk=>(h k hk).1
 have s1:(zi 5 (qj zS 0 (qa (dv 2) (ret [])))) [some (.lst [.int n]),some (.int M),some (.int 1),some (.lst ks),o4,o5]=.ok (.nx [some (.lst [.int n1]),some (.int M),some (.int 1),some (.lst ks),o4,some (.tup [.int a,.int b,m])]):=by
  push_cast [e1]
 have s2:∃n' k',gdH k'/\(sif (qah (tst (qkE 3 (jI (ret [])))) (tst (d2 eqB (qj qg 0 (qa (ret (.int 7)) (ret []))) (ret (.int 6))))) (zi 5 (qeF 3 (qj qg 0 (qa (qdH 3) (ret []))))) jA) [some (.lst [.int n1]),some (.int M),some (.int 1),some (.lst ks),o4,some (.tup [.int a,.int b,m])]=.ok (.nx [some (.lst [.int n']),some (.int M),some (.int 1),some (.lst ks),o4,some k']):=by
  cases b0 with
  |false=>
   refine⟨n1,_,gk,?_⟩
   push_cast [eb,zf (show 0<=1000000 by omega)]
  | true=>
   have hne:=hb rfl
   have hpos:0<ks.length:=List.length_pos_iff.mpr hne
   by_cases h6:n1%7=6
   ·obtain⟨k',hk',e⟩:=qow (ds:=ks) (k:=n1/7%(ks.length:Int)) (yca _ (by omega)) (ybN _ (by omega))
    refine⟨n1/7/(ks.length:Int),k',h k' hk',?_⟩
    push_cast [eb,zf (show 0<=1000000 by omega),je (m:=7) (by decide) (by decide),h6,je (m:=(ks.length:Int)) (by omega) (by omega),e]
   ·refine⟨n1/7,_,gk,?_⟩
    push_cast [eb,zf (show 0<=1000000 by omega),je (m:=7) (by decide) (by decide),h6]
 obtain⟨n2,k',gk',e2⟩:=s2
 refine⟨n2,k',gk',?_⟩
 refine(qi s1).trans ((qi e2).trans ?_)
 push_cast [gk'.1.imm,zf (show ks.length+1<=1000000 by omega),yaF]
theorem qbP (M:Nat) (hM:M<=12):∀(ds:List D)(n:Int)(ks:List D)(o4 o5:OD),(∀k∈ks,gdH k)->ks.length+ds.length<=M ->
  ∃n' ks' o4' o5',uS (ql 4) (qH (zi 5 (qj zS 0 (qa (dv 2) (ret [])))) (qH (sif (qah (tst (qkE 3 (jI (ret [])))) (tst (d2 eqB (qj qg 0 (qa (ret (.int 7)) (ret []))) (ret (.int 6))))) (zi 5 (qeF 3 (qj qg 0 (qa (qdH 3) (ret []))))) jA) (jk (zH 3 (dv 5))))) ds [some (.lst [.int n]),some (.int M),some (.int 1),some (.lst ks),o4,o5]=.ok (.nx [some (.lst [.int n']),some (.int M),some (.int 1),some (.lst ks'),o4',o5'])/\(∀k∈ks',gdH k)/\ks'.length<=M
 | [],n,ks,o4,o5,h,hl=>⟨n,ks,o4,o5,rfl,h,by simpa using hl⟩
 | d::ds,n,ks,o4,o5,h,hl=>by
  have hl':ks.length+(ds.length+1)<=M:=hl
  obtain⟨n1,k',gk,e⟩:=qe2 M n ks (some d) o5 h (by omega)
  obtain ⟨n',ks',o4',o5',q,g,l⟩:=qbP M hM ds n1 (ks++[k']) (some d) (some k') (λx hx=>(mA_.mp hx).elim (h x) λhx=>by
   rw[ms_]at hx;subst hx;exact gk) (by rw[lA_,yau];omega)
  exact⟨n',ks',o4',o5',(qbF rfl e).trans q,g,l⟩
theorem qiF (M:Nat) (hM:M<=12) (n:Int):∃ks n',jE [.int n] [.int M,.int 1]=.ok (.tup ks,[.int n'])/\(∀k∈ks,gdH k)/\ks.length<=M:=by
 have hm0:0<=n%((M:Int)+1):=yca _ (by omega)
 have hm1:n%((M:Int)+1)<(M:Int)+1:=ybN _ (by omega)
 obtain⟨n',ks',o4',o5',q,g,l⟩:=qbP M hM (qcJ 0 (n%((M:Int)+1)).toNat) (n/((M:Int)+1)) [] none none (λ_ h=>by cases h) (by rw[qj1];simp;omega)
 refine⟨ks',n',?_,g,l⟩
 unfold jE
 refine qbr (Z:=[some (.lst [.int n']),some (.int M),some (.int 1),some (.lst ks'),o4',o5']) rfl ?_ rfl
 unfold yy
 refine(qi (Z':=[some (.lst [.int n]),some (.int M),some (.int 1),some (.lst []),none,none]) ?_).trans ?_
 ·push_cast [immL,zf (show 0<=1000000 by omega),yaF]
 refine(qi (Z':=[some (.lst [.int n']),some (.int M),some (.int 1),some (.lst ks'),o4',o5']) ?_).trans ?_
 ·rw[yS,uV (j:=n%((M:Int)+1)) (Z1:=[some (.lst [.int (n/((M:Int)+1))]),some (.int M),some (.int 1),some (.lst []),none,none]) ?_ hm0 (by omega)]
  ·exact q
  ·push_cast [zx,je (m:=(M:Int)+1) (by omega) (by omega)]
 ·push_cast []
def kw(k:Kw):D:=.tup [.int k.w,.int k.v,mD k.m]
def sgB(G:Int)(k:Kw):Prop:=sgK k/\k.w<=26*G/\k.v<=40*G
theorem qoL(k:Kw):ixD (kw k) (.int 0)=some (.int k.w):=rfl
theorem qoM(k:Kw):ixD (kw k) (.int 1)=some (.int k.v):=rfl
theorem qoN(k:Kw):ixD (kw k) (.int 2)=some (mD k.m):=rfl
theorem qoO (k:Kw):imm (kw k)=true:=by
 obtain⟨w,v,m⟩:=k
 cases m<;>rfl
theorem qbQ {M:D} {G:Int} (g0:1<=G) (g1:G<=100000000000000000000):∀(ds:List D)(n:Int)(ks:List Kw)(o4 o5 o6:OD),(∀d∈ds,gdH d)->(∀k∈ks,sgB G k)->ks.length+ds.length<=12 ->
  ∃(n':Int)(ks':List Kw)(o4' o5' o6':OD),uS (vN 3 (qQ (ql 4) (qQ (ql 5) (qQ (ql 6) vq)))) (jk (zH 3 (qO (qa (d2 qU (d2 uF (dv 4) (dv 2)) (qj qg 0 (qa (dv 2) (ret [])))) (qa (d2 qU (d2 uF (dv 5) (dv 2)) (qj qg 0 (qa (dv 2) (ret [])))) (qa (qq v3 (qa (dv 6) (qa (ret (.int 1)) (ret [])))) (ret []))))))) ds [some (.lst [.int n]),some M,some (.int G),some (.lst (ks.map kw)),o4,o5,o6]=.ok (.nx [some (.lst [.int n']),some M,some (.int G),some (.lst (ks'.map kw)),o4',o5',o6'])/\(∀k∈ks',sgB G k)/\ks'.length=ks.length+ds.length
 | [],n,ks,o4,o5,o6,_,h,_=>⟨n,ks,o4,o5,o6,rfl,h,rfl⟩
 | d :: ds,n,ks,o4,o5,o6,hd,h,hl=>by
  have hl':ks.length+(ds.length+1)<=12:=hl
  obtain⟨⟨a,b,m,e0,a1,a2,b1,b2,gm⟩,a',b',j,e1⟩:=hd d mS_
  rw[e1]at e0
  injection e0 with e0
  injection e0 with q1 e0
  injection e0 with q2 e0
  injection e0 with q3 e0
  injection q1 with q1
  injection q2 with q2
  subst q1 q2 q3
  subst e1
  have hj:0<=j:=by
   rcases gm with g|⟨i,g,i0,_⟩
   ·cases g
   ·cases g;exact i0
  have gb:G<1606938044258990275541962092341162602522202993782792835301376:=by omega
  have r0:0<=n%G:=yca _ (by omega)
  have r1:n%G<G:=ybN _ (by omega)
  have s0:0<=n/G%G:=yca _ (by omega)
  have s1:n/G%G<G:=ybN _ (by omega)
  have aG:1*G<=a'*G:=ycb a1 (by omega)
  have aG2:a'*G<=25*G:=ycb a2 (by omega)
  have bG:0<=b'*G:=ydo b1 (by omega)
  have bG2:b'*G<=39*G:=ycb b2 (by omega)
  let k:Kw:=⟨a'*G+n%G,b'*G+n/G%G,some (if 1<j then 1 else j)⟩
  have hk:sgB G k:=by
   refine⟨⟨by show 1<=a'*G+n%G;omega,by show 0<=b'*G+n/G%G;omega,?_⟩,by show a'*G+n%G<=26*G;omega,by show b'*G+n/G%G<=40*G;omega⟩
   by_cases c:j=0
   ·left
    show some (if 1<j then 1 else j)=some 0
    rw[if_neg (by omega),c]
   ·right
    show some (if 1<j then 1 else j)=some 1
    congr 1
    split<;>omega
  have st:(jk (zH 3 (qO (qa (d2 qU (d2 uF (dv 4) (dv 2)) (qj qg 0 (qa (dv 2) (ret [])))) (qa (d2 qU (d2 uF (dv 5) (dv 2)) (qj qg 0 (qa (dv 2) (ret [])))) (qa (qq v3 (qa (dv 6) (qa (ret (.int 1)) (ret [])))) (ret []))))))) [some (.lst [.int n]),some M,some (.int G),some (.lst (ks.map kw)),some (.int a'),some (.int b'),some (.int j)]=.ok (.nx [some (.lst [.int (n/G/G)]),some M,some (.int G),some (.lst ((ks++[k]).map kw)),some (.int a'),some (.int b'),some (.int j)]):=by
   have c1:qO (qa (d2 qU (d2 uF (dv 4) (dv 2)) (qj qg 0 (qa (dv 2) (ret [])))) (qa (d2 qU (d2 uF (dv 5) (dv 2)) (qj qg 0 (qa (dv 2) (ret [])))) (qa (qq v3 (qa (dv 6) (qa (ret (.int 1)) (ret [])))) (ret [])))) [some (.lst [.int n]),some M,some (.int G),some (.lst (ks.map kw)),some (.int a'),some (.int b'),some (.int j)]=.ok (kw k,[some (.lst [.int (n/G/G)]),some M,some (.int G),some (.lst (ks.map kw)),some (.int a'),some (.int b'),some (.int j)]):=by
    push_cast [qd3 (wm (show 0<=a' by omega) (by omega)),qd3 (wm (show 0<=b' by omega) (by omega)),je (m:=G) (by omega) gb,zx,qfQ,zf (show 3<=1000000 by omega)]
    rfl
   rw[v9,wR]
   simp only[zM,List.getElem?_cons_zero,List.getElem?_cons_succ,c1]
   simp only[zM,List.getElem?_cons_zero,List.getElem?_cons_succ,qoO,lM_,zf (show ks.length+1<=1000000 by omega),yaF,if_true,yaR,mC_,ybJ,ybm,ydz]
  obtain ⟨n',ks',o4',o5',o6',q,g,l⟩:=qbQ g0 g1 ds (n/G/G) (ks++[k]) (some (.int a')) (some (.int b')) (some (.int j)) (λx hx=>hd x (mM _ hx)) (λx hx=>(mA_.mp hx).elim (h x) λhx=>by
   rw[ms_]at hx;subst hx;exact hk) (by rw[lA_,yau];omega)
  refine⟨n',ks',o4',o5',o6',(qbF rfl st).trans q,g,?_⟩
  rw[l,lA_,yau,lC_]
  omega
theorem qiG (M:Nat) (hM:M<=12) {G:Int} (g0:1<=G) (g1:G<=100000000000000000000) (n:Int):∃(ks:List Kw)(n':Int),qY [.int n] [.int M,.int G]=.ok (.tup (ks.map kw),[.int n'])/\(∀k∈ks,sgB G k)/\ks.length<=M:=by
 obtain⟨ds,n1,e1,hd,hl⟩:=qiF M hM n
 obtain⟨n',ks,o4,o5,o6,q,g,l⟩:=qbQ (M:=.int M) g0 g1 ds n1 [] none none none hd (λk hk=>by cases hk) (by simp;omega)
 refine⟨ks,n',?_,g,by rw[l];simpa using hl⟩
 unfold qY
 refine qbr (Z:=[some (.lst [.int n']),some (.int M),some (.int G),some (.lst (ks.map kw)),o4,o5,o6]) rfl ?_ rfl
 unfold jh
 refine(qi (Z':=[some (.lst [.int n]),some (.int M),some (.int G),some (.lst []),none,none,none]) ?_).trans ?_
 ·push_cast [immL,zf (show 0<=1000000 by omega),yaF]
 refine(qi (Z':=[some (.lst [.int n']),some (.int M),some (.int G),some (.lst (ks.map kw)),o4,o5,o6]) ?_).trans ?_
 ·have c:yt (qj jE 0 (qa (dv 1) (qa (ret (.int 1)) (ret [])))) [some (.lst [.int n]),some (.int M),some (.int G),some (.lst []),none,none,none]=.ok (ds,[some (.lst [.int n1]),some (.int M),some (.int G),some (.lst []),none,none,none]):=by
   push_cast [e1]
   rfl
  rw[yS,c]
  exact q
 ·push_cast []
def ldD(l:List Int):D:=.tup (l.map D.int)
def t3D(x:T3):D:=.tup [.int x.1,.int x.2.1,ldD x.2.2]
theorem qk6 (l:List Int):imm (ldD l)=true:=by
 unfold ldD
 simp only[imm]
 exact qc2 λ_ _=>rfl
theorem qk7 (x:T3):imm (t3D x)=true:=by
 unfold t3D
 simp only[imm,immL,qk6,yaF]
theorem qgV(x:T3):ixD (t3D x) (.int 0)=some (.int x.1):=rfl
theorem qee(x:T3):ixD (t3D x) (.int 1)=some (.int x.2.1):=rfl
theorem qoP(x:T3):ixD (t3D x) (.int 2)=some (ldD x.2.2):=rfl
theorem qdc {α β:Type} (g:α->List β):∀(l:List α)(acc:List β),l.foldl (λacc a=>acc++g a) acc=acc++l.flatMap g
 | [],acc=>by simp
 |a::l,acc=>by rw[fo_,qdc g l,fC_,aA_]
theorem qka(L:List (List Int))(k:Kw):qeX L k=L.flatMap λl=>(yal (tm k+1)).map λt:Nat=>l++[(t:Int)]:=rfl
theorem qre {k:Kw} (h:sgK k):k.m=some ((tm k:Nat):Int):=by
 unfold tm
 rcases h.2.2 with q|q<;>rw[q]<;>rfl
theorem qqA{k:Kw}(h:sgK k):ixD (kw k) (.int 2)=some (.int (tm k:Nat)):=by rw[qoN,qre h];rfl
theorem qab:∀{ks:List Kw},(∀k∈ks,sgK k)->(jB ks).length<=2 ^ ks.length
 | [],_=>yad _
 | k::ks,h=>by
  have ih:=qab λx hx=>h x (mM _ hx)
  have ht:=qit (h k mS_)
  simp only[jB]
  have:∀n,((yal n).flatMap λt:Nat=>(jB ks).map λl=>(t:Int)::l).length=n*(jB ks).length:=λn=>by
   induction n with
   |zero=>simp
   |succ n ihn=>rw[yej,yeX,lA_,ihn,yd3];simp
  rw[this,lC_,yfn]
  have h2:(tm k+1)*(jB ks).length<=2*2 ^ ks.length:=Nat.mul_le_mul (by omega) ih
  omega
theorem qkb {k:Kw} (h:sgK k) (T Ls:OD) {acc:List (List Int)} {l:List Int} (ha:acc.length<=1000) (hl:l.length<=20) :
  (jk (vF 3 (zE 1 [4] none (jC (qa (d2 qU (d2 ixD (dv 2) (ret (.int 2))) (ret (.int 1))) (ret []))) (ql 0) (ret true) (d2 qU (dv 1) (qO (qa (dv 0) (ret []))))))) [T,Ls,some (kw k),some (.lst (acc.map ldD)),some (ldD l)]=.ok (.nx [T,Ls,some (kw k),some (.lst ((acc++(yal (tm k+1)).map λt:Nat=>l++[(t:Int)]).map ldD)),some (ldD l)]):=by
 have ht:=qit h
 let Z:Env:=[T,Ls,some (kw k),some (.lst (acc.map ldD)),some (ldD l)]
 have rg:jC (qa (d2 qU (d2 ixD (dv 2) (ret (.int 2))) (ret (.int 1))) (ret [])) Z=.ok ((yal (tm k+1)).map λt:Nat=>D.int (t:Nat),Z):=by
  have e:qa (d2 qU (d2 ixD (dv 2) (ret (.int 2))) (ret (.int 1))) (ret []) Z=.ok ([.int ((tm k:Nat)+1)],Z):=yC (qo (qo rfl rfl (qqA h)) rfl (zx _ _))
  rw[uV e (by omega) (by omega)]
  have:((tm k:Nat)+1:Int).toNat=tm k+1:=by omega
  rw[this,qpU]
 have c:=qbE (e:=d2 qU (dv 1) (qO (qa (dv 0) (ret [])))) (fr:=[4]) (r:=[some (ldD l)]) (k:=λt:Nat=>D.int (t:Nat)) (yal (tm k+1)) (λt=>ldD (l++[(t:Int)])) rg rfl (by rw[lR_];omega) λt _=>by
  have t1:qO (qa (dv 0) (ret [])) [some (.int (t:Nat)),some (ldD l)]=.ok (.tup [.int (t:Nat)],[some (.int (t:Nat)),some (ldD l)]):=by
   rw[wO,yC rfl]
   simp only[lC_,lN_,ybr,zf (show 1<=1000000 by omega),if_true]
  exact qo rfl t1 (by unfold ldD;rw[uX (by rw[lM_];simp;omega),yaR];rfl)
 have gl:zM 3 Z=some (acc.map ldD):=rfl
 have im:immL ((yal (tm k+1)).map λt:Nat=>ldD (l++[(t:Int)]))=true:=qc2 λ_ _=>qk6 _
 show jk _ Z=_
 rw[v9,qh7]
 simp only[gl,c,im,ybu]
 rw[zf (by rw[lM_,lM_,lR_];omega),if_pos rfl,yaR,mm_]
 rfl
theorem qef {ks:List Kw} (h:∀k∈ks,sgK k) (hl:ks.length<=6):uq [.tup (ks.map kw)]=.ok (.lst ((jB ks).map ldD)):=by
 let T:OD:=some (.tup (ks.map kw))
 have p2:∀n,n<=6->2 ^ n<=64:=λn hn=>yaA (ybA (by decide) hn) (by decide)
 obtain ⟨Z',q,o2,o4,_,_,rfl⟩:=jD (G:=ql 2) (b:=(qH (vn 3 (qgw (ret []))) (qH (wy (yt (dv 1)) (ql 4) (jk (vF 3 (zE 1 [4] none (jC (qa (d2 qU (d2 ixD (dv 2) (ret (.int 2))) (ret (.int 1))) (ret []))) (ql 0) (ret true) (d2 qU (dv 1) (qO (qa (dv 0) (ret [])))))))) (qjT 1 3)))) (k:=kw) (step:=qeX)
  (Inv:=λn L Z=>∃o2 o4,L.length<=2 ^ n/\(∀l∈L,l.length=n)/\Z=[T,some (.lst (L.map ldD)),o2,none,o4]) ks 0 [[]] [T,some (.lst (([[]]:List (List Int)).map ldD)),none,none,none] ⟨none,none,yad _,λl hl=>by rw[ms_.mp hl];rfl,rfl⟩ (λk hk n L Z _ hn=>by
  rintro⟨o2,o4,hL,hLl,rfl⟩
  have gk:=h k hk
  have ht:=qit gk
  have hn6:n<6:=by omega
  have hL2:=p2 n (by omega)
  let Ls:OD:=some (.lst (L.map ldD))
  obtain ⟨Z2,q2,o4',hacc,hal,rfl⟩:=jD (G:=ql 4) (b:=(jk (vF 3 (zE 1 [4] none (jC (qa (d2 qU (d2 ixD (dv 2) (ret (.int 2))) (ret (.int 1))) (ret []))) (ql 0) (ret true) (d2 qU (dv 1) (qO (qa (dv 0) (ret [])))))))) (k:=ldD) (step:=λ(acc:List (List Int)) (l:List Int)=>acc++(yal (tm k+1)).map λt:Nat=>l++[(t:Int)])
   (Inv:=λm acc Z=>∃o4,acc.length<=2*m/\(∀l∈acc,l.length=n+1)/\Z=[T,Ls,some (kw k),some (.lst (acc.map ldD)),o4]) L 0 [] [T,Ls,some (kw k),some (.lst []),o4] ⟨o4,yad _,λl hl=>absurd hl nN_,rfl⟩ (λl hl m acc Z _ hm=>by
   rintro⟨o4,ha,hal,rfl⟩
   have hll:=hLl l hl
   refine⟨[T,Ls,some (kw k),some (.lst (acc.map ldD)),some (ldD l)],_,rfl,qkb gk T Ls (by omega) (by omega),some (ldD l),?_,λx hx=>?_,rfl⟩
   ·rw[lA_,lM_,lR_]
    omega
   ·rcases mA_.mp hx with hx|hx
    ·exact hal x hx
    ·obtain⟨t,_,rfl⟩:=mP_.mp hx
     rw[lA_,yau,hll])
  rw[qdc,ybc,<-qka]at q2 hacc hal
  refine⟨[T,Ls,some (kw k),none,o4],[T,some (.lst ((qeX L k).map ldD)),some (kw k),none,o4'],rfl,?_,some (kw k),o4',?_,hal,rfl⟩
  ·refine(qi (Z':=[T,Ls,some (kw k),some (.lst []),o4]) ?_).trans ?_
   ·push_cast [immL,zf (show 0<=1000000 by omega),yaF]
   refine(qi (Z':=[T,Ls,some (kw k),some (.lst ((qeX L k).map ldD)),o4']) ?_).trans rfl
   rw[yS]
   exact q2
  ·rw[yfn]
   omega)
 rw[qj7]at q
 unfold uq wp
 refine qai rfl ⟨[T,some (.lst ((jB ks).map ldD)),o2,none,o4],?_⟩
 refine(qi (Z':=[T,some (.lst (([[]]:List (List Int)).map ldD)),none,none,none]) ?_).trans ?_
 ·push_cast [zf (show 0<=1000000 by omega),zf (show 1<=1000000 by omega),T]
  rfl
 refine(qi (Z':=[T,some (.lst ((jB ks).map ldD)),o2,none,o4]) ?_).trans rfl
 rw[yS]
 exact q
theorem qk8:∀(ks:List Kw)(l:List Int),qet (ks.map kw) (l.map D.int)=(ks.zip l).map λz=>D.tup [kw z.1,.int z.2]
 | [],_=>by simp[qet]
 |_::_,[]=>by simp[qet]
 |k::ks,x::l=>by
  rw[mC_,mC_,yb7,mC_,<-qk8 ks l]
  rfl
theorem qmG:∀(ks:List Kw)(l:List Int),((ks.zip l).map λz=>z.1.w*z.2).sum=zy ks l
 | [],_=>by simp[zy]
 |_::_,[]=>by simp[zy]
 |k::ks,x::l=>by
  rw[yb7,mC_,List.sum_cons,qmG ks l]
  show k.w*x+_=x*k.w+_
  rw[Int.mul_comm]
theorem qmH:∀(ks:List Kw)(l:List Int),((ks.zip l).map λz=>z.1.v*z.2).sum=yD ks l
 | [],_=>by simp[yD]
 |_::_,[]=>by simp[yD]
 |k::ks,x::l=>by
  rw[yb7,mC_,List.sum_cons,qmH ks l]
  show k.v*x+_=x*k.v+_
  rw[Int.mul_comm]
theorem qf7 {ks:List Kw} {l:List Int} (h01:∀t∈l,t=0\/t=1) (hl:ks.length<=12) (c:Int) (f:Kw->Int) (hf:∀k,ixD (kw k) (.int c)=some (.int (f k))):zv [.tup (ks.map kw),ldD l,.int c]=.ok (.int ((ks.zip l).map λz=>f z.1*z.2).sum):=by
 let Z:Env:=[some (.tup (ks.map kw)),some (ldD l),some (.int c)]
 unfold zv yP
 refine qai rfl ⟨Z,ye ?_⟩
 have c1:=qiq (e:=d2 uF (d2 ixD (dv 0) (dv 2)) (dv 1)) (t:=ret true) (xs:=qnV (qa (dv 0) (qa (dv 1) (ret [])))) (fr:=[2]) (Z:=Z) (r:=[some (.int c)]) (u:=λa:Kw×Int=>kw a.1) (v:=λa=>D.int a.2) (ks.zip l) (λ_=>true) (λa=>D.int (f a.1*a.2)) (by
  rw[qhS,qd4 (a:=.tup (ks.map kw)) (b:=.tup (l.map D.int)) rfl rfl]
  simp only[qnU,qk8]) rfl (by rw[List.length_zip];omega) (λ_ _=>rfl) (λa ha _=>by
   have h1:=h01 _ (ycy (show(a.1,a.2)∈ks.zip l from ha)).2
   exact qo (qo rfl rfl (hf _)) rfl (qj2 (wm (by rcases h1 with e|e<;>omega) (by rcases h1 with e|e<;>omega))))
 rw[wn]at c1
 refine jg c1 ?_
 rw[qj5]
theorem qb3 {ks:List Kw} (h:∀k∈ks,sgK k) (hl:ks.length<=6):j8 [.tup (ks.map kw)]=.ok (.lst ((yw ks).map t3D)):=by
 let Z:Env:=[some (.tup (ks.map kw))]
 unfold j8 uY
 refine qai rfl ⟨Z,ye ?_⟩
 have p2:(jB ks).length<=64:=yaA (qab h) (yaA (ybA (by decide) hl) (by decide))
 have c:=qbE (e:=qO (qa (qp zv (qa (dv 1) (qa (dv 0) (qa (ret (.int 0)) (ret []))))) (qa (qp zv (qa (dv 1) (qa (dv 0) (qa (ret (.int 1)) (ret []))))) (qa (dv 0) (ret []))))) (fr:=[0]) (Z:=Z) (r:=[some (.tup (ks.map kw))]) (xs:=yt (qp uq (qa (dv 0) (ret [])))) (k:=ldD) (jB ks) (λl=>t3D (wg ks l)) (by
  rw[qbp,vi rfl (qef h hl)]
  rfl) rfl (by omega) λl hl'=>by
   have h01:=qax h hl'
   refine qoC (vX rfl rfl rfl ((qf7 h01 (by omega) 0 (·.w) qoL).trans ?_)) (vX rfl rfl rfl ((qf7 h01 (by omega) 1 (·.v) qoM).trans ?_)) rfl
   ·rw[qmG];rfl
   ·rw[qmH];rfl
 have e:(yw ks).map t3D=(jB ks).map λl=>t3D (wg ks l):=by
  unfold yw
  rw[mm_]
  rfl
 rw[e]
 exact c
theorem qkc (x:T3):zX [t3D x]=.ok (.tup [.int x.1,.int (-x.2.1),ldD x.2.2]):=by
 unfold zX uo
 let Z:Env:=[some (t3D x)]
 have n1:d1 qaI (d2 ixD (dv 0) (ret (.int 1))) Z=.ok (.int (-x.2.1),Z):=by
  rw[qpD,qo rfl rfl (qee x)]
  rfl
 exact qai rfl ⟨Z,ye (qoC (qo rfl rfl (qgV x)) n1 (qo rfl rfl (qoP x)))⟩
theorem qiH:∀L:List T3,qbB zX (L.map t3D)=some (L.map kyT)
 | []=>rfl
 | x::L=>by
  have e:qi0 (.tup [.int x.1,.int (-x.2.1),ldD x.2.2])=some (kyT x):=by
   unfold qi0 ldD
   simp only[w5]
   rfl
  rw[mC_]
  unfold qbB
  rw[qkc,qiH L]
  simp only[e,mC_]
theorem qkd (L:List T3):qb2 (Srt.ord (qN (L.map kyT))) (L.map t3D)=(srt L).map t3D:=by
 unfold qb2 srt
 rw[mm_]
 refine mL_ λi hi=>?_
 have hi':=(Srt.ord_perm (qN (L.map kyT))).mem_iff.mp hi
 rw[mR_,zn,lM_]at hi'
 show(L.map t3D).getD i D.non=t3D (L.getD i (0,0,[]))
 simp[hi']
theorem qpW (l:List T3):eqB (.lst (l.map t3D)) (.lst [])=some (.bl l.isEmpty):=by
 have hx:∀F:List T3,yaM (toPDs (F.map t3D))=true/\yaQ (toPDs (F.map t3D))<=2:=λF=>by
  induction F with
  |nil=>exact⟨rfl,yaE _⟩
  | cons x F ih=>
   have o:=qbG (ns:=x.2.2)
   have e:v7 (.tup (x.2.2.map D.int))=(yaM (toPDs (x.2.2.map D.int))&&decide (yaQ (toPDs (x.2.2.map D.int))+1<=50)):=by
    simp only[v7,zF,ya6,ybs]
   have dp:∀l:List Int,yaQ (toPDs (l.map D.int))=0:=λl=>by
    induction l with
    |nil=>rfl
    |cons a l ih=>simp only[mC_,toPDs,zF,yaQ,ybs,ih];rfl
   rw[e,yag]at o
   refine⟨?_,?_⟩
   ·simp only[mC_,t3D,ldD,toPDs,zF,yaM,ya6,o.1,ih.1,yaF]
   ·simp only[mC_,t3D,ldD,toPDs,zF,yaQ,ybs,dp]
    have:=ih.2
    omega
 obtain⟨h1,h2⟩:=hx l
 have o1:v7 (.lst (l.map t3D))=true:=by
  have e:v7 (.lst (l.map t3D))=(yaM (toPDs (l.map t3D))&&decide (yaQ (toPDs (l.map t3D))+1<=50)):=by
   simp only[v7,zF,ya6,ybs]
  rw[e,h1,decide_eq_true (by omega)]
  rfl
 have e:eqB (.lst (l.map t3D)) (.lst [])=eqA (.lst (l.map t3D)) (.lst []):=rfl
 rw[e]
 unfold eqA
 rw[o1]
 cases l with
 |nil=>rfl
 |cons n l=>rfl
theorem qmI {l:List T3} {y:T3} (h:l.getLast? = some y):atI (l.map t3D) (-1)=some (t3D y):=by
 have hne:l≠[]:=λe=>by rw[e]at h;cases h
 have hl:0<l.length:=List.length_pos_iff.mpr hne
 have e:l[l.length-1]? = some y:=by rw[<-List.getLast?_eq_getElem?];exact h
 unfold atI ixN
 rw[if_neg (by omega),lM_]
 split
 ·have e2:((-1:Int)+(l.length:Int)).toNat=l.length-1:=by omega
  show(l.map t3D)[((-1:Int)+(l.length:Int)).toNat]? = _
  rw[e2,gM_,e]
  rfl
 ·omega
theorem qiI (T:OD) (kept:List T3) (x:T3) (hl:kept.length<=1000):(sif (tor (qcO (tst (d2 eqB (dv 1) (jI (ret []))))) (tst (d2 gtD (d2 ixD (dv 2) (ret (.int 1))) (d2 ixD (qeF 1 (d1 qaI (ret (.int 1)))) (ret (.int 1)))))) (jk (zH 1 (dv 2))) jA) [T,some (.lst (kept.map t3D)),some (t3D x)]=.ok (.nx [T,some (.lst ((w9 kept x).map t3D)),some (t3D x)]):=by
 let Z:Env:=[T,some (.lst (kept.map t3D)),some (t3D x)]
 have ap:jk (zH 1 (dv 2)) Z=.ok (.nx [T,some (.lst ((kept++[x]).map t3D)),some (t3D x)]):=by
  rw[w6 (ds:=kept.map t3D) (d:=t3D x) rfl rfl (qk7 x) (by rw[lM_];omega),yaR]
  rfl
 have t1:qcO (tst (d2 eqB (dv 1) (jI (ret [])))) Z=.ok (kept.isEmpty,Z):=by
  refine qpG (zT (qo rfl (b:=.lst []) ?_ (qpW kept)))
  rw[qch]
  simp only[vB,lN_,zf (show 0<=1000000 by omega),if_true]
 show sif _ _ _ Z=_
 unfold w9
 cases e:kept.getLast? with
 |none=>
  have hk:kept=[]:=List.getLast?_eq_none_iff.mp e
  rw[hk]at t1 ap
  subst hk
  rw[qgP (qqy t1),ap]
  rfl
 | some y=>
  have hne:kept.isEmpty=false:=by
   cases kept with
   |nil=>cases e
   |cons a l=>rfl
  rw[hne]at t1
  have ix:d2 ixD (qeF 1 (d1 qaI (ret (.int 1)))) (ret (.int 1)) Z=.ok (.int y.2.1,Z):=by
   refine qo (a:=t3D y) ?_ rfl (qee y)
   have n1:d1 qaI (ret (.int 1)) Z=.ok (.int (-1),Z):=rfl
   have gl:zM 1 Z=some (kept.map t3D):=rfl
   rw[qhU]
   simp only[gl,n1,qmI e]
  have t2:tst (d2 gtD (d2 ixD (dv 2) (ret (.int 1))) (d2 ixD (qeF 1 (d1 qaI (ret (.int 1)))) (ret (.int 1)))) Z=.ok (decide (y.2.1<x.2.1),Z):=zT (qo (qo rfl rfl (qee x)) ix (wf _ _))
  dsimp only
  by_cases c:y.2.1<x.2.1
  ·rw[decide_eq_true c]at t2
   rw[if_pos c]
   have:tor (qcO (tst (d2 eqB (dv 1) (jI (ret []))))) (tst (d2 gtD (d2 ixD (dv 2) (ret (.int 1))) (d2 ixD (qeF 1 (d1 qaI (ret (.int 1)))) (ret (.int 1))))) Z=.ok (true,Z):=by rw[qgz,t1];exact t2
   rw[qgP this,ap]
  ·rw[decide_eq_false c]at t2
   rw[if_neg c,qev (qo8 t1 t2)]
   rfl
theorem qdd:∀(L kept:List T3),(L.foldl w9 kept).length<=kept.length+L.length
 | [],kept=>yad _
 | x :: L,kept=>by
  rw[fo_,lC_]
  have:=qdd L (w9 kept x)
  have h2:(w9 kept x).length<=kept.length+1:=by
   unfold w9
   cases e:kept.getLast? with
   |none=>simp
   |some y=>
    dsimp only
    split<;>simp
  omega
theorem qde {ks:List Kw} (h:∀k∈ks,sgK k) (hl:ks.length<=5):(yw ks).length<=32:=by
 unfold yw
 rw[lM_]
 exact yaA (qab h) (yaA (ybA (by decide) hl) (by decide))
theorem qaD {ks:List Kw} (h:∀k∈ks,sgK k) (hl:ks.length<=5):(nbL ks).length<=32:=by
 have h1:=qdd (srt (yw ks)) []
 have h2:=(qaa (yw ks)).length_eq
 have h3:=qde h hl
 have:(nbL ks).length=((srt (yw ks)).foldl w9 []).length:=rfl
 simp only[lN_]at h1
 omega
theorem qac {ks:List Kw} (h:∀k∈ks,sgK k) (hl:ks.length<=5):yF [.tup (ks.map kw)]=.ok (.lst ((nbL ks).map t3D)):=by
 let T:OD:=some (.tup (ks.map kw))
 have h32:=qde h hl
 have hsl:=(qaa (yw ks)).length_eq
 obtain ⟨Z',q,o2,hk,rfl⟩:=jD (G:=ql 2) (b:=(sif (tor (qcO (tst (d2 eqB (dv 1) (jI (ret []))))) (tst (d2 gtD (d2 ixD (dv 2) (ret (.int 1))) (d2 ixD (qeF 1 (d1 qaI (ret (.int 1)))) (ret (.int 1)))))) (jk (zH 1 (dv 2))) jA)) (k:=t3D) (step:=w9) (Inv:=λn kept Z=>∃o2,kept.length<=n/\Z=[T,some (.lst (kept.map t3D)),o2]) (srt (yw ks)) 0 [] [T,some (.lst []),none] ⟨none,yad _,rfl⟩ (λx _ n kept Z _ hn=>by
  rintro⟨o2,hk,rfl⟩
  refine⟨[T,some (.lst (kept.map t3D)),some (t3D x)],_,rfl,qiI T kept x (by omega),some (t3D x),?_,rfl⟩
  have:=qdd [x] kept
  simp only[fo_,yeC,yau]at this
  omega)
 unfold yF vH
 refine qai rfl ⟨[T,some (.lst ((nbL ks).map t3D)),o2],?_⟩
 refine(qi (Z':=[T,some (.lst []),none]) ?_).trans ?_
 ·push_cast [immL,zf (show 0<=1000000 by omega),yaF,T]
 refine(qi (Z':=[T,some (.lst ((nbL ks).map t3D)),o2]) ?_).trans ?_
 ·have c:qdW zX (qp j8 (qa (dv 0) (ret []))) [T,some (.lst []),none]=.ok (.lst ((srt (yw ks)).map t3D),[T,some (.lst []),none]):=by
   rw[qjX (vi rfl (qb3 h (by omega))) (by rw[lM_];omega) (qiH (yw ks)),qkd]
  rw[yS,qbp,c]
  exact q
 ·rfl
theorem qke (ks:List Kw) (hl:ks.length<=12):uD [.tup (ks.map kw)]=.ok (.tup ((ks.take (ks.length/2)).map kw)):=by
 unfold uD vI
 let Z:Env:=[some (.tup (ks.map kw))]
 refine qai rfl ⟨Z,ye ?_⟩
 have n2:d2 ux (qq vt (qa (dv 0) (ret []))) (ret (.int 2)) Z=.ok (.int ((ks.length/2:Nat):Int),Z):=qo (jg rfl (by rw[j6,lM_])) rfl (by rw[ul (by decide) (by decide)];rfl)
 have p:yA (d2 ux (qq vt (qa (dv 0) (ret []))) (ret (.int 2))) Z=.ok (some ((ks.length/2:Nat):Int),Z):=by rw[qaq,n2]
 have v:dv 0 Z=.ok (.tup (ks.map kw),Z):=rfl
 have c:=qc8 (ks.map kw) (ks.length/2) (by rw[lM_];omega)
 have z:qcQ (dv 0) (ret none) (yA (d2 ux (qq vt (qa (dv 0) (ret []))) (ret (.int 2)))) Z=.ok (.tup ((ks.map kw).take (ks.length/2)),Z):=by
  rw[qby]
  simp only[v,vB,p,slB,c]
 rw[yeU]
 exact z
theorem qiJ (ks:List Kw) (hl:ks.length<=12):yV [.tup (ks.map kw)]=.ok (.tup ((ks.drop (ks.length/2)).map kw)):=by
 unfold yV uZ
 let Z:Env:=[some (.tup (ks.map kw))]
 refine qai rfl ⟨Z,ye ?_⟩
 have n2:d2 ux (qq vt (qa (dv 0) (ret []))) (ret (.int 2)) Z=.ok (.int ((ks.length/2:Nat):Int),Z):=qo (jg rfl (by rw[j6,lM_])) rfl (by rw[ul (by decide) (by decide)];rfl)
 have p:yA (d2 ux (qq vt (qa (dv 0) (ret []))) (ret (.int 2))) Z=.ok (some ((ks.length/2:Nat):Int),Z):=by rw[qaq,n2]
 have v:dv 0 Z=.ok (.tup (ks.map kw),Z):=rfl
 have c:=qfY (ks.map kw) (ks.length/2) (by rw[lM_];omega)
 have z:qcQ (dv 0) (yA (d2 ux (qq vt (qa (dv 0) (ret []))) (ret (.int 2)))) (ret none) Z=.ok (.tup ((ks.map kw).drop (ks.length/2)),Z):=by
  rw[qby]
  simp only[v,vB,p,slB,c]
 rw[ydJ]
 exact z
theorem xx1 {F:List D->R D} {l:M (List D)} {Z:Env} {ds:List D} {d:D} (hl:l Z=.ok (ds,Z)) (h:F ds=.ok d):jk (yT RN F l) Z=.ok (.nx Z):=by
 rw[v9,wU,hl]
 simp only[h]
theorem xs1 {i:Nat} {F:List D->R D} {l:M (List D)} {Z:Env} {ds:List D} {d:D} (hl:l Z=.ok (ds,Z)) (h:F ds=.ok d):zi i (yT RN F l) Z=.ok (.nx (Z.set i (some d))):=by
 rw[wQ,wU,hl]
 simp only[h]
theorem qf8 {ks:List Kw} (h:∀k∈ks,1<=k.w/\0<=k.v/\∀j,k.m=some j->0<=j) (hl:ks.length<=12):uG (.tup (ks.map kw))=true:=by
 have e:ks.map kw=(ks.map λk=>(k.w,k.v,k.m)).map kD:=by rw[mm_];rfl
 rw[e]
 refine qgQ (λx hx=>?_) (by rw[lM_];exact hl)
 obtain⟨k,hk,rfl⟩:=mP_.mp hx
 obtain⟨h1,h2,h3⟩:=h k hk
 exact⟨by show 0<k.w;omega,h2,h3⟩
theorem qdf{ks:List Kw}(h:∀k∈ks,sgK k)(hl:ks.length<=12):uG (.tup (ks.map kw))=true:=qf8 (λk hk=>⟨(h k hk).1,(h k hk).2.1,(h k hk).kd.2⟩) hl
def qkf(k:Kw):Bool:=decide (k.m=some 0)||decide (k.m=some 1)
theorem qbR {ks:List Kw} (h:∀k∈ks,k.m=some 0\/k.m=some 1\/k.m=some 2\/k.m=none\/k.m=some 3) (hl:ks.length<=12) (Z:Env) (hρ:Z=[some (.tup (ks.map kw))]):tst (qq qfm (qa (zE 1 [] none (yt (dv 0)) (ql 0) (ret true) (d2 inB (d2 ixD (dv 0) (ret (.int 2))) (qO (qa (ret (.int 0)) (qa (ret (.int 1)) (ret [])))))) (ret []))) Z=.ok (ks.all qkf,Z):=by
 subst hρ
 have c:=qbE (e:=d2 inB (d2 ixD (dv 0) (ret (.int 2))) (qO (qa (ret (.int 0)) (qa (ret (.int 1)) (ret []))))) (fr:=[]) (Z:=[some (.tup (ks.map kw))]) (r:=[]) (xs:=yt (dv 0)) (k:=kw) ks (λk=>D.bl (qkf k)) rfl rfl (by omega) λk hk=>by
  refine qo (qo rfl rfl (qoN k)) (qj3 rfl rfl) ?_
  unfold qkf
  rcases h k hk with e|e|e|e|e<;>rw[e]<;>rfl
 exact zT (jg c qfR)
theorem qoQ {ks:List Kw} (h:∀k∈ks,sgK k):ks.all qkf=true:=by
 rw[List.all_eq_true]
 intro k hk
 unfold qkf
 rcases(h k hk).2.2 with e|e<;>rw[e]<;>rfl
theorem qf9 {ks:List Kw} (h:∀k∈ks,sgK k):∀k∈ks,k.m=some 0\/k.m=some 1\/k.m=some 2\/k.m=none\/k.m=some 3:=λk hk=>by
 rcases(h k hk).2.2 with e|e
 ·exact .inl e
 ·exact .inr (.inl e)
theorem qb4 {ks:List Kw} (h:∀k∈ks,sgK k) (hl:ks.length<=12):j9 [.tup (ks.map kw)]=.ok .non:=by
 have c:=qbR (qf9 h) hl _ rfl
 rw[qoQ h]at c
 have e:z6 [some (.tup (ks.map kw))]=.ok (.nx [some (.tup (ks.map kw))]):=by
  unfold z6
  have tn:=(qbo (t:=tst (qq qfm (qa (zE 1 [] none (yt (dv 0)) (ql 0) (ret true) (d2 inB (d2 ixD (dv 0) (ret (.int 2))) (qO (qa (ret (.int 0)) (qa (ret (.int 1)) (ret [])))))) (ret [])))) (Z:=[some (.tup (ks.map kw))]))
  rw[c]at tn
  exact qev tn
 first
 |exact qfC rfl ⟨_,e⟩
 |(show(match z6 [some (.tup (ks.map kw))] with|.ok (.rt d _)=>R.ok d|.ok (.nx _) => .ok .non|_ => .bad)=_;rw[e])
theorem qoR {r:Int} (hr:0<=r):js [.int r]=.ok .non:=by
 first
 |exact u5 (.int r) (show j7 (.int r)=true from decide_eq_true hr)
 |(obtain⟨n,rfl⟩:=ybZ hr;exact F_need_count_eq n)
section
variable{ks:List Kw}(h:∀k∈ks,sgK k)(hl:ks.length<=10)
include h hl
theorem qad:(∀k∈ks.take (ks.length/2),sgK k)/\(∀k∈ks.drop (ks.length/2),sgK k)/\(ks.take (ks.length/2)).length<=5/\(ks.drop (ks.length/2)).length<=5:=by
 refine⟨λk hk=>h k (ydf hk),λk hk=>h k (yco hk),?_,?_⟩
 ·rw[ybe];omega
 ·rw[ybW];omega
theorem qae:jR [.tup (ks.map kw)]=.ok (.tup [.lst ((nbL (ks.take (ks.length/2))).map t3D),.lst ((nbL (ks.drop (ks.length/2))).map t3D)]):=by
 obtain⟨h1,h2,l1,l2⟩:=qad h hl
 unfold jR yH
 let Z:Env:=[some (.tup (ks.map kw))]
 have g0:qa (dv 0) (ret []) Z=.ok ([.tup (ks.map kw)],Z):=yC rfl
 refine qeL rfl ⟨Z,?_⟩
 refine(qi (Z':=Z) (xx1 g0 (z7 _ (qdf h (by omega))))).trans ?_
 refine(qi (Z':=Z) (xx1 g0 (qb4 h (by omega)))).trans ?_
 exact ye (qj3 (vi (vi rfl (qke ks (by omega))) (qac h1 l1)) (vi (vi rfl (qiJ ks (by omega))) (qac h2 l2)))
end
def qD(p:List Int×Int):D:=.tup [ldD p.1,.int p.2]
def u7(k:Kw)(p:List Int×Int):List (List Int×Int):=(yal (ofn k p.2+1)).map λ(t:Nat)=>(p.1++[(t:Int)],p.2-(t:Int)*k.w)
theorem qdg(k:Kw)(F:List (List Int×Int)):w8 k F=F.flatMap (u7 k):=rfl
def qkg(k:Kw):Prop:=sgK k/\k.w<=10000000000000000000000
theorem qkh{G:Int}(g:G<=100000000000000000000){k:Kw}(h:sgB G k):qkg k:=⟨h.1,by have:=h.2.1;omega⟩
theorem qoS {k:Kw} (h:sgK k) (s:Int):ofn k s<=1:=by
 unfold ofn
 rcases h.2.2 with q|q<;>rw[q]<;>simp only<;>split<;>omega
structure okF (n:Nat) (F:List (List Int×Int)):Prop where
 bd:∀p∈F,0<=p.2/\p.1.length=n/\∀t∈p.1,t=0\/t=1
 len:F.length<=2 ^ n
theorem qaE {k:Kw} (hk:sgK k) {n:Nat} {p:List Int×Int} (h:0<=p.2/\p.1.length=n/\∀t∈p.1,t=0\/t=1):(u7 k p).length<=2/\∀q∈u7 k p,0<=q.2/\q.1.length=n+1/\∀t∈q.1,t=0\/t=1:=by
 have hn:=qoS hk p.2
 refine⟨by unfold u7;rw[lM_,lR_];omega,λq hq=>?_⟩
 obtain⟨t,ht,rfl⟩:=mP_.mp hq
 have ht':t<=ofn k p.2:=by have:=mR_.mp ht;omega
 obtain⟨g1,_⟩:=qk2 hk.kd.1 hk.kd.2 h.1 ht'
 refine⟨by show 0<=p.2-(t:Int)*k.w;omega,by rw[lA_,yau,h.2.1],λx hx=>?_⟩
 rcases mA_.mp hx with hx|hx
 ·exact h.2.2 x hx
 ·have:x=(t:Int):=by simpa using hx
  omega
theorem qga {α β:Type} {f:α->List β}:∀l:List α,(∀a∈l,(f a).length<=2)->(l.flatMap f).length<=l.length*2
 | [],_=>by simp
 |a::l,h=>by
  have h1:=h a mS_
  have h2:=qga l λx hx=>h x (mM _ hx)
  rw[fC_,lA_,lC_,yd3]
  omega
theorem okF.step {k:Kw} (hk:sgK k) {n:Nat} {F:List (List Int×Int)} (h:okF n F):okF (n+1) (w8 k F):=by
 refine⟨λq hq=>?_,?_⟩
 ·rw[qdg]at hq
  obtain⟨p,hp,hq⟩:=List.mem_flatMap.mp hq
  exact(qaE hk (h.bd p hp)).2 q hq
 ·rw[qdg,yfn]
  exact yaA (qga F λp hp=>(qaE hk (h.bd p hp)).1) (yde _ h.len)
theorem qmJ(m:Option Int):qjk (mD m) .non=some (.bl (!m.isNone)):=by rw[qeT,qj4]
theorem qmK (T Rm:OD) {k:Kw} (hk:qkg k) {n:Nat} (hn:n<=11) {F:List (List Int×Int)} (h:okF n F) (o6 o7 o8 o9:OD) :
  ∃q7 q8 q9,(qH (zi 6 (jI (ret []))) (qH (wy (yt (dv 2)) (vN 2 (qQ (ql 7) (qQ (ql 8) vq))) (qH (zi 9 (d2 ux (dv 8) (dv 3))) (qH (sif (tst (d2 qjk (dv 5) (ret .non))) (zi 9 (qq v3 (qa (dv 9) (qa (dv 5) (ret []))))) jA) (zi 6 (d2 qU (dv 6) (zE 1 [7,8,3] none (jC (qa (d2 qU (dv 9) (ret (.int 1))) (ret []))) (ql 0) (ret true) (qO (qa (d2 qU (dv 1) (qO (qa (dv 0) (ret [])))) (qa (d2 qdp (dv 2) (d2 uF (dv 0) (dv 3))) (ret [])))))))))) (zi 2 (dv 6)))) [T,Rm,some (.lst (F.map qD)),some (.int k.w),some (.int k.v),some (mD k.m),o6,o7,o8,o9]=.ok (.nx [T,Rm,some (.lst ((w8 k F).map qD)),some (.int k.w),some (.int k.v),some (mD k.m),some (.lst ((w8 k F).map qD)),q7,q8,q9]):=by
 have hF:F.length<=2048:=yaA h.len (yaA (ybA (by omega) hn) (by decide))
 have hw1:=hk.1.1
 have hw2:=hk.2
 let Fd:OD:=some (.lst (F.map qD))
 let A:OD:=some (.int k.w)
 let B:OD:=some (.int k.v)
 let Mo:OD:=some (mD k.m)
 obtain ⟨Z',q,o7',o8',o9',hlen,rfl⟩:=jD (G:=vN 2 (qQ (ql 7) (qQ (ql 8) vq))) (b:=(qH (zi 9 (d2 ux (dv 8) (dv 3))) (qH (sif (tst (d2 qjk (dv 5) (ret .non))) (zi 9 (qq v3 (qa (dv 9) (qa (dv 5) (ret []))))) jA) (zi 6 (d2 qU (dv 6) (zE 1 [7,8,3] none (jC (qa (d2 qU (dv 9) (ret (.int 1))) (ret []))) (ql 0) (ret true) (qO (qa (d2 qU (dv 1) (qO (qa (dv 0) (ret [])))) (qa (d2 qdp (dv 2) (d2 uF (dv 0) (dv 3))) (ret [])))))))))) (k:=qD) (step:=λacc p=>acc++u7 k p) (Inv:=λm acc Z=>∃o7 o8 o9,acc.length<=m*2/\Z=[T,Rm,Fd,A,B,Mo,some (.lst (acc.map qD)),o7,o8,o9]) F 0 [] [T,Rm,Fd,A,B,Mo,some (.lst []),o7,o8,o9] ⟨o7,o8,o9,yad _,rfl⟩ (λp hp m acc Z _ hm=>by
  rintro⟨o7,o8,o9,hacc,rfl⟩
  obtain⟨b0,b2,_⟩:=h.bd p hp
  have hof:=qoS hk.1 p.2
  have so:=qaE hk.1 (h.bd p hp)
  have hd:0<=p.2/k.w:=Int.ediv_nonneg b0 (by omega)
  let Ac:OD:=some (.lst (acc.map qD))
  let Ld:OD:=some (ldD p.1)
  let Lf:OD:=some (.int p.2)
  let Z1:Env:=[T,Rm,Fd,A,B,Mo,Ac,Ld,Lf,o9]
  let Z2:Env:=[T,Rm,Fd,A,B,Mo,Ac,Ld,Lf,some (.int (p.2/k.w))]
  let Z3:Env:=[T,Rm,Fd,A,B,Mo,Ac,Ld,Lf,some (.int (ofn k p.2:Nat))]
  have e1:(zi 9 (d2 ux (dv 8) (dv 3))) Z1=.ok (.nx Z2):=by
   have c:d2 ux (dv 8) (dv 3) Z1=.ok (.int (p.2/k.w),Z1):=qo rfl rfl (ul (by omega) (by omega))
   rw[wQ,c]
   rfl
  have e2:(sif (tst (d2 qjk (dv 5) (ret .non))) (zi 9 (qq v3 (qa (dv 9) (qa (dv 5) (ret []))))) jA) Z2=.ok (.nx Z3):=by
   obtain⟨j,em,hj⟩:∃j,k.m=some j/\0<=j:=by rcases hk.1.2.2 with q|q<;>exact⟨_,q,by decide⟩
   have c1:d2 qjk (dv 5) (ret .non) Z2=.ok (.bl (!k.m.isNone),Z2):=qo rfl rfl (qmJ k.m)
   have e:((ofn k p.2:Nat):Int)=if j<p.2/k.w then j else p.2/k.w:=by
    unfold ofn
    rw[em]
    show((if j<p.2/k.w then j else p.2/k.w).toNat:Int)=_
    split<;>omega
   rw[em]at c1
   rw[qgP (zT c1)]
   have c2:qq v3 (qa (dv 9) (qa (dv 5) (ret []))) Z2=.ok (.int (ofn k p.2:Nat),Z2):=by
    have hv:dv 5 Z2=.ok (.int j,Z2):=by
     show R.ok (mD k.m,Z2)=_
     rw[em]
     rfl
    rw[qbn,qd4 rfl hv]
    show(match v3 [.int (p.2/k.w),.int j] with|some d=>R.ok (d,Z2)|none => .bad)=_
    rw[qfQ,e]
   rw[wQ,c2]
   rfl
  have e3:(zi 6 (d2 qU (dv 6) (zE 1 [7,8,3] none (jC (qa (d2 qU (dv 9) (ret (.int 1))) (ret []))) (ql 0) (ret true) (qO (qa (d2 qU (dv 1) (qO (qa (dv 0) (ret [])))) (qa (d2 qdp (dv 2) (d2 uF (dv 0) (dv 3))) (ret []))))))) Z3=.ok (.nx [T,Rm,Fd,A,B,Mo,some (.lst ((acc++u7 k p).map qD)),Ld,Lf,some (.int (ofn k p.2:Nat))]):=by
   have rg:jC (qa (d2 qU (dv 9) (ret (.int 1))) (ret [])) Z3=.ok ((yal (ofn k p.2+1)).map λt:Nat=>D.int (t:Nat),Z3):=by
    rw[uV (yC (qo rfl rfl (zx _ _))) (by omega) (by omega)]
    have:((ofn k p.2:Nat)+1:Int).toNat=ofn k p.2+1:=by omega
    rw[this,qpU]
   have c:zE 1 [7,8,3] none (jC (qa (d2 qU (dv 9) (ret (.int 1))) (ret []))) (ql 0) (ret true) (qO (qa (d2 qU (dv 1) (qO (qa (dv 0) (ret [])))) (qa (d2 qdp (dv 2) (d2 uF (dv 0) (dv 3))) (ret [])))) Z3=.ok (.lst ((yal (ofn k p.2+1)).map λ(t:Nat)=>qD (p.1++[(t:Int)],p.2-(t:Int)*k.w)),Z3):=by
    refine qbE (r:=[Ld,Lf,A]) (k:=λt:Nat=>D.int (t:Nat)) _ _ rg rfl (by rw[lR_];omega) λt ht=>?_
    have ht':t<=ofn k p.2:=by have:=mR_.mp ht;omega
    have ad:qU (ldD p.1) (.tup [.int (t:Nat)])=some (ldD (p.1++[(t:Int)])):=by
     unfold ldD
     rw[uX (by rw[lM_,b2];simp;omega),yaR]
     rfl
    have t1:qO (qa (dv 0) (ret [])) [some (.int (t:Nat)),Ld,Lf,A]=.ok (.tup [.int (t:Nat)],[some (.int (t:Nat)),Ld,Lf,A]):=by
     rw[wO,yC rfl]
     simp only[lC_,lN_,ybr,zf (show 1<=1000000 by omega),if_true]
    exact qj3 (qo rfl t1 ad) (qo rfl (qo rfl rfl (qd3 (wm (by omega) (by omega)))) (vP _ _))
   have ml:(u7 k p).map qD=(yal (ofn k p.2+1)).map λ(t:Nat)=>qD (p.1++[(t:Int)],p.2-(t:Int)*k.w):=by
    unfold u7
    rw[mm_]
    rfl
   rw[<-ml]at c
   have c2:(d2 qU (dv 6) (zE 1 [7,8,3] none (jC (qa (d2 qU (dv 9) (ret (.int 1))) (ret []))) (ql 0) (ret true) (qO (qa (d2 qU (dv 1) (qO (qa (dv 0) (ret [])))) (qa (d2 qdp (dv 2) (d2 uF (dv 0) (dv 3))) (ret [])))))) Z3=.ok (.lst ((acc++u7 k p).map qD),Z3):=qo rfl c (by rw[wZ (by rw[lM_,lM_];have:=so.1;omega),yaR])
   rw[wQ,c2]
   rfl
  refine⟨Z1,_,rfl,(qi e1).trans ((qi e2).trans e3),Ld,Lf,some (.int (ofn k p.2:Nat)),?_,rfl⟩
  rw[lA_]
  have:=so.1
  omega)
 rw[qdc,ybc,<-qdg]at q
 refine⟨o7',o8',o9',?_⟩
 refine(qi (Z':=[T,Rm,Fd,A,B,Mo,some (.lst []),o7,o8,o9]) ?_).trans ?_
 ·push_cast [zf (show 0<=1000000 by omega),Fd,A,B,Mo]
 refine(qi (Z':=[T,Rm,Fd,A,B,Mo,some (.lst ((w8 k F).map qD)),o7',o8',o9']) ?_).trans ?_
 ·rw[yS]
  exact q
 ·rfl
def qbS(ks:List Kw)(r:Int):List (List Int×Int):=ks.foldl (λf k=>w8 k f) [([],r)]
theorem ww {ks:List Kw} (h:∀k∈ks,qkg k) (hl:ks.length<=12) {r:Int} (hr:0<=r):ja [.tup (ks.map kw),.int r]=.ok (.lst ((qbS ks r).map λp=>ldD p.1))/\okF ks.length (qbS ks r):=by
 let T:OD:=some (.tup (ks.map kw))
 let Rm:OD:=some (.int r)
 have loop:∀(b:List Kw)(n:Nat)(F:List (List Int×Int))(o3 o4 o5 o6 o7 o8 o9:OD),(∀k∈b,qkg k)->okF n F->n+b.length<=12->∃o3' o4' o5' o6' o7' o8' o9',uS (vN 3 (qQ (ql 3) (qQ (ql 4) (qQ (ql 5) vq)))) (qH (zi 6 (jI (ret []))) (qH (wy (yt (dv 2)) (vN 2 (qQ (ql 7) (qQ (ql 8) vq))) (qH (zi 9 (d2 ux (dv 8) (dv 3))) (qH (sif (tst (d2 qjk (dv 5) (ret .non))) (zi 9 (qq v3 (qa (dv 9) (qa (dv 5) (ret []))))) jA) (zi 6 (d2 qU (dv 6) (zE 1 [7,8,3] none (jC (qa (d2 qU (dv 9) (ret (.int 1))) (ret []))) (ql 0) (ret true) (qO (qa (d2 qU (dv 1) (qO (qa (dv 0) (ret [])))) (qa (d2 qdp (dv 2) (d2 uF (dv 0) (dv 3))) (ret [])))))))))) (zi 2 (dv 6)))) (b.map kw) [T,Rm,some (.lst (F.map qD)),o3,o4,o5,o6,o7,o8,o9]=.ok (.nx [T,Rm,some (.lst ((b.foldl (λf k=>w8 k f) F).map qD)),o3',o4',o5',o6',o7',o8',o9'])/\okF (n+b.length) (b.foldl (λf k=>w8 k f) F):=λb=>by
  induction b with
  |nil=>intro n F o3 o4 o5 o6 o7 o8 o9 _ hF _;exact⟨o3,o4,o5,o6,o7,o8,o9,rfl,hF⟩
  | cons k b ih=>
   intro n F o3 o4 o5 o6 o7 o8 o9 hb hF hn
   have hn':n+(b.length+1)<=12:=hn
   have hk:=hb k mS_
   obtain⟨q7,q8,q9,e⟩:=qmK T Rm hk (by omega) hF o6 o7 o8 o9
   obtain⟨p3,p4,p5,p6,p7,p8,p9,q,g⟩:=ih (n+1) (w8 k F) (some (.int k.w)) (some (.int k.v)) (some (mD k.m)) (some (.lst ((w8 k F).map qD))) q7 q8 q9 (λx hx=>hb x (mM _ hx)) (hF.step hk.1) (by omega)
   refine⟨p3,p4,p5,p6,p7,p8,p9,?_,?_⟩
   ·rw[mC_,qbF rfl e,q]
    rfl
   ·rw[fo_,lC_,show n+(b.length+1)=n+1+b.length by omega]
    exact g
 have h0:okF 0 [([],r)]:=⟨λp hp=>by
  rw[ms_]at hp
  subst hp
  exact⟨hr,rfl,λt ht=>absurd ht nN_⟩,yad _⟩
 obtain⟨p3,p4,p5,p6,p7,p8,p9,q,g⟩:=loop ks 0 [([],r)] none none none none none none none h h0 (by omega)
 rw[ybr]at g
 refine⟨?_,g⟩
 have hln:(qbS ks r).length<=4096:=yaA g.len (yaA (ybA (by omega) hl) (by decide))
 unfold ja yQ
 let Z':Env:=[T,Rm,some (.lst ((qbS ks r).map qD)),p3,p4,p5,p6,p7,p8,p9]
 refine qai rfl ⟨Z',?_⟩
 refine(qi (Z':=[T,Rm,some (.lst (([([],r)]:List (List Int×Int)).map qD)),none,none,none,none,none,none,none]) ?_).trans ?_
 ·push_cast [zf (show 0<=1000000 by omega),zf (show 1<=1000000 by omega),zf (show 2<=1000000 by omega),T,Rm]
  rfl
 refine(qi (Z':=Z') ?_).trans ?_
 ·rw[yS]
  exact q
 ·have c:zE 2 [] none (yt (dv 2)) (vN 2 (qQ (ql 0) (qQ (ql 1) vq))) (ret true) (dv 0) Z'=.ok (.lst ((qbS ks r).map λp=>ldD p.1),Z'):=by
   have:=qiq (e:=dv 0) (t:=ret true) (xs:=yt (dv 2)) (fr:=[]) (Z:=Z') (r:=[]) (u:=λp:List Int×Int=>ldD p.1) (v:=λp=>D.int p.2) (qbS ks r) (λ_=>true) (λp=>ldD p.1) rfl rfl (by omega) (λ_ _=>rfl) (λ_ _ _=>rfl)
   rw[wn]at this
   exact this
  rw[qdO,c]
def qk9(ks:List Kw)(i:Nat):Kw:=(ks[i]?).getD ⟨1,0,none⟩
def lAt(l:List Int)(i:Nat):Int:=(l[i]?).getD 0
theorem qgb (f:Kw->Int) {ks:List Kw} {l:List Int} (hl:ks.length=l.length):∀n,n<=ks.length->(yal n).foldl (λs i=>s+f (qk9 ks i)*lAt l i) 0=(((ks.take n).zip (l.take n)).map λz=>f z.1*z.2).sum
 |0,_=>rfl
 |n+1,h=>by
  rw[yej,yfC,qgb f hl n (by omega)]
  have h1:n<ks.length:=by omega
  have h2:n<l.length:=by omega
  rw[yc0 h1,yc0 h2,List.zip_append (by rw[ybe,ybe];omega),yaR,List.sum_append]
  have e1:qk9 ks n=ks[n]:=by unfold qk9;rw[gG h1];rfl
  have e2:lAt l n=l[n]:=by unfold lAt;rw[gG h2];rfl
  simp only[fo_,yeC,e1,e2]
  simp
theorem qaf {ks:List Kw} (hl:ks.length<=12) {l:List Int} (hn:l.length=ks.length) (h01:∀t∈l,t=0\/t=1) (c:Int) (f:Kw->Int) (hf:∀k,ixD (kw k) (.int c)=some (.int (f k))):zh [.tup (ks.map kw),ldD l,.int c]=.ok (.int ((ks.zip l).map λz=>f z.1*z.2).sum):=by
 let T:OD:=some (.tup (ks.map kw))
 let Ld:OD:=some (ldD l)
 let O:OD:=some (.int c)
 obtain ⟨Z',q,o4,rfl⟩:=jD (G:=ql 4) (b:=(zi 3 (d2 qU (dv 3) (d2 uF (d2 ixD (d2 ixD (dv 0) (dv 4)) (dv 2)) (d2 ixD (dv 1) (dv 4)))))) (k:=λi:Nat=>D.int (i:Nat)) (step:=λ(s:Int) (i:Nat)=>s+f (qk9 ks i)*lAt l i) (Inv:=λn s Z=>∃o4,Z=[T,Ld,O,some (.int s),o4]) (yal ks.length) 0 0 [T,Ld,O,some (.int 0),none] ⟨none,rfl⟩ (λi hi n s Z _ _=>by
  rintro⟨o4,rfl⟩
  have hi':=mR_.mp hi
  have k1:ks[i]? = some (qk9 ks i):=by unfold qk9;rw[gG hi'];rfl
  have l1:l[i]? = some (lAt l i):=by unfold lAt;rw[gG (by omega)];rfl
  have g:=h01 _ (ycl l1)
  let Z1:Env:=[T,Ld,O,some (.int s),some (.int (i:Nat))]
  have cc:(d2 qU (dv 3) (d2 uF (d2 ixD (d2 ixD (dv 0) (dv 4)) (dv 2)) (d2 ixD (dv 1) (dv 4)))) Z1=.ok (.int (s+f (qk9 ks i)*lAt l i),Z1):=qo rfl (qo (qo (qo rfl rfl (qkY (by rw[gM_,k1];rfl))) rfl (hf _)) (qo rfl rfl (qkY (by rw[gM_,l1];rfl))) (qj2 (wm (by rcases g with e|e<;>omega) (by rcases g with e|e<;>omega)))) (zx _ _)
  refine⟨Z1,[T,Ld,O,some (.int (s+f (qk9 ks i)*lAt l i)),some (.int (i:Nat))],rfl,?_,_,rfl⟩
  rw[wQ,cc]
  rfl)
 rw[qgb f hn.symm _ (yad _),List.take_length,<-hn,List.take_length]at q
 unfold zh qaB
 refine qai rfl ⟨[T,Ld,O,some (.int ((ks.zip l).map λz=>f z.1*z.2).sum),o4],?_⟩
 refine(qi (Z':=[T,Ld,O,some (.int 0),none]) rfl).trans ?_
 refine(qi (Z':=[T,Ld,O,some (.int ((ks.zip l).map λz=>f z.1*z.2).sum),o4]) ?_).trans rfl
 rw[yS,uV (j:=(ks.length:Nat)) (Z1:=[T,Ld,O,some (.int 0),none]) (yC (jg (a:=.tup (ks.map kw)) rfl (by rw[j6,lM_]))) (by omega) (by omega),ybD,qpU,<-hn]
 exact q
theorem qcw{ks:List Kw}(hl:ks.length<=12){l:List Int}(hn:l.length=ks.length)(h01:∀t∈l,t=0\/t=1):zh [.tup (ks.map kw),ldD l,.int 0]=.ok (.int (zy ks l)):=by rw[qaf hl hn h01 0 (·.w) qoL,qmG]
theorem qeg{ks:List Kw}(hl:ks.length<=12){l:List Int}(hn:l.length=ks.length)(h01:∀t∈l,t=0\/t=1):zh [.tup (ks.map kw),ldD l,.int 1]=.ok (.int (yD ks l)):=by rw[qaf hl hn h01 1 (·.v) qoM,qmH]
theorem qiK {β:Type} (ks:List Kw) (r:Int) (g:List Int->β):(qbS ks r).map (λp=>g p.1)=(vG ks r).map g:=by
 rw[<-qeW,mm_]
 rfl
theorem qmL(i j:Int):geD (.int i) (.int j)=some (.bl (decide (j<=i))):=rfl
theorem qpX(i j:Int):ltB (.int i) (.int j)=some (.bl (decide (i<j))):=rfl
theorem qpY (a b:List Int):ltB (ldD a) (ldD b)=some (.bl (HT.lexLt a b)):=by
 unfold ldD ltB
 simp only[w5]
theorem qoT (a b:List Int):neB (ldD a) (ldD b)=some (.bl (decide (a≠b))):=by
 have e:neB (ldD a) (ldD b)=neA (ldD a) (ldD b):=rfl
 rw[e]
 unfold neA ldD
 rw[qbG,qbG]
 show some (D.bl (!ybf (.tuple (toPDs (a.map D.int))) (.tuple (toPDs (b.map D.int)))))=_
 rw[qfS,decide_not]
theorem qqB {t u:M Bool} {Z:Env} {a b:Bool} (h1:t Z=.ok (a,Z)) (h2:u Z=.ok (b,Z)):qah t u Z=.ok (a&&b,Z):=by
 rw[qdN,h1]
 cases a
 ·rfl
 ·exact h2
theorem qpZ {f g:M D} {Z:Env} {a b:Bool} (h1:f Z=.ok (.bl a,Z)) (h2:g Z=.ok (.bl b,Z)):dor f g Z=.ok (.bl (a||b),Z):=by
 rw[ql4,h1]
 cases a
 ·exact h2
 ·rfl
theorem qgc {α:Type} (p:α->Bool):∀(l:List α)(b:Bool),l.foldl (λb y=>b||p y) b=(b||l.any p)
 | [],b=>by simp
 |a::l,b=>by rw[fo_,qgc p l,yeQ,Bool.or_assoc]
theorem qeh {α:Type} (p:α->Bool):∀(l acc:List α),l.foldl (λacc x=>if p x=true then acc else acc++[x]) acc=acc++l.filter λx => !p x
 | [],acc=>by simp
 |a::l,acc=>by
  rw[fo_,qeh p l,ft_]
  cases p a<;>simp
theorem qei {G:Int} (g0:0<=G):∀{ks:List Kw}{l:List Int},(∀k∈ks,sgB G k)->(∀t∈l,t=0\/t=1)->yD ks l<=40*G*(ks.length:Int)/\zy ks l<=40*G*(ks.length:Int)
 | [],_,_,_=>by simp[yD,zy]
 |k::ks,[],_,_=>by
  have:0<=40*G*(((k::ks).length:Nat):Int):=ydo (by omega) (by omega)
  exact⟨this,this⟩
 | k::ks,t::l,hk,hl=>by
  obtain⟨i1,i2⟩:=qei g0 (ks:=ks) (l:=l) (λk hk'=>hk k (mM _ hk')) λx hx=>hl x (mM _ hx)
  obtain⟨⟨a1,a2,_⟩,b1,b2⟩:=hk k mS_
  have e:40*G*(((k::ks).length:Nat):Int)=40*G*(ks.length:Int)+40*G:=by
   rw[lC_,Int.natCast_succ,Int.mul_add,Int.mul_one]
  rw[e]
  have m1:t*k.v<=40*G:=by rcases hl t mS_ with q|q<;>rw[q]<;>omega
  have m2:t*k.w<=40*G:=by rcases hl t mS_ with q|q<;>rw[q]<;>omega
  refine⟨?_,?_⟩
  ·show t*k.v+yD ks l<=_
   omega
  ·show t*k.w+zy ks l<=_
   omega
def r60:Int:=1000000000000000000000000000000000000000000000000000000000000
theorem qp0:qfq (.int 10) (.int 60)=some (.int r60):=by
 have h:qhJ 10 60=true:=by decide +kernel
 have e:(10:Int) ^ (60:Int).toNat=r60:=by decide +kernel
 simp only[qfq,qiY,h,if_true,e]
section
variable{ks:List Kw}{G:Int}(g0:1<=G)(g1:G<=100000000000000000000)(h:∀k∈ks,sgB G k)(hl:ks.length<=5)
include g0 g1 h hl
theorem qki {l:List Int} (hb:l∈jB ks):0<=zy ks l/\0<=yD ks l/\zy ks l<=20000000000000000000000/\yD ks l<=20000000000000000000000:=by
 have hs:∀k∈ks,sgK k:=λk hk=>(h k hk).1
 obtain⟨t1,t2⟩:=qei (by omega) h (qax hs hb)
 obtain⟨n1,n2⟩:=qiu hs hb
 have tl:40*G*(ks.length:Int)<=40*100000000000000000000*5:=Int.mul_le_mul (by omega) (by omega) (by omega) (by omega)
 refine⟨n1,n2,by omega,by omega⟩
theorem qiL:vG ks r60=jB ks:=by
 have hs:∀k∈ks,sgK k:=λk hk=>(h k hk).1
 rw[qcr hs (by unfold r60;omega)]
 refine List.filter_eq_self.mpr λl hb=>decide_eq_true ?_
 have:=(qki g0 g1 h hl hb).2.2.1
 unfold r60
 omega
theorem qe3 (Z:Env) (hρ:Z=[some (.tup (ks.map kw)),none,none,none,none,none,none,none]):(zE 1 [0] none (yt (qp ja (qa (dv 0) (qa (d2 qfq (ret (.int 10)) (ret (.int 60))) (ret []))))) (ql 0) (ret true) (qO (qa (qp zh (qa (dv 1) (qa (dv 0) (qa (ret (.int 0)) (ret []))))) (qa (qp zh (qa (dv 1) (qa (dv 0) (qa (ret (.int 1)) (ret []))))) (qa (dv 0) (ret [])))))) Z=.ok (.lst ((yw ks).map t3D),Z):=by
 subst hρ
 have hs:∀k∈ks,sgK k:=λk hk=>(h k hk).1
 obtain⟨e1,_⟩:=ww (λk hk=>qkh g1 (h k hk)) (by omega) (r:=r60) (by unfold r60;omega)
 rw[qiK ks _ ldD,qiL g0 g1 h hl]at e1
 have p2:(jB ks).length<=64:=yaA (qab hs) (yaA (ybA (by decide) hl) (by decide))
 have e:(yw ks).map t3D=(jB ks).map λl=>t3D (wg ks l):=by
  unfold yw
  rw[mm_]
  rfl
 rw[e]
 refine qbE (r:=[some (.tup (ks.map kw))]) (k:=ldD) (jB ks) (λl=>t3D (wg ks l)) ?_ rfl (by omega) λl hb=>?_
 ·rw[qbp,qk0 rfl (qo rfl rfl qp0) e1]
  rfl
 ·exact qoC (vX rfl rfl rfl (qcw (by omega) (qc7 hb) (qax hs hb))) (vX rfl rfl rfl (qeg (by omega) (qc7 hb) (qax hs hb))) rfl
end
theorem qgW (T Ls Fo:OD) (x y:T3) (b:Bool):(sif (qah (tst (d2 leD (d2 ixD (dv 7) (ret (.int 0))) (dv 3))) (qah (tst (d2 geD (d2 ixD (dv 7) (ret (.int 1))) (dv 4))) (tst (d2 neB (d2 ixD (dv 7) (ret (.int 2))) (dv 5))))) (zi 6 (dor (dv 6) (dor (d2 ltB (d2 ixD (dv 7) (ret (.int 0))) (dv 3)) (dor (d2 gtD (d2 ixD (dv 7) (ret (.int 1))) (dv 4)) (d2 ltB (d2 ixD (dv 7) (ret (.int 2))) (dv 5)))))) jA) [T,Ls,Fo,some (.int x.1),some (.int x.2.1),some (ldD x.2.2),some (.bl b),some (t3D y)]=.ok (.nx [T,Ls,Fo,some (.int x.1),some (.int x.2.1),some (ldD x.2.2),some (.bl (b||wrs x y)),some (t3D y)]):=by
 let Z:Env:=[T,Ls,Fo,some (.int x.1),some (.int x.2.1),some (ldD x.2.2),some (.bl b),some (t3D y)]
 have y0:d2 ixD (dv 7) (ret (.int 0)) Z=.ok (.int y.1,Z):=qo rfl rfl (qgV y)
 have y1:d2 ixD (dv 7) (ret (.int 1)) Z=.ok (.int y.2.1,Z):=qo rfl rfl (qee y)
 have y2:d2 ixD (dv 7) (ret (.int 2)) Z=.ok (ldD y.2.2,Z):=qo rfl rfl (qoP y)
 have t:(qah (tst (d2 leD (d2 ixD (dv 7) (ret (.int 0))) (dv 3))) (qah (tst (d2 geD (d2 ixD (dv 7) (ret (.int 1))) (dv 4))) (tst (d2 neB (d2 ixD (dv 7) (ret (.int 2))) (dv 5))))) Z=.ok (decide (y.1<=x.1)&&(decide (x.2.1<=y.2.1)&&decide (y.2.2≠x.2.2)),Z):=qqB (zT (qo y0 rfl (qcU _ _))) (qqB (zT (qo y1 rfl (qmL _ _))) (zT (qo y2 rfl (qoT _ _))))
 have s:(dor (dv 6) (dor (d2 ltB (d2 ixD (dv 7) (ret (.int 0))) (dv 3)) (dor (d2 gtD (d2 ixD (dv 7) (ret (.int 1))) (dv 4)) (d2 ltB (d2 ixD (dv 7) (ret (.int 2))) (dv 5))))) Z=.ok (.bl (b||(decide (y.1<x.1)||(decide (x.2.1<y.2.1)||HT.lexLt y.2.2 x.2.2))),Z):=qpZ rfl (qpZ (qo y0 rfl (qpX _ _)) (qpZ (qo y1 rfl (wf _ _)) (qo y2 rfl (qpY _ _))))
 show sif _ _ _ Z=_
 unfold wrs
 cases c:decide (y.1<=x.1)&&(decide (x.2.1<=y.2.1)&&decide (y.2.2≠x.2.2)) with
 |true=>
  rw[c]at t
  rw[qgP t,uM s]
  rfl
 |false=>
  rw[c]at t
  rw[qev t,ydj,Bool.or_false]
  rfl
theorem qgd:∀L:List T3,qdZ (L.map t3D)=some L
 | []=>rfl
 | x::L=>by
  have e:qi0 (t3D x)=some x:=by
   unfold qi0 t3D ldD
   simp only[w5]
  rw[mC_]
  unfold qdZ
  rw[e,qgd L]
theorem qiM (L:List T3):qb2 (Srt.ord (qN L)) (L.map t3D)=(qmU L).map t3D:=by
 unfold qb2 qmU
 rw[mm_]
 refine mL_ λi hi=>?_
 have hi':=(Srt.ord_perm (qN L)).mem_iff.mp hi
 rw[mR_,zn]at hi'
 show(L.map t3D).getD i D.non=t3D (L.getD i (0,0,[]))
 simp[hi']
theorem qbT {ks:List Kw} {G:Int} (g0:1<=G) (g1:G<=100000000000000000000) (h:∀k∈ks,sgB G k) (hl:ks.length<=5):zY [.tup (ks.map kw)]=.ok (.lst ((nbL ks).map t3D)):=by
 have hs:∀k∈ks,sgK k:=λk hk=>(h k hk).1
 have h32:=qde hs hl
 let T:OD:=some (.tup (ks.map kw))
 let Ls:OD:=some (.lst ((yw ks).map t3D))
 obtain ⟨Z',q,o3,o4,o5,o6,o7,_,rfl⟩:=jD (G:=vN 3 (qQ (ql 3) (qQ (ql 4) (qQ (ql 5) vq)))) (b:=(qH (zi 6 (ret (.bl false))) (qH (wy (yt (dv 1)) (ql 7) (sif (qah (tst (d2 leD (d2 ixD (dv 7) (ret (.int 0))) (dv 3))) (qah (tst (d2 geD (d2 ixD (dv 7) (ret (.int 1))) (dv 4))) (tst (d2 neB (d2 ixD (dv 7) (ret (.int 2))) (dv 5))))) (zi 6 (dor (dv 6) (dor (d2 ltB (d2 ixD (dv 7) (ret (.int 0))) (dv 3)) (dor (d2 gtD (d2 ixD (dv 7) (ret (.int 1))) (dv 4)) (d2 ltB (d2 ixD (dv 7) (ret (.int 2))) (dv 5)))))) jA)) (sif (wE (tst (dv 6))) (jk (zH 2 (qO (qa (dv 3) (qa (dv 4) (qa (dv 5) (ret []))))))) jA)))) (k:=t3D) (step:=λ(acc:List T3) (x:T3)=>if vo (yw ks) x=true then acc else acc++[x])
  (Inv:=λn acc Z=>∃o3 o4 o5 o6 o7,acc.length<=n/\Z=[T,Ls,some (.lst (acc.map t3D)),o3,o4,o5,o6,o7]) (yw ks) 0 [] [T,Ls,some (.lst []),none,none,none,none,none] ⟨none,none,none,none,none,yad _,rfl⟩ (λx hx n acc Z _ hn=>by
  rintro⟨o3,o4,o5,o6,o7,ha,rfl⟩
  let Fo:OD:=some (.lst (acc.map t3D))
  let A:OD:=some (.int x.1)
  let B:OD:=some (.int x.2.1)
  let C:OD:=some (ldD x.2.2)
  obtain ⟨Z2,q2,p7,rfl⟩:=jD (G:=ql 7) (b:=(sif (qah (tst (d2 leD (d2 ixD (dv 7) (ret (.int 0))) (dv 3))) (qah (tst (d2 geD (d2 ixD (dv 7) (ret (.int 1))) (dv 4))) (tst (d2 neB (d2 ixD (dv 7) (ret (.int 2))) (dv 5))))) (zi 6 (dor (dv 6) (dor (d2 ltB (d2 ixD (dv 7) (ret (.int 0))) (dv 3)) (dor (d2 gtD (d2 ixD (dv 7) (ret (.int 1))) (dv 4)) (d2 ltB (d2 ixD (dv 7) (ret (.int 2))) (dv 5)))))) jA)) (k:=t3D) (step:=λ(b:Bool) (y:T3)=>b||wrs x y) (Inv:=λ_ b Z=>∃o7,Z=[T,Ls,Fo,A,B,C,some (.bl b),o7]) (yw ks) 0 false [T,Ls,Fo,A,B,C,some (.bl false),o7] ⟨o7,rfl⟩ (λy _ m b Z _ _=>by
   rintro⟨o7,rfl⟩
   exact⟨[T,Ls,Fo,A,B,C,some (.bl b),some (t3D y)],_,rfl,qgW T Ls Fo x y b,some (t3D y),rfl⟩)
  rw[qgc,Bool.false_or]at q2
  have q2':uS (ql 7) (sif (qah (tst (d2 leD (d2 ixD (dv 7) (ret (.int 0))) (dv 3))) (qah (tst (d2 geD (d2 ixD (dv 7) (ret (.int 1))) (dv 4))) (tst (d2 neB (d2 ixD (dv 7) (ret (.int 2))) (dv 5))))) (zi 6 (dor (dv 6) (dor (d2 ltB (d2 ixD (dv 7) (ret (.int 0))) (dv 3)) (dor (d2 gtD (d2 ixD (dv 7) (ret (.int 1))) (dv 4)) (d2 ltB (d2 ixD (dv 7) (ret (.int 2))) (dv 5)))))) jA) ((yw ks).map t3D) [T,Ls,Fo,A,B,C,some (.bl false),o7]=.ok (.nx [T,Ls,Fo,A,B,C,some (.bl (vo (yw ks) x)),p7]):=q2
  let Z3:Env:=[T,Ls,Fo,A,B,C,some (.bl (vo (yw ks) x)),p7]
  refine⟨[T,Ls,Fo,A,B,C,o6,o7],[T,Ls,some (.lst ((if vo (yw ks) x=true then acc else acc++[x]).map t3D)),A,B,C,some (.bl (vo (yw ks) x)),p7],rfl,?_,A,B,C,some (.bl (vo (yw ks) x)),p7,?_,rfl⟩
  ·refine (qi (Z':=[T,Ls,Fo,A,B,C,some (.bl false),o7]) rfl).trans ((qi (Z':=Z3) ?_).trans ?_)
   ·rw[yS]
    exact q2'
   ·have tn:wE (tst (dv 6)) Z3=.ok (!vo (yw ks) x,Z3):=by rw[qbo,zT (b:=vo (yw ks) x) rfl]
    cases c:vo (yw ks) x with
    |true=>
     rw[c]at tn
     rw[if_pos rfl]
     show sif _ _ _ Z3=_
     rw[qev tn]
     show R.ok (Fl.nx [T,Ls,Fo,A,B,C,some (.bl (vo (yw ks) x)),p7])=_
     rw[c]
    |false=>
     rw[c]at tn
     rw[if_neg (by simp)]
     show sif _ _ _ Z3=_
     rw[qgP tn,w6 (Z:=Z3) (ds:=acc.map t3D) (d:=t3D x) rfl (qoC rfl rfl rfl) (qk7 x) (by rw[lM_];omega),yaR]
     show R.ok (Fl.nx [T,Ls,_,A,B,C,some (.bl (vo (yw ks) x)),p7])=_
     rw[c]
     rfl
  ·split
   ·omega
   ·rw[lA_,yau]
    omega)
 rw[qeh,ybc]at q
 let Un:List T3:=(yw ks).filter λx => !vo (yw ks) x
 have hU:Un.length<64:=Nat.lt_of_le_of_lt (List.length_filter_le _ _) (by omega)
 let Z0:Env:=[T,none,none,none,none,none,none,none]
 let Z1:Env:=[T,Ls,none,none,none,none,none,none]
 let Z2:Env:=[T,Ls,some (.lst []),none,none,none,none,none]
 let Z3:Env:=[T,Ls,some (.lst (Un.map t3D)),o3,o4,o5,o6,o7]
 unfold zY ut
 refine qai rfl ⟨Z3,?_⟩
 refine(qi (Z':=Z1) (uM (Z1:=Z0) (qe3 g0 g1 h hl Z0 rfl))).trans ?_
 refine(qi (Z':=Z2) ?_).trans ?_
 ·push_cast [immL,zf (show 0<=1000000 by omega),yaF,T,Ls,Z1]
  rfl
 refine(qi (Z':=Z3) ?_).trans (ye ?_)
 ·rw[yS]
  exact q
 ·rw[qog,qjZ (Z:=Z3) (ds:=Un.map t3D) (ks:=Un) rfl (by rw[lM_];exact hU) (qgd Un),qiM,qoG]
theorem qdh (ks:List Kw) (hl:ks.length<=12):jz [.tup (ks.map kw)]=.ok (.tup [.tup ((ks.take (ks.length/2)).map kw),.tup ((ks.drop (ks.length/2)).map kw)]):=by
 unfold jz u3
 let T:OD:=some (.tup (ks.map kw))
 let Z0:Env:=[T,none]
 let Z:Env:=[T,some (.int ((ks.length/2:Nat):Int))]
 have n2:d2 ux (qq vt (qa (dv 0) (ret []))) (ret (.int 2)) Z0=.ok (.int ((ks.length/2:Nat):Int),Z0):=qo (jg (a:=.tup (ks.map kw)) rfl (by rw[j6,lM_])) rfl (by rw[ul (by decide) (by decide)];rfl)
 have p:yA (dv 1) Z=.ok (some ((ks.length/2:Nat):Int),Z):=by rw[qaq];rfl
 have v:dv 0 Z=.ok (.tup (ks.map kw),Z):=rfl
 have c1:=qc8 (ks.map kw) (ks.length/2) (by rw[lM_];omega)
 have c2:=qfY (ks.map kw) (ks.length/2) (by rw[lM_];omega)
 have z1:qcQ (dv 0) (ret none) (yA (dv 1)) Z=.ok (.tup ((ks.map kw).take (ks.length/2)),Z):=by
  rw[qby]
  simp only[v,vB,p,slB,c1]
 have z2:qcQ (dv 0) (yA (dv 1)) (ret none) Z=.ok (.tup ((ks.map kw).drop (ks.length/2)),Z):=by
  rw[qby]
  simp only[v,vB,p,slB,c2]
 rw[yeU,ydJ]
 refine qai rfl ⟨Z,(qi (Z':=Z) (uM (Z1:=Z0) n2)).trans (ye (qj3 z1 z2))⟩
theorem qcx {F:List D->R D} {l:M (List D)} {Z Z':Env} {ds:List D} {n:Str} (hl:l Z=.ok (ds,Z)) (h:F ds=.exc ⟨n,.non⟩ Z') (hn:RN.contains n=true):yT RN F l Z=.exc ⟨n,.non⟩ Z:=by
 rw[wU,hl]
 simp only[h,hn,if_true]
theorem qge{f:M D}{Z Z':Env}{x:Exn}(h:f Z=.exc x Z'):jk f Z=.exc x Z':=by rw[v9,h]
theorem qkj {qs:List Kw} (h:∀k∈qs,k.m=some 0\/k.m=some 1\/k.m=some 2\/k.m=none\/k.m=some 3) (hl:qs.length<=12) (hx:qs.all qkf=false):j9 [.tup (qs.map kw)]=.exc ⟨"NotSingle",.non⟩ [some (.tup (qs.map kw))]:=by
 have c:=qbR h hl _ rfl
 rw[hx]at c
 unfold j9
 refine qaK rfl ?_
 unfold z6
 have tn:=(qbo (t:=tst (qq qfm (qa (zE 1 [] none (yt (dv 0)) (ql 0) (ret true) (d2 inB (d2 ixD (dv 0) (ret (.int 2))) (qO (qa (ret (.int 0)) (qa (ret (.int 1)) (ret [])))))) (ret [])))) (Z:=[some (.tup (qs.map kw))]))
 rw[c]at tn
 show sif _ _ _ [some (.tup (qs.map kw))]=_
 rw[qgP tn]
 push_cast [sm1]
theorem qla {t:M Bool} {b:MS} {n:Nat} {Z Z1 Z2:Env} (h:t Z=.ok (true,Z1)) (hb:b Z1=.ok (.nx Z2)):uy t b (n+1) Z=uy t b n Z2:=by
 show(match t Z with|.ok (true,Z1)=>_|.ok (false,Z1)=>_|.exc x Z'=>_|.bad=>_)=_
 rw[h]
 simp only[hb]
theorem qqC {t:M Bool} {b:MS} {n:Nat} {Z Z1 Z2:Env} {d:D} (h:t Z=.ok (true,Z1)) (hb:b Z1=.ok (.rt d Z2)):uy t b (n+1) Z=.ok (.rt d Z2):=by
 show(match t Z with|.ok (true,Z1)=>_|.ok (false,Z1)=>_|.exc x Z'=>_|.bad=>_)=_
 rw[h]
 simp only[hb]
theorem qo9 {t:M Bool} {b:MS} {n:Nat} {Z Z1:Env} (h:t Z=.ok (false,Z1)):uy t b (n+1) Z=.ok (.nx Z1):=by
 show(match t Z with|.ok (true,Z1)=>_|.ok (false,Z1)=>_|.exc x Z'=>_|.bad=>_)=_
 rw[h]
def stD(p:Nat×Nat):D:=.tup [.int (p.1:Nat),.int (p.2:Nat)]
def qp1 (o:Option (List (Nat×Nat))):D:=match o with
 |none => .non
 |some s => .tup (s.map stD)
theorem qpa{A:List T3}{i:Nat}(h:i<A.length):ixD (.lst (A.map t3D)) (.int (i:Nat))=some (t3D (tAt A i)):=qk1 (by rw[gM_,qmy h];rfl)
theorem qcy (A:List T3):vt [.lst (A.map t3D)]=some (.int ((A.length:Nat):Int)):=by
 show some (D.int ((A.map t3D).length:Nat))=_
 rw[lM_]
def qiN:M Bool:=(qah (tst (d2 ltD (dv 5) (qq vt (qa (d2 ixD (dv 3) (ret (.int 0))) (ret []))))) (tst (d2 geD (dv 6) (ret (.int 0)))))
def qiO:MS:=(qH (jk (zH 4 (qO (qa (dv 5) (qa (dv 6) (ret [])))))) (sif (tst (d2 gtD (d2 qU (d2 ixD (d2 ixD (d2 ixD (dv 3) (ret (.int 0))) (dv 5)) (ret (.int 0))) (d2 ixD (d2 ixD (d2 ixD (dv 3) (ret (.int 1))) (dv 6)) (ret (.int 0)))) (dv 1))) (zi 6 (d2 qdp (dv 6) (ret (.int 1)))) (sif (tst (d2 geD (d2 qU (d2 ixD (d2 ixD (d2 ixD (dv 3) (ret (.int 0))) (dv 5)) (ret (.int 1))) (d2 ixD (d2 ixD (d2 ixD (dv 3) (ret (.int 1))) (dv 6)) (ret (.int 1)))) (dv 2))) (jd (ret .non)) (zi 5 (d2 qU (dv 5) (ret (.int 1)))))))
theorem qaF {A B:List T3} {r u:Int} (T:OD):∀(m i j:Nat)(acc:List (Nat×Nat)),A.length-i+j<=m->i<=A.length->j<=B.length->acc.length+m<=500 ->
  (qaL A B r u m i j acc=none->∃n Z',uy qiN qiO n [T,some (.int r),some (.int u),some (.tup [.lst (A.map t3D),.lst (B.map t3D)]),some (.lst (acc.map stD)),some (.int (i:Nat)),some (.int ((j:Int)-1))]=.ok (.rt .non Z')) /\
  ∀s,qaL A B r u m i j acc=some s->∃n o5 o6,uy qiN qiO n [T,some (.int r),some (.int u),some (.tup [.lst (A.map t3D),.lst (B.map t3D)]),some (.lst (acc.map stD)),some (.int (i:Nat)),some (.int ((j:Int)-1))]=.ok (.nx [T,some (.int r),some (.int u),some (.tup [.lst (A.map t3D),.lst (B.map t3D)]),some (.lst (s.map stD)),o5,o6])
 |0,i,j,acc,hm,hi,hj,_=>by
  refine⟨(λh=>by cases h),λs hs=>?_⟩
  cases hs
  let Z:Env:=[T,some (.int r),some (.int u),some (.tup [.lst (A.map t3D),.lst (B.map t3D)]),some (.lst (acc.map stD)),some (.int (i:Nat)),some (.int ((j:Int)-1))]
  have t:qiN Z=.ok (false,Z):=qiz (zT (qo rfl (jg (qo rfl rfl rfl) (qcy A)) (by rw[wj,decide_eq_false (by omega)])))
  exact⟨1,_,_,qo9 t⟩
 | m + 1,i,j,acc,hm,hi,hj,ha=>by
  let Z:Env:=[T,some (.int r),some (.int u),some (.tup [.lst (A.map t3D),.lst (B.map t3D)]),some (.lst (acc.map stD)),some (.int (i:Nat)),some (.int ((j:Int)-1))]
  have t1:tst (d2 ltD (dv 5) (qq vt (qa (d2 ixD (dv 3) (ret (.int 0))) (ret [])))) Z=.ok (decide ((i:Int)<(A.length:Int)),Z):=zT (qo rfl (jg (qo rfl rfl rfl) (qcy A)) (wj _ _))
  have t2:tst (d2 geD (dv 6) (ret (.int 0))) Z=.ok (decide ((0:Int)<=(j:Int)-1),Z):=zT (qo rfl rfl rfl)
  unfold qaL
  by_cases c:i<A.length/\0<j
  ·rw [if_pos c]
   obtain⟨c1,c2⟩:=c
   rw[decide_eq_true (by omega)]at t1 t2
   have tt:qiN Z=.ok (true,Z):=qgS t1 t2
   have ej:((j:Int)-1)=((j-1:Nat):Int):=by omega
   let Z1:Env:=[T,some (.int r),some (.int u),some (.tup [.lst (A.map t3D),.lst (B.map t3D)]),some (.lst ((acc++[(i,j-1)]).map stD)),some (.int (i:Nat)),some (.int ((j:Int)-1))]
   have s0:jk (zH 4 (qO (qa (dv 5) (qa (dv 6) (ret []))))) Z=.ok (.nx Z1):=by
    rw[w6 (ds:=acc.map stD) (d:=.tup [.int (i:Nat),.int ((j:Int)-1)]) (Z:=Z) rfl (qj3 rfl rfl) rfl (by rw[lM_];omega),ej]
    show R.ok (Fl.nx [T,some (.int r),some (.int u),some (.tup [.lst (A.map t3D),.lst (B.map t3D)]),some (.lst (acc.map stD++[.tup [.int (i:Nat),.int ((j-1:Nat):Int)]])),some (.int (i:Nat)),some (.int ((j:Int)-1))])=_
    show _=R.ok (Fl.nx [T,some (.int r),some (.int u),some (.tup [.lst (A.map t3D),.lst (B.map t3D)]),some (.lst ((acc++[(i,j-1)]).map stD)),some (.int (i:Nat)),some (.int ((j:Int)-1))])
    rw[yaR]
    rfl
   have xa:d2 ixD (d2 ixD (dv 3) (ret (.int 0))) (dv 5) Z1=.ok (t3D (tAt A i),Z1):=qo (qo rfl rfl rfl) rfl (qpa c1)
   have xb:d2 ixD (d2 ixD (dv 3) (ret (.int 1))) (dv 6) Z1=.ok (t3D (tAt B (j-1)),Z1):=qo (b:=.int ((j:Int)-1)) (qo rfl rfl rfl) rfl (by rw[ej];exact qpa (by omega))
   have tw:tst (d2 gtD (d2 qU (d2 ixD (d2 ixD (d2 ixD (dv 3) (ret (.int 0))) (dv 5)) (ret (.int 0))) (d2 ixD (d2 ixD (d2 ixD (dv 3) (ret (.int 1))) (dv 6)) (ret (.int 0)))) (dv 1)) Z1=.ok (decide (r<(tAt A i).1+(tAt B (j-1)).1),Z1):=zT (qo (qo (qo xa rfl (qgV _)) (qo xb rfl (qgV _)) (zx _ _)) rfl (wf _ _))
   have tg:tst (d2 geD (d2 qU (d2 ixD (d2 ixD (d2 ixD (dv 3) (ret (.int 0))) (dv 5)) (ret (.int 1))) (d2 ixD (d2 ixD (d2 ixD (dv 3) (ret (.int 1))) (dv 6)) (ret (.int 1)))) (dv 2)) Z1=.ok (decide (u<=(tAt A i).2.1+(tAt B (j-1)).2.1),Z1):=zT (qo (qo (qo xa rfl (qee _)) (qo xb rfl (qee _)) (zx _ _)) rfl rfl)
   by_cases d:r<(tAt A i).1+(tAt B (j-1)).1
   ·rw [if_pos d]
    rw[decide_eq_true d]at tw
    obtain⟨e1,e2⟩:=qaF (A:=A) (B:=B) (r:=r) (u:=u) T m i (j-1) (acc++[(i,j-1)]) (by omega) hi (by omega) (by rw[lA_,yau];omega)
    have bd:qiO Z=.ok (.nx [T,some (.int r),some (.int u),some (.tup [.lst (A.map t3D),.lst (B.map t3D)]),some (.lst ((acc++[(i,j-1)]).map stD)),some (.int (i:Nat)),some (.int (((j-1:Nat):Int)-1))]):=by
     refine(qi s0).trans ((qgP tw).trans ?_)
     rw[uM (Z1:=Z1) (qo (d:=.int ((j:Int)-1-1)) rfl rfl (vP _ _)),<-ej]
     rfl
    refine⟨λh=>?_,λs hs=>?_⟩
    ·obtain⟨n,Z',q⟩:=e1 h
     exact⟨n+1,Z',(qla tt bd).trans q⟩
    ·obtain⟨n,o5,o6,q⟩:=e2 s hs
     exact⟨n+1,o5,o6,(qla tt bd).trans q⟩
   ·rw [if_neg d]
    rw[decide_eq_false d]at tw
    by_cases g:u<=(tAt A i).2.1+(tAt B (j-1)).2.1
    ·rw[if_pos g]
     rw[decide_eq_true g]at tg
     have bd:qiO Z=.ok (.rt .non Z1):=(qi s0).trans ((qev tw).trans ((qgP tg).trans (ye rfl)))
     exact⟨λ_=>⟨1,Z1,qqC tt bd⟩,λs hs=>by cases hs⟩
    ·rw [if_neg g]
     rw[decide_eq_false g]at tg
     obtain⟨e1,e2⟩:=qaF (A:=A) (B:=B) (r:=r) (u:=u) T m (i+1) j (acc++[(i,j-1)]) (by omega) (by omega) hj (by rw[lA_,yau];omega)
     have bd:qiO Z=.ok (.nx [T,some (.int r),some (.int u),some (.tup [.lst (A.map t3D),.lst (B.map t3D)]),some (.lst ((acc++[(i,j-1)]).map stD)),some (.int ((i+1:Nat):Int)),some (.int ((j:Int)-1))]):=(qi s0).trans ((qev tw).trans ((qev tg).trans (uM (Z1:=Z1) (qo (d:=.int ((i+1:Nat):Int)) rfl rfl rfl))))
     refine⟨λh=>?_,λs hs=>?_⟩
     ·obtain⟨n,Z',q⟩:=e1 h
      exact⟨n+1,Z',(qla tt bd).trans q⟩
     ·obtain⟨n,o5,o6,q⟩:=e2 s hs
      exact⟨n+1,o5,o6,(qla tt bd).trans q⟩
  ·rw [if_neg c]
   refine⟨(λh=>by cases h),λs hs=>?_⟩
   cases hs
   have tt:qiN Z=.ok (false,Z):=by
    by_cases ci:i<A.length
    ·rw[decide_eq_true (by omega)]at t1
     rw[decide_eq_false (by omega)]at t2
     exact qgS t1 t2
    ·rw[decide_eq_false (by omega)]at t1
     exact qiz t1
   exact⟨1,_,_,qo9 tt⟩
section
variable{ks:List Kw}(h:∀k∈ks,sgK k)(hl:ks.length<=10)
include h hl
theorem qej {r:Int} (hr:0<=r) (u:Int):qx [.tup (ks.map kw),.int r,.int u]=.ok (qp1 (qiw (nbL (ks.take (ks.length/2))) (nbL (ks.drop (ks.length/2))) r u)):=by
 obtain⟨h1,h2,l1,l2⟩:=qad h hl
 let A:=nbL (ks.take (ks.length/2))
 let B:=nbL (ks.drop (ks.length/2))
 have n1:A.length<=32:=qaD h1 l1
 have n2:B.length<=32:=qaD h2 l2
 let T:OD:=some (.tup (ks.map kw))
 let R:OD:=some (.int r)
 let U:OD:=some (.int u)
 let Bo:OD:=some (.tup [.lst (A.map t3D),.lst (B.map t3D)])
 unfold qx jL
 let Z0:Env:=[T,R,U,none,none,none,none]
 have g0:qa (dv 0) (ret []) Z0=.ok ([.tup (ks.map kw)],Z0):=yC rfl
 have g1:qa (dv 1) (ret []) Z0=.ok ([.int r],Z0):=yC rfl
 have g2:qa (dv 2) (ret []) Z0=.ok ([.int u],Z0):=yC rfl
 let Z3:Env:=[T,R,U,Bo,none,none,none]
 let Z4:Env:=[T,R,U,Bo,some (.lst []),none,none]
 let Z5:Env:=[T,R,U,Bo,some (.lst []),some (.int 0),none]
 let Z6:Env:=[T,R,U,Bo,some (.lst []),some (.int 0),some (.int ((B.length:Int)-1))]
 obtain⟨e1,e2⟩:=qaF (A:=A) (B:=B) (r:=r) (u:=u) T (A.length+B.length) 0 B.length [] (by omega) (by omega) (yad _) (by simp;omega)
 have s4:vn 4 (qgw (ret [])) Z3=.ok (.nx Z4):=by
  push_cast [immL,zf (show 0<=1000000 by omega),yaF,Z3]
  rfl
 have s6:zi 6 (d2 qdp (qq vt (qa (d2 ixD (dv 3) (ret (.int 1))) (ret []))) (ret (.int 1))) Z5=.ok (.nx Z6):=uM (Z1:=Z5) (qo (jg (qo rfl rfl rfl) (qcy B)) rfl (vP _ _))
 cases es:qiw A B r u with
 |none=>
  obtain⟨n,Z',q⟩:=e1 es
  refine qeL rfl ⟨Z',?_⟩
  refine(qi (Z':=Z0) (xx1 g0 (z7 _ (qdf h (by omega))))).trans ?_
  refine(qi (Z':=Z0) (xx1 g1 (qoR hr))).trans ?_
  refine(qi (Z':=Z0) (xx1 g2 (u6 _ rfl))).trans ?_
  refine(qi (Z':=Z3) (xs1 g0 (qae h hl))).trans ?_
  refine(qi s4).trans ((qi (Z':=Z5) rfl).trans ((qi s6).trans ?_))
  exact vh (wS q (by intro z;cases z))
 |some s=>
  obtain⟨n,o5,o6,q⟩:=e2 s es
  refine qeL rfl ⟨[T,R,U,Bo,some (.lst (s.map stD)),o5,o6],?_⟩
  refine(qi (Z':=Z0) (xx1 g0 (z7 _ (qdf h (by omega))))).trans ?_
  refine(qi (Z':=Z0) (xx1 g1 (qoR hr))).trans ?_
  refine(qi (Z':=Z0) (xx1 g2 (u6 _ rfl))).trans ?_
  refine(qi (Z':=Z3) (xs1 g0 (qae h hl))).trans ?_
  refine(qi s4).trans ((qi (Z':=Z5) rfl).trans ((qi s6).trans ?_))
  exact(qi (wS q (by intro z;cases z))).trans rfl
end
theorem jV:RN.contains "NotSingle"=true:=by decide
theorem qbU:jr [.exc "NotSingle"]=.ok (.str "single"):=by
 have f0:(("SackError":Str)=="ValueError"||uz "NotSingle" "SackError")=true:=by decide
 have f1:(("ValueError":Str)=="ValueError"||uz "NotSingle" "ValueError")=true:=by decide
 have f2:(("NoStore":Str)=="ValueError"||uz "NotSingle" "NoStore")=false:=by decide
 have f3:(("NoNumber":Str)=="ValueError"||uz "NotSingle" "NoNumber")=false:=by decide
 have f4:(("NoLoad":Str)=="ValueError"||uz "NotSingle" "NoLoad")=false:=by decide
 have f5:(("TooMany":Str)=="ValueError"||uz "NotSingle" "TooMany")=false:=by decide
 have f6:(("NotSingle":Str)=="ValueError"||uz "NotSingle" "NotSingle")=true:=by decide
 have f7:(("NoText":Str)=="ValueError"||uz "NotSingle" "NoText")=false:=by decide
 unfold jr
 refine qai rfl ⟨[some (.exc "NotSingle"),some (.lst [.bl false,.bl false,.bl false,.bl false,.bl true,.bl false])],?_⟩
 unfold yE
 refine(qi (Z':=[some (.exc "NotSingle"),none]) ?_).trans ?_
 ·push_cast [f0,f1,jV]
 refine(qi (Z':=[some (.exc "NotSingle"),some (.lst [.bl false,.bl false,.bl false,.bl false])]) ?_).trans ?_
 ·push_cast [f2,f3,f4,f5,jV,zf (show 4<=1000000 by omega)]
 refine(qi (Z':=[some (.exc "NotSingle"),some (.lst [.bl false,.bl false,.bl false,.bl false,.bl true,.bl false])]) ?_).trans ?_
 ·push_cast [f6,f7,jV,zf (show 2<=1000000 by omega),wZ (xs:=[.bl false,.bl false,.bl false,.bl false]) (ys:=[.bl true,.bl false]) (by simp)]
 have c1:qdS (.lst [.bl false,.bl false,.bl false,.bl false,.bl true,.bl false]) [.bl true]=some (.int 1):=rfl
 have c2:neS (.int 1) (.int 1)=some (.bl false):=rfl
 have c3:qdT (.lst [.bl false,.bl false,.bl false,.bl false,.bl true,.bl false]) [.bl true]=some (.int 4):=rfl
 have c4:ixD (.lst [.str "store",.str "number",.str "load",.str "many",.str "single",.str "text"]) (.int 4)=some (.str "single"):=rfl
 refine(qi (Z':=[some (.exc "NotSingle"),some (.lst [.bl false,.bl false,.bl false,.bl false,.bl true,.bl false])]) ?_).trans ?_
 ·push_cast [c1,c2]
 ·push_cast [c3,c4,zf (show 6<=1000000 by omega)]
theorem jM:RN.contains "NoNumber"=true:=by decide
theorem vY:jr [.exc "NoNumber"]=.ok (.str "number"):=by
 have f0:(("SackError":Str)=="ValueError"||uz "NoNumber" "SackError")=true:=by decide
 have f1:(("ValueError":Str)=="ValueError"||uz "NoNumber" "ValueError")=true:=by decide
 have f2:(("NoStore":Str)=="ValueError"||uz "NoNumber" "NoStore")=false:=by decide
 have f3:(("NoNumber":Str)=="ValueError"||uz "NoNumber" "NoNumber")=true:=by decide
 have f4:(("NoLoad":Str)=="ValueError"||uz "NoNumber" "NoLoad")=false:=by decide
 have f5:(("TooMany":Str)=="ValueError"||uz "NoNumber" "TooMany")=false:=by decide
 have f6:(("NotSingle":Str)=="ValueError"||uz "NoNumber" "NotSingle")=false:=by decide
 have f7:(("NoText":Str)=="ValueError"||uz "NoNumber" "NoText")=false:=by decide
 unfold jr
 refine qai rfl ⟨[some (.exc "NoNumber"),some (.lst [.bl false,.bl true,.bl false,.bl false,.bl false,.bl false])],?_⟩
 unfold yE
 refine(qi (Z':=[some (.exc "NoNumber"),none]) ?_).trans ?_
 ·push_cast [f0,f1,jM]
 refine(qi (Z':=[some (.exc "NoNumber"),some (.lst [.bl false,.bl true,.bl false,.bl false])]) ?_).trans ?_
 ·push_cast [f2,f3,f4,f5,jM,zf (show 4<=1000000 by omega)]
 refine(qi (Z':=[some (.exc "NoNumber"),some (.lst [.bl false,.bl true,.bl false,.bl false,.bl false,.bl false])]) ?_).trans ?_
 ·push_cast [f6,f7,jM,zf (show 2<=1000000 by omega),wZ (xs:=[.bl false,.bl true,.bl false,.bl false]) (ys:=[.bl false,.bl false]) (by simp)]
 have c1:qdS (.lst [.bl false,.bl true,.bl false,.bl false,.bl false,.bl false]) [.bl true]=some (.int 1):=rfl
 have c2:neS (.int 1) (.int 1)=some (.bl false):=rfl
 have c3:qdT (.lst [.bl false,.bl true,.bl false,.bl false,.bl false,.bl false]) [.bl true]=some (.int 1):=rfl
 have c4:ixD (.lst [.str "store",.str "number",.str "load",.str "many",.str "single",.str "text"]) (.int 1)=some (.str "number"):=rfl
 refine(qi (Z':=[some (.exc "NoNumber"),some (.lst [.bl false,.bl true,.bl false,.bl false,.bl false,.bl false])]) ?_).trans ?_
 ·push_cast [c1,c2]
 ·push_cast [c3,c4,zf (show 6<=1000000 by omega)]
def uu (A B:List T3) (r u:Int):Nat->Nat->Nat->List (Nat×Nat)->List (Nat×Nat)×Bool
 |0,_,_,acc=>(acc,true)
 | m+1,i,j,acc=>if i<A.length/\0<j then
   if r<(tAt A i).1+(tAt B (j-1)).1 then uu A B r u m i (j-1) (acc++[(i,j-1)])
   else if u<=(tAt A i).2.1+(tAt B (j-1)).2.1 then(acc++[(i,j-1)],false)
   else uu A B r u m (i+1) j (acc++[(i,j-1)])
  else(acc,true)
theorem qiP {A B:List T3} {r u:Int}:∀(m i j:Nat)(acc:List (Nat×Nat)),qaL A B r u m i j acc=if(uu A B r u m i j acc).2=true then some (uu A B r u m i j acc).1 else none
 |0,i,j,acc=>rfl
 | m + 1,i,j,acc=>by
  unfold qaL uu
  by_cases c:i<A.length/\0<j
  ·rw [if_pos c,if_pos c]
   by_cases d:r<(tAt A i).1+(tAt B (j-1)).1
   ·rw[if_pos d,if_pos d]
    exact qiP m i (j-1) _
   ·rw [if_neg d,if_neg d]
    by_cases g:u<=(tAt A i).2.1+(tAt B (j-1)).2.1
    ·rw[if_pos g,if_pos g]
     rfl
    ·rw[if_neg g,if_neg g]
     exact qiP m (i+1) j _
  ·rw[if_neg c,if_neg c]
   rfl
theorem qe4 {A B:List T3} {r u:Int}:∀(m i j:Nat)(acc:List (Nat×Nat)),j<=B.length->(∀p∈acc,p.1<A.length/\p.2<B.length)->(∀p∈(uu A B r u m i j acc).1,p.1<A.length/\p.2<B.length)/\(uu A B r u m i j acc).1.length<=acc.length+m
 |0,i,j,acc,_,h=>⟨h,yad _⟩
 | m + 1,i,j,acc,hj,h=>by
  unfold uu
  by_cases c:i<A.length/\0<j
  ·rw [if_pos c]
   have h':∀p∈acc++[(i,j-1)],p.1<A.length/\p.2<B.length:=λp hp=>by
    rcases mA_.mp hp with hp|hp
    ·exact h p hp
    ·rw[ms_.mp hp]
     exact⟨c.1,by show j-1<B.length;omega⟩
   have e:(acc++[(i,j-1)]).length=acc.length+1:=by simp
   by_cases d:r<(tAt A i).1+(tAt B (j-1)).1
   ·rw[if_pos d]
    obtain⟨g1,g2⟩:=qe4 m i (j-1) (acc++[(i,j-1)]) (by omega) h'
    exact⟨g1,by omega⟩
   ·rw [if_neg d]
    by_cases g:u<=(tAt A i).2.1+(tAt B (j-1)).2.1
    ·rw[if_pos g]
     exact⟨h',by show(acc++[(i,j-1)]).length<=_;omega⟩
    ·rw[if_neg g]
     obtain⟨g1,g2⟩:=qe4 m (i+1) j (acc++[(i,j-1)]) hj h'
     exact⟨g1,by omega⟩
  ·rw[if_neg c]
   exact⟨h,by show acc.length<=_;omega⟩
def qlb(A B:List T3)(r u:Int):List (Nat×Nat)×Bool:=uu A B r u (A.length+B.length) 0 B.length []
def qiQ:M Bool:=(qah (tst (d2 ltD (dv 6) (qq vt (qa (dv 3) (ret []))))) (tst (d2 geD (dv 7) (ret (.int 0)))))
def qiR:MS:=(qH (qdK 8 9 (qa (d2 qU (d2 ixD (d2 ixD (dv 3) (dv 6)) (ret (.int 0))) (d2 ixD (d2 ixD (dv 4) (dv 7)) (ret (.int 0)))) (qa (d2 qU (d2 ixD (d2 ixD (dv 3) (dv 6)) (ret (.int 1))) (d2 ixD (d2 ixD (dv 4) (dv 7)) (ret (.int 1)))) (ret [])))) (qH (jk (zH 5 (qO (qa (dv 6) (qa (dv 7) (ret [])))))) (qH (sif (qah (tst (d2 leD (dv 8) (dv 1))) (tst (d2 geD (dv 9) (dv 2)))) (jd (qO (qa (qb0 5) (qa (ret (.bl false)) (ret []))))) jA) (sif (tst (d2 leD (dv 8) (dv 1))) (zi 6 (d2 qU (dv 6) (ret (.int 1)))) (zi 7 (d2 qdp (dv 7) (ret (.int 1))))))))
theorem qbV {A B:List T3} {r u:Int} (T:OD):∀(m i j:Nat)(acc:List (Nat×Nat))(o8 o9:OD),A.length-i+j<=m->i<=A.length->j<=B.length->acc.length+m<=500 ->
  ((uu A B r u m i j acc).2=false->∃n Z',uy qiQ qiR n [T,some (.int r),some (.int u),some (.lst (A.map t3D)),some (.lst (B.map t3D)),some (.lst (acc.map stD)),some (.int (i:Nat)),some (.int ((j:Int)-1)),o8,o9]=.ok (.rt (.tup [.tup ((uu A B r u m i j acc).1.map stD),.bl false]) Z')) /\
  ((uu A B r u m i j acc).2=true->∃n o6 o7 o8' o9',uy qiQ qiR n [T,some (.int r),some (.int u),some (.lst (A.map t3D)),some (.lst (B.map t3D)),some (.lst (acc.map stD)),some (.int (i:Nat)),some (.int ((j:Int)-1)),o8,o9]=.ok (.nx [T,some (.int r),some (.int u),some (.lst (A.map t3D)),some (.lst (B.map t3D)),some (.lst ((uu A B r u m i j acc).1.map stD)),o6,o7,o8',o9']))
 |0,i,j,acc,o8,o9,hm,hi,hj,_=>by
  refine⟨(λh=>by cases h),λ_=>?_⟩
  let Z:Env:=[T,some (.int r),some (.int u),some (.lst (A.map t3D)),some (.lst (B.map t3D)),some (.lst (acc.map stD)),some (.int (i:Nat)),some (.int ((j:Int)-1)),o8,o9]
  have t:qiQ Z=.ok (false,Z):=qiz (zT (qo rfl (jg rfl (qcy A)) (by rw[wj,decide_eq_false (by omega)])))
  exact⟨1,_,_,_,_,qo9 t⟩
 | m + 1,i,j,acc,o8,o9,hm,hi,hj,ha=>by
  let Ra:OD:=some (.int r)
  let Uq:OD:=some (.int u)
  let LA:OD:=some (.lst (A.map t3D))
  let LB:OD:=some (.lst (B.map t3D))
  let Z:Env:=[T,Ra,Uq,LA,LB,some (.lst (acc.map stD)),some (.int (i:Nat)),some (.int ((j:Int)-1)),o8,o9]
  have t1:tst (d2 ltD (dv 6) (qq vt (qa (dv 3) (ret [])))) Z=.ok (decide ((i:Int)<(A.length:Int)),Z):=zT (qo rfl (jg rfl (qcy A)) (wj _ _))
  have t2:tst (d2 geD (dv 7) (ret (.int 0))) Z=.ok (decide ((0:Int)<=(j:Int)-1),Z):=zT (qo rfl rfl rfl)
  unfold uu
  by_cases c:i<A.length/\0<j
  ·rw [if_pos c]
   obtain⟨c1,c2⟩:=c
   rw[decide_eq_true (by omega)]at t1 t2
   have tt:qiQ Z=.ok (true,Z):=qgS t1 t2
   have ej:((j:Int)-1)=((j-1:Nat):Int):=by omega
   let H:Int:=(tAt A i).1+(tAt B (j-1)).1
   let V:Int:=(tAt A i).2.1+(tAt B (j-1)).2.1
   let Z1:Env:=[T,Ra,Uq,LA,LB,some (.lst (acc.map stD)),some (.int (i:Nat)),some (.int ((j:Int)-1)),some (.int H),some (.int V)]
   let Z2:Env:=[T,Ra,Uq,LA,LB,some (.lst ((acc++[(i,j-1)]).map stD)),some (.int (i:Nat)),some (.int ((j:Int)-1)),some (.int H),some (.int V)]
   have xa:d2 ixD (dv 3) (dv 6) Z=.ok (t3D (tAt A i),Z):=qo rfl rfl (qpa c1)
   have xb:d2 ixD (dv 4) (dv 7) Z=.ok (t3D (tAt B (j-1)),Z):=qo (b:=.int ((j:Int)-1)) rfl rfl (by rw[ej];exact qpa (by omega))
   have s0:(qdK 8 9 (qa (d2 qU (d2 ixD (d2 ixD (dv 3) (dv 6)) (ret (.int 0))) (d2 ixD (d2 ixD (dv 4) (dv 7)) (ret (.int 0)))) (qa (d2 qU (d2 ixD (d2 ixD (dv 3) (dv 6)) (ret (.int 1))) (d2 ixD (d2 ixD (dv 4) (dv 7)) (ret (.int 1)))) (ret [])))) Z=.ok (.nx Z1):=qpT (qo (qo xa rfl (qgV _)) (qo xb rfl (qgV _)) (zx _ _)) (qo (qo xa rfl (qee _)) (qo xb rfl (qee _)) (zx _ _))
   have s1:(jk (zH 5 (qO (qa (dv 6) (qa (dv 7) (ret [])))))) Z1=.ok (.nx Z2):=by
    rw[w6 (ds:=acc.map stD) (d:=.tup [.int (i:Nat),.int ((j:Int)-1)]) (Z:=Z1) rfl (qj3 rfl rfl) rfl (by rw[lM_];omega)]
    show R.ok (Fl.nx [T,Ra,Uq,LA,LB,some (.lst (acc.map stD++[.tup [.int (i:Nat),.int ((j:Int)-1)]])),some (.int (i:Nat)),some (.int ((j:Int)-1)),some (.int H),some (.int V)])=_
    show _=R.ok (Fl.nx [T,Ra,Uq,LA,LB,some (.lst ((acc++[(i,j-1)]).map stD)),some (.int (i:Nat)),some (.int ((j:Int)-1)),some (.int H),some (.int V)])
    rw[yaR,ej]
    rfl
   have tw:tst (d2 leD (dv 8) (dv 1)) Z2=.ok (decide (H<=r),Z2):=zT (qo rfl rfl (qcU _ _))
   have tg:tst (d2 geD (dv 9) (dv 2)) Z2=.ok (decide (u<=V),Z2):=zT (qo rfl rfl rfl)
   by_cases d:r<(tAt A i).1+(tAt B (j-1)).1
   ·rw [if_pos d]
    rw[decide_eq_false (show ¬H<=r by show ¬(tAt A i).1+(tAt B (j-1)).1<=r;omega)]at tw
    obtain⟨e1,e2⟩:=qbV (A:=A) (B:=B) (r:=r) (u:=u) T m i (j-1) (acc++[(i,j-1)]) (some (.int H)) (some (.int V)) (by omega) hi (by omega) (by rw[lA_,yau];omega)
    have bd:qiR Z=.ok (.nx [T,Ra,Uq,LA,LB,some (.lst ((acc++[(i,j-1)]).map stD)),some (.int (i:Nat)),some (.int (((j-1:Nat):Int)-1)),some (.int H),some (.int V)]):=by
     refine(qi s0).trans ((qi s1).trans ((qi (Z':=Z2) ((qev (qiz tw)).trans rfl)).trans ((qev tw).trans ?_)))
     rw[uM (Z1:=Z2) (qo (d:=.int ((j:Int)-1-1)) rfl rfl (vP _ _)),<-ej]
     rfl
    refine⟨λh=>?_,λh=>?_⟩
    ·obtain⟨n,Z',q⟩:=e1 h
     exact⟨n+1,Z',(qla tt bd).trans q⟩
    ·obtain⟨n,p6,p7,p8,p9,q⟩:=e2 h
     exact⟨n+1,p6,p7,p8,p9,(qla tt bd).trans q⟩
   ·rw [if_neg d]
    rw[decide_eq_true (show H<=r by show(tAt A i).1+(tAt B (j-1)).1<=r;omega)]at tw
    by_cases g:u<=(tAt A i).2.1+(tAt B (j-1)).2.1
    ·rw[if_pos g]
     rw[decide_eq_true (show u<=V from g)]at tg
     have bd:qiR Z=.ok (.rt (.tup [.tup ((acc++[(i,j-1)]).map stD),.bl false]) Z2):=(qi s0).trans ((qi s1).trans (vh ((qgP (qgS tw tg)).trans (ye (qj3 rfl rfl)))))
     exact⟨λ_=>⟨1,Z2,qqC tt bd⟩,λh=>by cases h⟩
    ·rw [if_neg g]
     rw[decide_eq_false (show ¬u<=V from g)]at tg
     obtain⟨e1,e2⟩:=qbV (A:=A) (B:=B) (r:=r) (u:=u) T m (i+1) j (acc++[(i,j-1)]) (some (.int H)) (some (.int V)) (by omega) (by omega) hj (by rw[lA_,yau];omega)
     have bd:qiR Z=.ok (.nx [T,Ra,Uq,LA,LB,some (.lst ((acc++[(i,j-1)]).map stD)),some (.int ((i+1:Nat):Int)),some (.int ((j:Int)-1)),some (.int H),some (.int V)]):=(qi s0).trans ((qi s1).trans ((qi (Z':=Z2) ((qev (qgS tw tg)).trans rfl)).trans ((qgP tw).trans (uM (Z1:=Z2) (qo (d:=.int ((i+1:Nat):Int)) rfl rfl rfl)))))
     refine⟨λh=>?_,λh=>?_⟩
     ·obtain⟨n,Z',q⟩:=e1 h
      exact⟨n+1,Z',(qla tt bd).trans q⟩
     ·obtain⟨n,p6,p7,p8,p9,q⟩:=e2 h
      exact⟨n+1,p6,p7,p8,p9,(qla tt bd).trans q⟩
  ·rw [if_neg c]
   refine⟨(λh=>by cases h),λ_=>?_⟩
   have tt:qiQ Z=.ok (false,Z):=by
    by_cases ci:i<A.length
    ·rw[decide_eq_true (by omega)]at t1
     rw[decide_eq_false (by omega)]at t2
     exact qgS t1 t2
    ·rw[decide_eq_false (by omega)]at t1
     exact qiz t1
   exact⟨1,_,_,_,_,qo9 tt⟩
section
variable{ks:List Kw}{G:Int}(g0:1<=G)(g1:G<=100000000000000000000)(h:∀k∈ks,sgB G k)(hl:ks.length<=10)
include g0 g1 h hl
theorem qmM (r u:Int):qJ [.tup (ks.map kw),.int r,.int u]=.ok (.tup [.tup ((qlb (nbL (ks.take (ks.length/2))) (nbL (ks.drop (ks.length/2))) r u).1.map stD),.bl (qlb (nbL (ks.take (ks.length/2))) (nbL (ks.drop (ks.length/2))) r u).2]):=by
 obtain⟨h1,h2,l1,l2⟩:=qad (λk hk=>(h k hk).1) hl
 let A:=nbL (ks.take (ks.length/2))
 let B:=nbL (ks.drop (ks.length/2))
 have n1:A.length<=32:=qaD h1 l1
 have n2:B.length<=32:=qaD h2 l2
 let T:OD:=some (.tup (ks.map kw))
 let Ra:OD:=some (.int r)
 let Uq:OD:=some (.int u)
 let LA:OD:=some (.lst (A.map t3D))
 let LB:OD:=some (.lst (B.map t3D))
 let Z0:Env:=[T,Ra,Uq,none,none,none,none,none,none,none]
 let Z1:Env:=[T,Ra,Uq,LA,LB,none,none,none,none,none]
 let Z2:Env:=[T,Ra,Uq,LA,LB,some (.lst []),none,none,none,none]
 let Z3:Env:=[T,Ra,Uq,LA,LB,some (.lst []),some (.int 0),some (.int ((B.length:Int)-1)),none,none]
 obtain⟨e1,e2⟩:=qbV (A:=A) (B:=B) (r:=r) (u:=u) T (A.length+B.length) 0 B.length [] none none (by omega) (by omega) (yad _) (by simp;omega)
 have s0:(qer (zE 1 [] none (yt (qp jz (qa (dv 0) (ret [])))) (ql 0) (ret true) (qp zY (qa (dv 0) (ret [])))) (qpN 2 (qQ (ql 3) (qQ (ql 4) vq)))) Z0=.ok (.nx Z1):=by
  have c:=qbE (e:=qp zY (qa (dv 0) (ret []))) (xs:=yt (qp jz (qa (dv 0) (ret [])))) (fr:=[]) (Z:=Z0) (r:=[]) (k:=λq:List Kw=>D.tup (q.map kw)) [ks.take (ks.length/2),ks.drop (ks.length/2)] (λq=>D.lst ((nbL q).map t3D)) (by
   rw[qbp,vi rfl (qdh ks (by omega))]
   rfl) rfl (by simp) λq hq=>by
    simp only[yax,nN_,or_false]at hq
    rcases hq with rfl|rfl
    ·exact vi rfl (qbT g0 g1 (λk hk=>h k (ydf hk)) l1)
    ·exact vi rfl (qbT g0 g1 (λk hk=>h k (yco hk)) l2)
  rw[qdP,c]
  rfl
 have s1:(vn 5 (qgw (ret []))) Z1=.ok (.nx Z2):=by
  push_cast [immL,zf (show 0<=1000000 by omega),yaF,Z1]
  rfl
 have s2:(qdK 6 7 (qa (ret (.int 0)) (qa (d2 qdp (qq vt (qa (dv 4) (ret []))) (ret (.int 1))) (ret [])))) Z2=.ok (.nx Z3):=qpT (Z1:=Z2) rfl (qo (jg rfl (qcy B)) rfl (vP _ _))
 unfold qJ yp
 cases es:(qlb A B r u).2 with
 |false=>
  obtain⟨n,Z',q⟩:=e1 es
  refine qai rfl ⟨Z',?_⟩
  exact(qi s0).trans ((qi s1).trans ((qi s2).trans (vh (wS q (by intro z;cases z)))))
 |true=>
  obtain⟨n,p6,p7,p8,p9,q⟩:=e2 es
  refine qai rfl ⟨[T,Ra,Uq,LA,LB,some (.lst ((qlb A B r u).1.map stD)),p6,p7,p8,p9],?_⟩
  exact(qi s0).trans ((qi s1).trans ((qi s2).trans ((qi (wS q (by intro z;cases z))).trans (ye (qj3 rfl rfl)))))
theorem qgX (r u:Int):(∀p∈(qlb (nbL (ks.take (ks.length/2))) (nbL (ks.drop (ks.length/2))) r u).1,p.1<=32/\p.2<=32)/\(qlb (nbL (ks.take (ks.length/2))) (nbL (ks.drop (ks.length/2))) r u).1.length<=64:=by
 obtain⟨h1,h2,l1,l2⟩:=qad (λk hk=>(h k hk).1) hl
 have n1:=qaD h1 l1
 have n2:=qaD h2 l2
 obtain⟨b1,b2⟩:=qe4 (A:=nbL (ks.take (ks.length/2))) (B:=nbL (ks.drop (ks.length/2))) (r:=r) (u:=u) ((nbL (ks.take (ks.length/2))).length+(nbL (ks.drop (ks.length/2))).length) 0 (nbL (ks.drop (ks.length/2))).length [] (yad _) λp hp=>absurd hp nN_
 refine⟨λp hp=>?_,?_⟩
 ·have:=b1 p hp
  omega
 ·have:(qlb (nbL (ks.take (ks.length/2))) (nbL (ks.drop (ks.length/2))) r u).1.length<=([]:List (Nat×Nat)).length+_:=b2
  simp only[lN_]at this
  omega
end
def okB:Nat->D->Bool
 |_,.int _=>true
 |n+1,.tup ds=>ds.all (okB n)
 |_,_=>false
theorem qlc:∀(n:Nat)(d:D),okB n d=true->okN n d:=λn=>by
 induction n with
 |zero=>
  intro d h
  cases d<;>first|exact trivial|cases h
 |succ n ih=>
  intro d h
  cases d<;>first|exact trivial|(cases h;done)|skip
  rename_i ds
  exact λx hx=>ih x (List.all_eq_true.mp h x hx)
def qqD (d:D):Bool:=((okB 3 d&&okB 4 d)||(sg d).any odS)&&(match d with
 |.tup ts=>decide (ts.length<=100)
 |_=>true)
theorem qoU:(qcZ++qc0).all qqD=true:=by decide +kernel
structure Th (d:D):Prop where
 rp:qcf d=true
 gd:okN 4 d\/qi1 d
 ln:∀ts,d=.tup ts->ts.length<=100
structure Od (d:D):Prop where
 th:Th d
 nc:qcV 130 5 d
 dl:dl d=true
 gd:okN 3 d\/qi1 d
theorem qp2 {d:D} (h:d∈qcZ++qc0):Od d:=by
 have hn:=List.all_eq_true.mp qim d h
 rw[yag]at hn
 have hb:=List.all_eq_true.mp qoU d h
 unfold qqD at hb
 rw[yag,ybP,yag]at hb
 have st:(sg d).any odS=true->qi1 d:=λe=>by
  obtain⟨c,h1,h2⟩:=List.any_eq_true.mp e
  exact⟨c,h1,h2⟩
 refine⟨⟨qeV (qil hn.1) (by omega) (by omega) hn.2,?_,λts e=>?_⟩,qil hn.1,hn.2,?_⟩
 ·rcases hb.1 with e|e
  ·exact .inl (qlc 4 d e.2)
  ·exact .inr (st e)
 ·subst e
  exact of_decide_eq_true hb.2
 ·rcases hb.1 with e|e
  ·exact .inl (qlc 3 d e.1)
  ·exact .inr (st e)
theorem qp3 (n:Int):∃d n',zw [.int n] []=.ok (d,[.int n'])/\Od d:=by
 obtain⟨d,hd,e⟩:=qco (ds:=qcZ++qc0) (k:=n%22) (by omega) (by show n%22<22;omega)
 refine⟨d,n/22,?_,qp2 hd⟩
 unfold zw
 refine qbr (Z:=[some (.lst [.int (n/22)]),some (.lst (qcZ++qc0))]) rfl ?_ rfl
 unfold jF
 refine(qi (Z':=[some (.lst [.int n]),some (.lst qcZ)]) ?_).trans ?_
 ·push_cast [neg_int,qmt,zf (show 1<=1000000 by omega),zf (show 2<=1000000 by omega),zf (show 14<=1000000 by omega),qcZ]
 refine(qi (Z':=[some (.lst [.int n]),some (.lst (qcZ++qc0))]) ?_).trans ?_
 ·have e2:=wZ (xs:=qcZ) (ys:=qc0) (by decide)
  simp only[qc0]at e2
  push_cast [neg_int,zf (show 1<=1000000 by omega),zf (show 3<=1000000 by omega),zf (show 8<=1000000 by omega),e2,qc0]
 ·push_cast [je (m:=22) (by decide) (by decide),e]
theorem qaM{i:Nat}(h:i<=35):qcV 7 0 (.int (i:Nat)):=qav (by omega) (by omega)
theorem qdi {p:Nat×Nat} (h:p.1<=35/\p.2<=35):qcV 130 5 (stD p):=(wX (w:=7) (e:=0) (n:=2) (λd hd=>by
 simp only[yax,nN_,or_false]at hd
 rcases hd with rfl|rfl
 ·exact qaM h.1
 ·exact qaM h.2) (by simp)).mono (by omega) (by omega)
theorem qkk (p:Nat×Nat) (n:Nat):okN (n+1) (stD p):=λd hd=>by
 simp only[yax,nN_,or_false]at hd
 rcases hd with rfl|rfl<;>cases n<;>exact trivial
structure Pt (xs:List D):Prop where
 nc:∀x∈xs,qcV 130 5 x
 dl:dlL xs=true
 gd:(∀x∈xs,okN 3 x)\/∃x∈xs,qi1 x
 ln:xs.length<=2
theorem qld {a b:List (Nat×Nat)} {xs:List D} (ha:∀p∈a,p.1<=35/\p.2<=35) (hb:∀p∈b,p.1<=35/\p.2<=35) (h:Pt xs) (hl:a.length+b.length<=80):Th (.tup (a.map stD++xs++b.map stD)):=by
 have ps:∀l:List (Nat×Nat),(∀p∈l,p.1<=35/\p.2<=35)->∀d∈l.map stD,qcV 130 5 d/\plain d=true/\okN 3 d:=λl h d hd=>by
  obtain⟨p,hp,rfl⟩:=mP_.mp hd
  exact⟨qdi (h p hp),rfl,qkk p 2⟩
 have hln:=h.ln
 have ll:(a.map stD++xs++b.map stD).length<=90:=by
  rw[lA_,lA_,lM_,lM_]
  omega
 have nn:qcV (90*131) 6 (.tup (a.map stD++xs++b.map stD)):=wX (λd hd=>by
  rcases mA_.mp hd with hd|hd
  ·rcases mA_.mp hd with hd|hd
   ·exact(ps a ha d hd).1
   ·exact h.nc d hd
  ·exact(ps b hb d hd).1) ll
 refine⟨qeV nn (by omega) (by omega) (qoy (λd hd=>(ps a ha d hd).2.1) (λd hd=>(ps b hb d hd).2.1) h.dl),?_,λts e=>?_⟩
 ·rcases h.gd with g|⟨x,hx,g⟩
  ·refine .inl λd hd=>?_
   rcases mA_.mp hd with hd|hd
   ·rcases mA_.mp hd with hd|hd
    ·exact(ps a ha d hd).2.2
    ·exact g d hd
   ·exact(ps b hb d hd).2.2
  ·exact .inr (qf4 (mA_.mpr (.inl (mA_.mpr (.inr hx)))) g)
 ·cases e
  omega
theorem qle:Pt []:=⟨λx hx=>absurd hx nN_,rfl,.inl λx hx=>absurd hx nN_,by simp⟩
theorem qkl {s:List (Nat×Nat)} (h:∀p∈s,p.1<=35/\p.2<=35) (hl:s.length<=80):Th (.tup (s.map stD)):=by
 have:=qld (b:=[]) h (λp hp=>absurd hp nN_) qle (by simpa using hl)
 simpa using this
def qkm(p:Nat×Nat)(d:D):List D:=[.tup [],.tup [stD p,stD p],.tup [stD (p.2,p.1)],.tup [.tup [.int ((p.1:Int)+1),.int (p.2:Nat)]],.tup [.tup [.int (p.1:Nat),.bl (decide ((p.2:Int)=1))]],.tup [.lst [.int (p.1:Nat),.int (p.2:Nat)]],.tup [.tup [.int (p.1:Nat),.int (p.2:Nat),.int 0]],.tup [d]]
theorem qmN (b:Bool):qi1 (.bl b):=by
 cases b
 ·exact⟨70,by decide,by decide⟩
 ·exact⟨84,by decide,by decide⟩
theorem qmO {p:Nat×Nat} (hp:p.1<=35/\p.2<=35) {d:D} (hd:Od d) {x:D} (hx:x∈qkm p d):∃xs,x=.tup xs/\Pt xs:=by
 have one:∀y:D,qcV 130 5 y->dl y=true->(okN 3 y\/qi1 y)->Pt [y]:=λy h1 h2 h3=>⟨λx hx=>by rw[ms_.mp hx];exact h1,by
  unfold dlL
  unfold dl at h2
  simpa [toPDs,ybg,noLs] using h2,by
  rcases h3 with h3|h3
  ·exact .inl λx hx=>by rw[ms_.mp hx];exact h3
  ·exact .inr ⟨y,ms_.mpr rfl,h3⟩,by simp⟩
 have sw:(p.2,p.1).1<=35/\(p.2,p.1).2<=35:=⟨hp.2,hp.1⟩
 unfold qkm at hx
 simp only[yax,nN_,or_false]at hx
 rcases hx with rfl|rfl|rfl|rfl|rfl|rfl|rfl|rfl
 ·exact⟨_,rfl,qle⟩
 ·refine ⟨_,rfl,⟨λx hx=>?_,rfl,.inl λx hx=>?_,by simp⟩⟩
  ·simp only[yax,nN_,or_false,or_self]at hx
   rw[hx]
   exact qdi hp
  ·simp only[yax,nN_,or_false,or_self]at hx
   rw[hx]
   exact qkk p 2
 ·exact⟨_,rfl,one _ (qdi sw) rfl (.inl (qkk _ 2))⟩
 ·refine ⟨_,rfl,one _ ((wX (w:=7) (e:=0) (n:=2) (λd hd=>?_) (by simp)).mono (by omega) (by omega)) rfl (.inl λd hd=>?_)⟩
  ·simp only[yax,nN_,or_false]at hd
   rcases hd with rfl|rfl
   ·exact qav (by omega) (by omega)
   ·exact qaM hp.2
  ·simp only[yax,nN_,or_false]at hd
   rcases hd with rfl|rfl<;>exact trivial
 ·refine ⟨_,rfl,one _ ((wX (w:=7) (e:=0) (n:=2) (λd hd=>?_) (by simp)).mono (by omega) (by omega)) rfl (.inr (qf4 (x:=.bl (decide ((p.2:Int)=1))) (by simp) (qmN _)))⟩
  simp only[yax,nN_,or_false]at hd
  rcases hd with rfl|rfl
  ·exact qaM hp.1
  ·cases decide ((p.2:Int)=1)
   ·exact⟨by decide +kernel,rfl,by decide +kernel,by decide +kernel⟩
   ·exact⟨by decide +kernel,rfl,by decide +kernel,by decide +kernel⟩
 ·refine⟨_,rfl,one _ ((qfP (w:=7) (e:=0) (n:=2) (λd hd=>?_) (by simp)).mono (by omega) (by omega)) rfl (.inr (qf5 _))⟩
  simp only[yax,nN_,or_false]at hd
  rcases hd with rfl|rfl
  ·exact qaM hp.1
  ·exact qaM hp.2
 ·refine ⟨_,rfl,one _ ((wX (w:=7) (e:=0) (n:=3) (λd hd=>?_) (by simp)).mono (by omega) (by omega)) rfl (.inl λd hd=>?_)⟩
  ·simp only[yax,nN_,or_false]at hd
   rcases hd with rfl|rfl|rfl
   ·exact qaM hp.1
   ·exact qaM hp.2
   ·exact qav (by omega) (by omega)
  ·simp only[yax,nN_,or_false]at hd
   rcases hd with rfl|rfl|rfl<;>exact trivial
 ·exact⟨_,rfl,one _ hd.nc hd.dl hd.gd⟩
theorem qgf (xs:List D) (j:Nat):qfn xs (some (j:Int)) none=xs.drop j:=by
 unfold qfn
 rw[HT.sIx_none,HT.sIx_nat,ybI (by simp)]
 by_cases c:j<=xs.length
 ·rw[ydb c]
 ·rw[Nat.min_eq_right (by omega),yeo (by omega),yeo (by omega)]
theorem qiS {s:List (Nat×Nat)} (hs:∀p∈s,p.1<=35/\p.2<=35) (hl:s.length<=70) {d:D} (hd:Od d) (n:Int):∃t n',qT [.int n] [.tup (s.map stD),d]=.ok (t,[.int n'])/\Th t:=by
 obtain ⟨a,ha,hal⟩:∃a:Nat,n%((s.length:Int)+1)=(a:Int)/\a<=s.length:=by
  have h1:0<=n%((s.length:Int)+1):=yca _ (by omega)
  have h2:n%((s.length:Int)+1)<(s.length:Int)+1:=ybN _ (by omega)
  exact⟨(n%((s.length:Int)+1)).toNat,by omega,by omega⟩
 let n1:=n/((s.length:Int)+1)
 let n2:=n1/11
 let kd:=n1%11
 have k0:0<=kd:=by show 0<=n1%11;omega
 have k1:kd<11:=by show n1%11<11;omega
 have hs':∀p∈s.drop a++[(0,0)],p.1<=35/\p.2<=35:=λp hp=>by
  rcases mA_.mp hp with hp|hp
  ·exact hs p (yco hp)
  ·rw[ms_.mp hp];exact⟨by decide,by decide⟩
 obtain ⟨p,qag,ep⟩:∃p qag,s.drop a++[(0,0)]=p::qag:=by
  cases s.drop a with
  |nil=>exact⟨_,_,rfl⟩
  |cons x l=>exact⟨_,_,rfl⟩
 have hp:p.1<=35/\p.2<=35:=hs' p (by rw[ep];exact mS_)
 let St:OD:=some (.tup (s.map stD))
 let Dd:OD:=some d
 let At:OD:=some (.int (a:Nat))
 let P1:OD:=some (.int (p.1:Nat))
 let P2:OD:=some (.int (p.2:Nat))
 let Nw:OD:=some (.lst (qkm p d))
 let B1:OD:=some (.lst [.int n1])
 let B2:OD:=some (.lst [.int n2])
 let Z0:Env:=[some (.lst [.int n]),St,Dd,none,none,none,none,none]
 let Z1:Env:=[B1,St,Dd,At,none,none,none,none]
 let Z2:Env:=[B1,St,Dd,At,P1,P2,none,none]
 let Z3:Env:=[B1,St,Dd,At,P1,P2,Nw,none]
 let Z4:Env:=[B2,St,Dd,At,P1,P2,Nw,some (.int kd)]
 have z00:∀Z:Env,qO (qa (qO (qa (ret (.int 0)) (qa (ret (.int 0)) (ret [])))) (ret [])) Z=.ok (.tup [stD (0,0)],Z):=λZ=>by
  rw[wO,yC (qj3 rfl rfl)]
  simp only[lC_,lN_,ybr,sm1,if_true]
  rfl
 have s0:(zi 3 (qj qg 0 (qa (d2 qU (qq vt (qa (dv 1) (ret []))) (ret (.int 1))) (ret [])))) Z0=.ok (.nx Z1):=by
  have c:(qj qg 0 (qa (d2 qU (qq vt (qa (dv 1) (ret []))) (ret (.int 1))) (ret []))) Z0=.ok (.int (a:Nat),[B1,St,Dd,none,none,none,none,none]):=by
   rw[io1 (i:=0) (Z:=Z0) (ds:=[.int n]) (a:=.int ((s.length:Int)+1)) rfl (qo (jg (a:=.tup (s.map stD)) rfl (by rw[j6,lM_])) rfl (zx _ _)) (je (by omega) (by omega)),ha]
   rfl
  rw[uM c]
  rfl
 have v1:∀Z:Env,Z=Z1\/Z=Z4->qcQ (dv 1) (yA (dv 3)) (ret none) Z=.ok (.tup ((s.drop a).map stD),Z):=λZ h=>by
  have e:yA (dv 3) Z=.ok (some (a:Int),Z):=by rcases h with rfl|rfl<;>rfl
  have e1:dv 1 Z=.ok (.tup (s.map stD),Z):=by rcases h with rfl|rfl<;>rfl
  rw[qby]
  simp only[e,e1,vB,slB,qgf,ydJ]
 have s1:(qer (d2 ixD (d2 qU (qcQ (dv 1) (yA (dv 3)) (ret none)) (qO (qa (qO (qa (ret (.int 0)) (qa (ret (.int 0)) (ret [])))) (ret [])))) (ret (.int 0))) (vN 2 (qQ (ql 4) (qQ (ql 5) vq)))) Z1=.ok (.nx Z2):=by
  have ad:qU (.tup ((s.drop a).map stD)) (.tup [stD (0,0)])=some (.tup (stD p::qag.map stD)):=by
   rw[uX (by rw[lM_,ybW,yau];omega),<-mC_,<-ep,yaR]
   rfl
  have c:(d2 ixD (d2 qU (qcQ (dv 1) (yA (dv 3)) (ret none)) (qO (qa (qO (qa (ret (.int 0)) (qa (ret (.int 0)) (ret [])))) (ret [])))) (ret (.int 0))) Z1=.ok (stD p,Z1):=qo (qo (v1 Z1 (.inl rfl)) (z00 Z1) ad) rfl (qk1 (n:=0) rfl)
  rw[qdP,c]
  rfl
 have s2:(zi 6 (jI (qa (qO (ret [])) (qa (qO (qa (qO (qa (dv 4) (qa (dv 5) (ret [])))) (qa (qO (qa (dv 4) (qa (dv 5) (ret [])))) (ret [])))) (qa (qO (qa (qO (qa (dv 5) (qa (dv 4) (ret [])))) (ret []))) (qa (qO (qa (qO (qa (d2 qU (dv 4) (ret (.int 1))) (qa (dv 5) (ret [])))) (ret []))) (qa (qO (qa (qO (qa (dv 4) (qa (d2 eqB (dv 5) (ret (.int 1))) (ret [])))) (ret []))) (qa (qO (qa (jI (qa (dv 4) (qa (dv 5) (ret [])))) (ret []))) (qa (qO (qa (qO (qa (dv 4) (qa (dv 5) (qa (ret (.int 0)) (ret []))))) (ret []))) (qa (qO (qa (dv 2) (ret []))) (ret []))))))))))) Z2=.ok (.nx Z3):=by
  push_cast [Z2,P1,P2,Dd,zf (show 0<=1000000 by omega),zf (show 1<=1000000 by omega),zf (show 2<=1000000 by omega),zf (show 3<=1000000 by omega),zf (show 8<=1000000 by omega),zx]
  rfl
 have s3:(zi 7 (qj qg 0 (qa (ret (.int 11)) (ret [])))) Z3=.ok (.nx Z4):=uM (io1 (i:=0) (Z:=Z3) (ds:=[.int n1]) (a:=.int 11) rfl rfl (je (by omega) (by omega)))
 have tk:tst (d2 ltD (dv 7) (ret (.int 8))) Z4=.ok (decide (kd<8),Z4):=zT (qo rfl rfl (wj _ _))
 by_cases ck:kd<8
 ·rw [decide_eq_true ck]at tk
  obtain⟨x,hx,ex⟩:=qco (ds:=qkm p d) (k:=kd) k0 (by show kd<8;omega)
  obtain⟨xs,rfl,hxs⟩:=qmO hp hd hx
  have hxl:=hxs.ln
  refine⟨.tup ((s.take a).map stD++xs++(s.drop (a+1)).map stD),n2,?_,qld (λq hq=>hs q (ydf hq)) (λq hq=>hs q (yco hq)) hxs (by rw[ybe,ybW];omega)⟩
  unfold qT ur
  refine qbr (Z:=Z4) rfl ?_ rfl
  refine(qi s0).trans ((qi s1).trans ((qi s2).trans ((qi s3).trans (vh ((qgP tk).trans (ye ?_))))))
  have e1:qcQ (dv 1) (ret none) (yA (dv 3)) Z4=.ok (.tup ((s.take a).map stD),Z4):=by
   have e:yA (dv 3) Z4=.ok (some (a:Int),Z4):=rfl
   have e1:dv 1 Z4=.ok (.tup (s.map stD),Z4):=rfl
   rw[qby]
   simp only[e,e1,vB,slB,qc8 (s.map stD) a (by rw[lM_];exact hal),yeU]
  have e2:qcQ (dv 1) (yA (d2 qU (dv 3) (ret (.int 1)))) (ret none) Z4=.ok (.tup ((s.drop (a+1)).map stD),Z4):=by
   have e0:d2 qU (dv 3) (ret (.int 1)) Z4=.ok (.int ((a+1:Nat):Int),Z4):=qo rfl rfl rfl
   have e:yA (d2 qU (dv 3) (ret (.int 1))) Z4=.ok (some ((a+1:Nat):Int),Z4):=by rw[qaq,e0]
   have e1:dv 1 Z4=.ok (.tup (s.map stD),Z4):=rfl
   rw[qby]
   simp only[e,e1,vB,slB,qgf,ydJ]
  exact qo (qo e1 (qo rfl rfl ex) (uX (by rw[lM_,ybe];omega))) e2 (uX (by rw[lA_,lM_,lM_,ybe,ybW];omega))
 ·rw [decide_eq_false ck]at tk
  let L3:List D:=[.tup ((s.map stD).reverse),.lst (s.map stD),.tup ((s++[(0,0)]).map stD)]
  obtain⟨x,hx,ex⟩:=qco (ds:=L3) (k:=kd-8) (by omega) (by show kd-8<3;omega)
  refine⟨x,n2,?_,?_⟩
  ·unfold qT ur
   refine qbr (Z:=Z4) rfl ?_ rfl
   refine(qi s0).trans ((qi s1).trans ((qi s2).trans ((qi s3).trans ((qi (Z':=Z4) ((qev tk).trans rfl)).trans (ye ?_)))))
   have c3:d2 qU (dv 1) (qO (qa (qO (qa (ret (.int 0)) (qa (ret (.int 0)) (ret [])))) (ret []))) Z4=.ok (.tup ((s++[(0,0)]).map stD),Z4):=qo rfl (z00 Z4) (by rw[uX (by rw[lM_,yau];omega),yaR];rfl)
   have c1:qgJ (dv 1) Z4=.ok (.tup ((s.map stD).reverse),Z4):=by
    have e1:dv 1 Z4=.ok (.tup (s.map stD),Z4):=rfl
    rw[qmq,e1]
    rfl
   have c2:qq qgs (qa (dv 1) (ret [])) Z4=.ok (.lst (s.map stD),Z4):=jg (a:=.tup (s.map stD)) rfl (qin _)
   have c:jI (qa (qgJ (dv 1)) (qa (qq qgs (qa (dv 1) (ret []))) (qa (d2 qU (dv 1) (qO (qa (qO (qa (ret (.int 0)) (qa (ret (.int 0)) (ret [])))) (ret [])))) (ret [])))) Z4=.ok (.lst L3,Z4):=by
    rw[qch,qc1 c1 c2 c3]
    simp only[lC_,lN_,ybr,ydK,zf (show 3<=1000000 by omega),if_true]
    rfl
   exact qo c (qo rfl rfl (vP _ _)) ex
  ·simp only[L3,yax,nN_,or_false]at hx
   rcases hx with rfl|rfl|rfl
   ·rw[<-List.map_reverse]
    exact qkl (λq hq=>hs q (List.mem_reverse.mp hq)) (by rw[ycv];omega)
   ·have nn:qcV (90*131) 6 (.lst (s.map stD)):=qfP (λd hd=>by
     obtain⟨q,hq,rfl⟩:=mP_.mp hd
     exact qdi (hs q hq)) (by rw[lM_];omega)
    have hpl:=wY (s.map stD) λd hd=>by
     obtain⟨q,hq,rfl⟩:=mP_.mp hd
     rfl
    refine⟨qeV nn (by omega) (by omega) ?_,.inr (qf5 _),λts e=>by cases e⟩
    unfold dl
    simp only[zF,PyData.hasDict,hpl.1,Bool.not_false,yfk]
   ·refine qkl (λq hq=>?_) (by rw[lA_,yau];omega)
    rcases mA_.mp hq with hq|hq
    ·exact hs q hq
    ·rw[ms_.mp hq];exact⟨by decide,by decide⟩
def wx:D->Bool
 |.tup [a,b]=>yO a&&yO b
 |_=>false
theorem qek{f g:M D}{Z:Env}(h:f Z=.ok (.bl false,Z)):qaR f g Z=.ok (.bl false,Z):=by rw[qft,h];rfl
theorem qel{f g:M D}{Z:Env}(h:f Z=.ok (.bl true,Z)):qaR f g Z=g Z:=by rw[qft,h];rfl
theorem qmP (d:D):uP [d]=.ok (.bl (wx d)):=by
 unfold uP qbM
 let Z:Env:=[some d]
 refine qai rfl ⟨Z,ye ?_⟩
 have ty:∀b,qbZ (tyD d) "tuple"=b->qeD "tuple" (dv 0) Z=.ok (.bl b,Z):=λb e=>by
  rw[qfs]
  have:dv 0 Z=.ok (d,Z):=rfl
  rw[this]
  simp only[e]
 cases d with
 | tup xs=>
  show qaR _ _ Z=_
  rw[qel (ty true (wd _))]
  have tl:d2 eqB (qq vt (qa (dv 0) (ret []))) (ret (.int 2)) Z=.ok (.bl (decide ((xs.length:Int)=2)),Z):=qo (jg (a:=.tup xs) rfl (j6 xs)) rfl (qbC _ _)
  by_cases c:xs.length=2
  ·rw [decide_eq_true (by omega)]at tl
   rw[qel tl]
   obtain ⟨a,b,rfl⟩:∃a b,xs=[a,b]:=by
    match xs,c with
    | [a,b],_=>exact⟨a,b,rfl⟩
   ·have w0:qp jy (qa (d2 ixD (dv 0) (ret (.int 0))) (ret [])) Z=.ok (.bl (yO a),Z):=vi (qo rfl rfl rfl) (ya a)
    have w1:qp jy (qa (d2 ixD (dv 0) (ret (.int 1))) (ret [])) Z=.ok (.bl (yO b),Z):=vi (qo rfl rfl rfl) (ya b)
    show _=R.ok (D.bl (yO a&&yO b),Z)
    cases e:yO a with
    |true=>
     rw[e]at w0
     rw[qel w0,w1]
     rfl
    |false=>
     rw[e]at w0
     rw[qek w0]
     rfl
  ·rw[decide_eq_false (by omega)]at tl
   rw[qek tl]
   match xs,c with
   | [],_=>rfl
   | [_],_=>rfl
   | [_,_],c=>exact absurd rfl c
   |_::_::_::_,_=>rfl
 |_=>exact qek (ty false (by first|decide|rfl))
def ipD(q:Int×Int):D:=.tup [.int q.1,.int q.2]
theorem qem {d:D} (h:yO d=true):∃i,d=.int i:=by
 cases d<;>first|exact⟨_,rfl⟩|cases h
theorem qgg:∀ts:List D,ts.all wx=true->∃qs:List (Int×Int),ts=qs.map ipD
 | [],_=>⟨[],rfl⟩
 | t::ts,h=>by
  rw[ycU,yag]at h
  obtain⟨qs,rfl⟩:=qgg ts h.2
  have h1:=h.1
  unfold wx at h1
  split at h1
  ·rename_i a b
   rw[yag]at h1
   obtain⟨i,rfl⟩:=qem h1.1
   obtain⟨j,rfl⟩:=qem h1.2
   exact⟨(i,j)::qs,rfl⟩
  ·cases h1
theorem qp4 (qs ps:List (Int×Int)):eqB (.tup (qs.map ipD)) (.tup (ps.map ipD))=some (.bl (decide (qs=ps))):=by
 have h:∀l:List (Int×Int),yaM (toPDs (l.map ipD))=true/\yaQ (toPDs (l.map ipD))<=1:=λl=>by
  induction l with
  |nil=>exact⟨rfl,by decide⟩
  | cons x l ih=>
   obtain⟨i1,i2⟩:=ih
   refine⟨?_,?_⟩
   ·simp only[mC_,ipD,toPDs,zF,yaM,ya6,i1,yaF]
   ·simp only[mC_,ipD,toPDs,zF,yaQ,ybs]
    omega
 have ok:∀l:List (Int×Int),v7 (.tup (l.map ipD))=true:=λl=>by
  obtain⟨h1,h2⟩:=h l
  simp only[v7,zF,ya6,ybs,h1,ybu,decide_eq_true_eq]
  omega
 have ev:∀a b:List (Int×Int),ydI (toPDs (a.map ipD)) (toPDs (b.map ipD))=decide (a=b):=λa=>by
  induction a with
  |nil=>intro b;cases b<;>rfl
  | cons x a ih=>
   intro b
   cases b with
   |nil=>rfl
   |cons y b=>
    obtain⟨x1,x2⟩:=x
    obtain⟨y1,y2⟩:=y
    have e1:=qfS [x1,x2] [y1,y2]
    simp only[mC_,ybJ]at e1
    simp only[mC_,toPDs,ydI,ih b]
    show(ybf (.tuple (toPDs [.int x1,.int x2])) (.tuple (toPDs [.int y1,.int y2]))&&decide (a=b))=_
    rw[e1,<-Bool.decide_and]
    simp only[yb9,and_true,Prod.mk.injEq]
 have e:eqB (.tup (qs.map ipD)) (.tup (ps.map ipD))=eqA (.tup (qs.map ipD)) (.tup (ps.map ipD)):=rfl
 rw[e]
 unfold eqA
 rw[ok,ok]
 show some (D.bl (ybf (.tuple (toPDs (qs.map ipD))) (.tuple (toPDs (ps.map ipD)))))=_
 simp only[ybf,ev]
theorem qmQ (s:List (Nat×Nat)):s.map stD=(s.map λp=>((p.1:Int),(p.2:Int))).map ipD:=by
 rw[mm_]
 rfl
theorem qlf:∀{a b:List (Int×Int)},a.map ipD=b.map ipD->a=b
 | [],[],_=>rfl
 | [],_::_,h=>by cases h
 |_::_,[],h=>by cases h
 |x::a,y::b,h=>by
  rw[mC_,mC_,yb9]at h
  rw[qlf h.2]
  have:=D.tup.inj h.1
  simp only[yb9,D.int.injEq,and_true]at this
  rw[show x=y from Prod.ext this.1 this.2]
section
variable{st:D}{r u:Int}
theorem qe5 (hst:qx [st,.int r,.int u]=.ok .non) (t:D):qI [t,st,.int r,.int u]=.ok (.bl false):=by
 unfold qI jT
 let Z0:Env:=[some t,some st,some (.int r),some (.int u),none]
 let Z1:Env:=[some t,some st,some (.int r),some (.int u),some .non]
 refine qeL rfl ⟨Z1,?_⟩
 refine(qi (Z':=Z1) (xs1 (Z:=Z0) (qc1 rfl rfl rfl) hst)).trans (vh ((qgP (qqy (zT (qo rfl rfl (qd1 _))))).trans (ye rfl)))
theorem qe6 {s:List (Nat×Nat)} (hst:qx [st,.int r,.int u]=.ok (.tup (s.map stD))) {t:D} (hl:∀ts,t=.tup ts->ts.length<=100):∃b,qI [t,st,.int r,.int u]=.ok (.bl b)/\(b=true ↔ t=.tup (s.map stD)):=by
 let Z0:Env:=[some t,some st,some (.int r),some (.int u),none]
 let Z1:Env:=[some t,some st,some (.int r),some (.int u),some (.tup (s.map stD))]
 have s0:(zi 4 (yT RN qx (qa (dv 1) (qa (dv 2) (qa (dv 3) (ret [])))))) Z0=.ok (.nx Z1):=xs1 (Z:=Z0) (qc1 rfl rfl rfl) hst
 have n0:tst (d2 isN (dv 4) (ret .non)) Z1=.ok (false,Z1):=zT (qo rfl rfl (qd1 _))
 have ty:∀b,qbZ (tyD t) "tuple"=b->wE (tst (qeD "tuple" (dv 0))) Z1=.ok (!b,Z1):=λb e=>by
  have d0:qeD "tuple" (dv 0) Z1=.ok (.bl b,Z1):=by
   rw[qfs]
   have:dv 0 Z1=.ok (t,Z1):=rfl
   rw[this]
   simp only[e]
  rw[qbo,zT d0]
 have nt:qbZ (tyD t) "tuple"=false->qI [t,st,.int r,.int u]=.ok (.bl false):=λe=>by
  unfold qI jT
  refine qeL rfl ⟨Z1,(qi s0).trans (vh ?_)⟩
  have t2:=ty false e
  have:tor (tst (d2 isN (dv 4) (ret .non))) (wE (tst (qeD "tuple" (dv 0)))) Z1=.ok (true,Z1):=by rw[qgz,n0];exact t2
  exact(qgP this).trans (ye rfl)
 cases t with
 | tup ts=>
  have hts:=hl ts rfl
  have t2:=ty true (wd _)
  have sk:(sif (tor (tst (d2 isN (dv 4) (ret .non))) (wE (tst (qeD "tuple" (dv 0))))) (jd (ret (.bl false))) jA) Z1=.ok (.nx Z1):=(qev (qo8 n0 t2)).trans rfl
  have c:=qbE (e:=qp uP (qa (dv 0) (ret []))) (xs:=yt (dv 0)) (fr:=[]) (Z:=Z1) (r:=[]) (k:=λd:D=>d) ts (λd=>D.bl (wx d)) (by rw[List.map_id'];rfl) rfl (by omega) λd _=>vi rfl (qmP d)
  have ca:qq qfm (qa (zE 1 [] none (yt (dv 0)) (ql 0) (ret true) (qp uP (qa (dv 0) (ret [])))) (ret [])) Z1=.ok (.bl (ts.all wx),Z1):=jg c qfR
  cases ea:ts.all wx with
  | false=>
   rw[ea]at ca
   refine⟨false,?_,?_⟩
   ·unfold qI jT
    exact qeL rfl ⟨Z1,(qi s0).trans ((qi sk).trans (ye (qek ca)))⟩
   ·refine ⟨(λh=>by cases h),λh=>?_⟩
    rw[D.tup.inj h]at ea
    have:(s.map stD).all wx=true:=List.all_eq_true.mpr λd hd=>by
     obtain⟨p,_,rfl⟩:=mP_.mp hd
     rfl
    rw[this]at ea
    cases ea
  | true=>
   rw[ea]at ca
   obtain⟨qs,rfl⟩:=qgg ts ea
   have ee:=qp4 qs (s.map λp=>((p.1:Int),(p.2:Int)))
   rw[<-qmQ]at ee
   refine⟨decide (qs=s.map λp=>((p.1:Int),(p.2:Int))),?_,?_⟩
   ·unfold qI jT
    refine qeL rfl ⟨Z1,(qi s0).trans ((qi sk).trans (ye ?_))⟩
    rw[qel ca]
    exact qo rfl rfl ee
   ·rw[decide_eq_true_eq]
    refine⟨λh=>by rw[h,qmQ],λh=>?_⟩
    have h:=D.tup.inj h
    rw[qmQ]at h
    exact qlf h
 |_=>exact⟨false,nt (by first|decide|rfl),(λh=>by cases h),λh=>by cases h⟩
end
theorem qen:∀(ks:List Kw)(n:Int)(acc:List Int)(o:OD),(∀k∈ks,sgK k)->acc.length+ks.length<=100->∃n' l o',zC (ql 0) (ret true) (qj qg 1 (qa (d2 qU (ret (.int 1)) (d2 ixD (dv 0) (ret (.int 2)))) (ret []))) (ks.map kw) (acc.map D.int) [o,some (.lst [.int n])]=.ok ((acc++l).map D.int,[o',some (.lst [.int n'])])/\l.length=ks.length/\∀t∈l,t=0\/t=1
 | [],n,acc,o,_,_=>⟨n,[],o,by rw[yaZ];rfl,rfl,λt ht=>absurd ht nN_⟩
 | k :: ks,n,acc,o,h,hl=>by
  rw[lC_]at hl
  have gk:=h k mS_
  have ht:=qit gk
  let m:Int:=1+(tm k:Int)
  have m0:0<=n%m:=yca _ (by show 1+(tm k:Int)≠0;omega)
  have m1:n%m<m:=ybN _ (by show 0<1+(tm k:Int);omega)
  obtain⟨n',l,o',q,hq,h01⟩:=qen ks (n/m) (acc++[n%m]) (some (kw k)) (λx hx=>h x (mM _ hx)) (by rw[lA_,yau];omega)
  refine⟨n',n%m::l,o',?_,by rw[lC_,lC_,hq],λt ht'=>?_⟩
  ·have e:qj qg 1 (qa (d2 qU (ret (.int 1)) (d2 ixD (dv 0) (ret (.int 2)))) (ret [])) [some (kw k),some (.lst [.int n])]=.ok (.int (n%m),[some (kw k),some (.lst [.int (n/m)])]):=io1 (i:=1) (a:=.int m) rfl (qo rfl (qo rfl rfl (qqA gk)) (zx _ _)) (je (by show 0<1+(tm k:Int);omega) (by show 1+(tm k:Int)<_;omega))
   rw[mC_]
   unfold zC
   simp only[ql,ybm,vB,e,lM_,zf (show acc.length+1<=1000000 by omega),if_true]
   rw[yaR,yaR]at q
   simp only[mC_,ybJ]at q
   rw[q]
   simp
  ·rcases List.mem_cons.mp ht' with rfl|ht'
   ·have:m<=2:=by show 1+(tm k:Int)<=2;omega
    omega
   ·exact h01 t ht'
theorem qoV{i:Nat}{f:M D}{Z Z':Env}{x:Exn}(h:f Z=.exc x Z'):zi i f Z=.exc x Z':=by rw[wQ,h]
theorem qiT {n:Str} {w a b c:D} (hn:RN.contains n=true) {Zx:Env} (he:qx [a,b,c]=.exc ⟨n,.non⟩ Zx) (hm:jr [.exc n]=.ok w):zg [a,b,c]=.ok w:=by
 have e:qI [.non,a,b,c]=.exc ⟨n,.non⟩ [some .non,some a,some b,some c,none]:=by
  unfold qI
  refine qaK rfl ?_
  unfold jT
  let Z:Env:=[some .non,some a,some b,some c,none]
  exact qdU (qoV (qcx (Z:=Z) (qc1 rfl rfl rfl) he hn))
 unfold zg wv
 let Z:Env:=[some a,some b,some c,none]
 have a4:qa (ret .non) (qa (dv 0) (qa (dv 1) (qa (dv 2) (ret [])))) Z=.ok ([.non,a,b,c],Z):=by
  rw[j4,vB]
  simp only[qc1 (Z:=Z) (f:=dv 0) (g:=dv 1) (h:=dv 2) (a:=a) (b:=b) (c:=c) rfl rfl rfl]
 exact qai rfl ⟨Z,vh (qpV (n:=n) (v:=.non) (qge (qcx (Z:=Z) a4 e hn)) hn hm)⟩
section
variable{qs:List Kw}(hs:uG (.tup (qs.map kw))=true)
include hs
theorem qeo (h:∀k∈qs,k.m=some 0\/k.m=some 1\/k.m=some 2\/k.m=none\/k.m=some 3) (hl:qs.length<=12) (hx:qs.all qkf=false):qx [.tup (qs.map kw),.int 0,.int 0]=.exc ⟨"NotSingle",.non⟩ [some (.tup (qs.map kw)),some (.int 0),some (.int 0),none,none,none,none]:=by
 have e:jR [.tup (qs.map kw)]=.exc ⟨"NotSingle",.non⟩ [some (.tup (qs.map kw))]:=by
  unfold jR
  refine qaK rfl ?_
  unfold yH
  let Z:Env:=[some (.tup (qs.map kw))]
  refine(qi (Z':=Z) (xx1 (yC rfl) (z7 _ hs))).trans (qdU (qge (qcx (Z:=Z) (yC rfl) (qkj h hl hx) jV)))
 unfold qx
 refine qaK rfl ?_
 unfold jL
 let Z:Env:=[some (.tup (qs.map kw)),some (.int 0),some (.int 0),none,none,none,none]
 exact(qi (Z':=Z) (xx1 (yC rfl) (z7 _ hs))).trans ((qi (Z':=Z) (xx1 (yC rfl) (u5 (.int 0) rfl))).trans ((qi (Z':=Z) (xx1 (yC rfl) (u6 (.int 0) rfl))).trans (qdU (qoV (qcx (Z:=Z) (yC rfl) e jV)))))
theorem qe7 (d e:D) (hd:j7 d=false):qx [.tup (qs.map kw),d,e]=.exc ⟨"NoNumber",.non⟩ [some (.tup (qs.map kw)),some d,some e,none,none,none,none]:=by
 unfold qx
 refine qaK rfl ?_
 unfold jL
 let Z:Env:=[some (.tup (qs.map kw)),some d,some e,none,none,none,none]
 exact(qi (Z':=Z) (xx1 (yC rfl) (z7 _ hs))).trans (qdU (qge (qcx (Z:=Z) (yC rfl) (qec _ hd) jM)))
theorem qe8 (d e:D) (hd:j7 d=true) (he:yO e=false):qx [.tup (qs.map kw),d,e]=.exc ⟨"NoNumber",.non⟩ [some (.tup (qs.map kw)),some d,some e,none,none,none,none]:=by
 unfold qx
 refine qaK rfl ?_
 unfold jL
 let Z:Env:=[some (.tup (qs.map kw)),some d,some e,none,none,none,none]
 exact(qi (Z':=Z) (xx1 (yC rfl) (z7 _ hs))).trans ((qi (Z':=Z) (xx1 (yC rfl) (u5 _ hd))).trans (qdU (qge (qcx (Z:=Z) (yC rfl) (qed _ he) jM))))
end
theorem qe9{d:D}(h:Th d):zj [d]=some (.str (zF d).shown):=by simp only[zj,h.rp,if_true]
theorem qmR(x y:Str):eqB (.str x) (.str y)=some (.bl (decide (x=y))):=rfl
theorem qp5 {f g h k:M D} {Z:Env} {a b c z:D} (hf:f Z=.ok (a,Z)) (hg:g Z=.ok (b,Z)) (hh:h Z=.ok (c,Z)) (hk:k Z=.ok (z,Z)):qa f (qa g (qa h (qa k (ret [])))) Z=.ok ([a,b,c,z],Z):=by
 rw[j4,hf]
 simp only[qc1 hg hh hk]
def rmD(p:Int×Int):D:=.tup [.int p.1,.int p.2]
section
variable{ks:List Kw}{G:Int}(g0:1<=G)(g1:G<=100000000000000000000)(h:∀k∈ks,sgB G k)(hl:ks.length<=10){r:Int}(hr:0<=r)(u:Int)
include g0 g1 h hl hr
theorem qiU (S I:OD) {d:D} (hd:Od d) (Ld Ne De o12 o13 o14 o15:OD) (o10 o11:OD) (n:Int):∃n' p10 p11 p12 p13 p14,(qH (qer (qp qJ (qa (dv 3) (qa (dv 8) (qa (dv 9) (ret []))))) (vN 2 (qQ (ql 10) (qQ (ql 11) vq)))) (qH (sif (tst (d2 neB (qq zj (qa (jf qx (qa (dv 3) (qa (dv 8) (qa (dv 9) (ret []))))) (ret []))) (qq zj (qa (d2 ixD (jI (qa (ret .non) (qa (dv 10) (ret [])))) (qq qal (qa (dv 11) (ret [])))) (ret []))))) (jd (ret (.bl false))) jA) (wy (yt (d2 qU (jI (qa (dv 10) (qa (dv 4) (qa (qO (ret [])) (ret []))))) (zE 1 [2,10,4] (some (1,2)) (jC (qa (ret (.int 2)) (ret []))) (ql 0) (ret true) (qj qT 1 (qa (dv 2) (qa (dv 3) (ret []))))))) (ql 12) (qH (zi 13 (qq zj (qa (dv 12) (ret [])))) (qH (zi 14 (qaR (dv 11) (d2 eqB (qq zj (qa (dv 12) (ret []))) (qq zj (qa (dv 10) (ret [])))))) (sif (tor (wE (tst (qp qX (qa (jf qI (qa (dv 12) (qa (dv 3) (qa (dv 8) (qa (dv 9) (ret [])))))) (qa (dv 14) (ret [])))))) (tst (d2 neB (qq zj (qa (dv 12) (ret []))) (dv 13)))) (jd (ret (.bl false))) jA)))))) [S,I,some (.lst [.int n]),some (.tup (ks.map kw)),some d,Ld,Ne,De,some (.int r),some (.int u),o10,o11,o12,o13,o14,o15]=.ok (.nx [S,I,some (.lst [.int n']),some (.tup (ks.map kw)),some d,Ld,Ne,De,some (.int r),some (.int u),p10,p11,p12,p13,p14,o15]):=by
 have hs:∀k∈ks,sgK k:=λk hk=>(h k hk).1
 have eg:=qmM g0 g1 h hl r u
 obtain⟨bs,bl⟩:=qgX g0 g1 h hl r u
 have sf:=qej hs hl hr u
 have gf:=qiP (A:=nbL (ks.take (ks.length/2))) (B:=nbL (ks.drop (ks.length/2))) (r:=r) (u:=u) ((nbL (ks.take (ks.length/2))).length+(nbL (ks.drop (ks.length/2))).length) 0 (nbL (ks.drop (ks.length/2))).length []
 generalize egs:qlb (nbL (ks.take (ks.length/2))) (nbL (ks.drop (ks.length/2))) r u=gn at eg bs bl
 obtain⟨s,w⟩:=gn
 have gf':qiw (nbL (ks.take (ks.length/2))) (nbL (ks.drop (ks.length/2))) r u=if w=true then some s else none:=by
  have e:uu (nbL (ks.take (ks.length/2))) (nbL (ks.drop (ks.length/2))) r u ((nbL (ks.take (ks.length/2))).length+(nbL (ks.drop (ks.length/2))).length) 0 (nbL (ks.drop (ks.length/2))).length []=(s,w):=egs
  rw[e]at gf
  exact gf
 rw[gf']at sf
 clear gf gf' egs
 have bs':∀p∈s,p.1<=35/\p.2<=35:=λp hp=>by have:=bs p hp;exact⟨yaA this.1 (by decide),yaA this.2 (by decide)⟩
 have bl':s.length<=64:=bl
 have hst:Th (.tup (s.map stD)):=qkl bs' (by omega)
 have ok4:okN 4 (.tup (s.map stD)):=λx hx=>by
  obtain⟨p,_,rfl⟩:=mP_.mp hx
  exact qkk p 2
 let K:OD:=some (.tup (ks.map kw))
 let Rm:OD:=some (.int r)
 let Uq:OD:=some (.int u)
 let Sd:OD:=some (.tup (s.map stD))
 let W:OD:=some (.bl w)
 obtain⟨t1,m1,eb1,ht1⟩:=qiS bs' (by omega) hd n
 obtain⟨t2,m2,eb2,ht2⟩:=qiS bs' (by omega) hd m1
 let Z0:Env:=[S,I,some (.lst [.int n]),K,some d,Ld,Ne,De,Rm,Uq,o10,o11,o12,o13,o14,o15]
 let Z1:Env:=[S,I,some (.lst [.int n]),K,some d,Ld,Ne,De,Rm,Uq,Sd,W,o12,o13,o14,o15]
 let Z2:Env:=[S,I,some (.lst [.int m2]),K,some d,Ld,Ne,De,Rm,Uq,Sd,W,o12,o13,o14,o15]
 have s0:(qer (qp qJ (qa (dv 3) (qa (dv 8) (qa (dv 9) (ret []))))) (vN 2 (qQ (ql 10) (qQ (ql 11) vq)))) Z0=.ok (.nx Z1):=by
  rw[qdP,vX rfl rfl rfl eg]
  rfl
 have sfw:qx [.tup (ks.map kw),.int r,.int u]=.ok (if w=true then .tup (s.map stD)else .non):=by
  rw[sf]
  cases w<;>rfl
 have s1:(sif (tst (d2 neB (qq zj (qa (jf qx (qa (dv 3) (qa (dv 8) (qa (dv 9) (ret []))))) (ret []))) (qq zj (qa (d2 ixD (jI (qa (ret .non) (qa (dv 10) (ret [])))) (qq qal (qa (dv 11) (ret [])))) (ret []))))) (jd (ret (.bl false))) jA) Z1=.ok (.nx Z1):=by
  have c1:jf qx (qa (dv 3) (qa (dv 8) (qa (dv 9) (ret [])))) Z1=.ok (if w=true then .tup (s.map stD)else .non,Z1):=by
   rw[qaW,qc1 (a:=.tup (ks.map kw)) (b:=.int r) (c:=.int u) rfl rfl rfl]
   simp only[sfw]
  have c2:d2 ixD (jI (qa (ret .non) (qa (dv 10) (ret [])))) (qq qal (qa (dv 11) (ret []))) Z1=.ok (if w=true then .tup (s.map stD)else .non,Z1):=by
   have l:jI (qa (ret .non) (qa (dv 10) (ret []))) Z1=.ok (.lst [.non,.tup (s.map stD)],Z1):=by
    rw[qch,qd4 (Z:=Z1) (a:=.non) (b:=.tup (s.map stD)) rfl rfl]
    simp only[lC_,lN_,ybr,ydK,zf (show 2<=1000000 by omega),if_true]
   cases ew:w with
   |true=>exact qo l (jg (a:=.bl true) (by show R.ok (D.bl w,Z1)=_;rw[ew]) qoz) (qrc _ _)
   |false=>exact qo l (jg (a:=.bl false) (by show R.ok (D.bl w,Z1)=_;rw[ew]) qoA) (qrb _ _)
  have rx:∃x,zj [if w=true then D.tup (s.map stD)else .non]=some (.str x):=by
   cases w with
   |true=>exact⟨_,qe9 hst⟩
   |false=>exact⟨_,rfl⟩
  obtain⟨x,rx⟩:=rx
  exact(qev (zT (qo (jg c1 rx) (jg c2 rx) (qbD _)))).trans rfl
 let Th5:List D:=[.tup (s.map stD),d,.tup []]++[t1,t2]
 have hT:∀x∈Th5,Th x:=λx hx=>by
  simp only[Th5,mA_,yax,nN_,or_false]at hx
  rcases hx with(rfl|rfl|rfl)|rfl|rfl
  ·exact hst
  ·exact hd.th
  ·exact qkl (s:=[]) (λp hp=>absurd hp nN_) (by simp)
  ·exact ht1
  ·exact ht2
 obtain ⟨Zr,qr,p12,p13,p14,rfl⟩:=jD (G:=ql 12) (b:=(qH (zi 13 (qq zj (qa (dv 12) (ret [])))) (qH (zi 14 (qaR (dv 11) (d2 eqB (qq zj (qa (dv 12) (ret []))) (qq zj (qa (dv 10) (ret [])))))) (sif (tor (wE (tst (qp qX (qa (jf qI (qa (dv 12) (qa (dv 3) (qa (dv 8) (qa (dv 9) (ret [])))))) (qa (dv 14) (ret [])))))) (tst (d2 neB (qq zj (qa (dv 12) (ret []))) (dv 13)))) (jd (ret (.bl false))) jA)))) (k:=λx:D=>x) (step:=λ(s:Unit) (_:D)=>s) (Inv:=λ_ _ Z=>∃o12 o13 o14,Z=[S,I,some (.lst [.int m2]),K,some d,Ld,Ne,De,Rm,Uq,Sd,W,o12,o13,o14,o15]) Th5 0 () Z2 ⟨o12,o13,o14,rfl⟩ (λx hx m _ Z _ _=>by
  rintro⟨o12,o13,o14,rfl⟩
  have hx:=hT x hx
  have rx:=qe9 hx
  have rs:=qe9 hst
  let B:OD:=some (.lst [.int m2])
  let He:OD:=some (.str (zF x).shown)
  let du:Bool:=w&&decide ((zF x).shown=(zF (.tup (s.map stD))).shown)
  let σ1:Env:=[S,I,B,K,some d,Ld,Ne,De,Rm,Uq,Sd,W,some x,o13,o14,o15]
  let σ2:Env:=[S,I,B,K,some d,Ld,Ne,De,Rm,Uq,Sd,W,some x,He,o14,o15]
  let σ3:Env:=[S,I,B,K,some d,Ld,Ne,De,Rm,Uq,Sd,W,some x,He,some (.bl du),o15]
  have b0:(zi 13 (qq zj (qa (dv 12) (ret [])))) σ1=.ok (.nx σ2):=uM (Z1:=σ1) (jg (a:=x) rfl rx)
  have b1:(zi 14 (qaR (dv 11) (d2 eqB (qq zj (qa (dv 12) (ret []))) (qq zj (qa (dv 10) (ret [])))))) σ2=.ok (.nx σ3):=by
   have c:(qaR (dv 11) (d2 eqB (qq zj (qa (dv 12) (ret []))) (qq zj (qa (dv 10) (ret []))))) σ2=.ok (.bl du,σ2):=by
    have g:dv 11 σ2=.ok (.bl w,σ2):=rfl
    have q:d2 eqB (qq zj (qa (dv 12) (ret []))) (qq zj (qa (dv 10) (ret []))) σ2=.ok (.bl (decide ((zF x).shown=(zF (.tup (s.map stD))).shown)),σ2):=qo (jg (a:=x) rfl rx) (jg (a:=.tup (s.map stD)) rfl rs) (qmR _ _)
    show _=R.ok (D.bl (w&&decide ((zF x).shown=(zF (.tup (s.map stD))).shown)),σ2)
    cases w with
    |true=>exact(qel g).trans q
    |false=>exact qek g
   exact uM (Z1:=σ2) c
  have is:qI [x,.tup (ks.map kw),.int r,.int u]=.ok (.bl du):=by
   cases w with
   |false=>exact qe5 sfw x
   | true=>
    obtain⟨b,e1,e2⟩:=qe6 (s:=s) sfw hx.ln
    rw[e1]
    have e3:=qj9 hx.gd ok4
    have:b=decide ((zF x).shown=(zF (.tup (s.map stD))).shown):=by
     rw[yby]
     exact e2.trans e3.symm
    rw[this]
    rfl
  have c2:jf qI (qa (dv 12) (qa (dv 3) (qa (dv 8) (qa (dv 9) (ret []))))) σ3=.ok (.bl du,σ3):=by
   rw[qaW,qp5 (a:=x) (b:=.tup (ks.map kw)) (c:=.int r) (z:=.int u) rfl rfl rfl rfl]
   simp only[is]
  have tr:qX [.bl du,.bl du]=.ok (.bl true):=by
   rw[qbO]
   cases du<;>rfl
  have t1:wE (tst (qp qX (qa (jf qI (qa (dv 12) (qa (dv 3) (qa (dv 8) (qa (dv 9) (ret [])))))) (qa (dv 14) (ret []))))) σ3=.ok (false,σ3):=by
   rw[qbo,zT (qk0 c2 rfl tr)]
   rfl
  have b2:(sif (tor (wE (tst (qp qX (qa (jf qI (qa (dv 12) (qa (dv 3) (qa (dv 8) (qa (dv 9) (ret [])))))) (qa (dv 14) (ret [])))))) (tst (d2 neB (qq zj (qa (dv 12) (ret []))) (dv 13)))) (jd (ret (.bl false))) jA) σ3=.ok (.nx σ3):=(qev (qo8 t1 (zT (qo (jg (a:=x) rfl rx) rfl (qbD _))))).trans rfl
  exact⟨σ1,σ3,rfl,(qi b0).trans ((qi b1).trans b2),some x,He,some (.bl du),rfl⟩)
 rw[List.map_id']at qr
 refine⟨m2,Sd,W,p12,p13,p14,?_⟩
 show(qH (qer (qp qJ (qa (dv 3) (qa (dv 8) (qa (dv 9) (ret []))))) (vN 2 (qQ (ql 10) (qQ (ql 11) vq)))) (qH (sif (tst (d2 neB (qq zj (qa (jf qx (qa (dv 3) (qa (dv 8) (qa (dv 9) (ret []))))) (ret []))) (qq zj (qa (d2 ixD (jI (qa (ret .non) (qa (dv 10) (ret [])))) (qq qal (qa (dv 11) (ret [])))) (ret []))))) (jd (ret (.bl false))) jA) (wy (yt (d2 qU (jI (qa (dv 10) (qa (dv 4) (qa (qO (ret [])) (ret []))))) (zE 1 [2,10,4] (some (1,2)) (jC (qa (ret (.int 2)) (ret []))) (ql 0) (ret true) (qj qT 1 (qa (dv 2) (qa (dv 3) (ret []))))))) (ql 12) (qH (zi 13 (qq zj (qa (dv 12) (ret [])))) (qH (zi 14 (qaR (dv 11) (d2 eqB (qq zj (qa (dv 12) (ret []))) (qq zj (qa (dv 10) (ret [])))))) (sif (tor (wE (tst (qp qX (qa (jf qI (qa (dv 12) (qa (dv 3) (qa (dv 8) (qa (dv 9) (ret [])))))) (qa (dv 14) (ret [])))))) (tst (d2 neB (qq zj (qa (dv 12) (ret []))) (dv 13)))) (jd (ret (.bl false))) jA)))))) Z0=_
 refine(qi s0).trans ((qi s1).trans ?_)
 have cc:(zE 1 [2,10,4] (some (1,2)) (jC (qa (ret (.int 2)) (ret []))) (ql 0) (ret true) (qj qT 1 (qa (dv 2) (qa (dv 3) (ret []))))) Z1=.ok (.lst [t1,t2],Z2):=by
  rw[qbq]
  have rg:jC (qa (ret (.int 2)) (ret [])) Z1=.ok ([.int 0,.int 1],Z1):=by
   rw[uV (yC rfl) (by omega) (by omega)]
   rfl
  rw[rg]
  have e1:qj qT 1 (qa (dv 2) (qa (dv 3) (ret []))) [some (.int 0),some (.lst [.int n]),Sd,some d]=.ok (t1,[some (.int 0),some (.lst [.int m1]),Sd,some d]):=by
   rw[vC]
   have g:zM 1 [some (.int 0),some (.lst [.int n]),Sd,some d]=some [.int n]:=rfl
   simp only[g,qd4 (Z:=[some (.int 0),some (.lst [.int n]),Sd,some d]) (f:=dv 2) (g:=dv 3) (a:=.tup (s.map stD)) (b:=d) rfl rfl,eb1]
   rfl
  have e2:qj qT 1 (qa (dv 2) (qa (dv 3) (ret []))) [some (.int 1),some (.lst [.int m1]),Sd,some d]=.ok (t2,[some (.int 1),some (.lst [.int m2]),Sd,some d]):=by
   rw[vC]
   have g:zM 1 [some (.int 1),some (.lst [.int m1]),Sd,some d]=some [.int m1]:=rfl
   simp only[g,qd4 (Z:=[some (.int 1),some (.lst [.int m1]),Sd,some d]) (f:=dv 2) (g:=dv 3) (a:=.tup (s.map stD)) (b:=d) rfl rfl,eb2]
   rfl
  have el:zC (ql 0) (ret true) (qj qT 1 (qa (dv 2) (qa (dv 3) (ret [])))) [.int 0,.int 1] [] [none,some (.lst [.int n]),Sd,some d]=.ok ([t1,t2],[some (.int 1),some (.lst [.int m2]),Sd,some d]):=by
   unfold zC
   simp only[ql,ybm,vB,e1,lN_,ybr,sm1,if_true,ybc]
   unfold zC
   simp only[ql,ybm,vB,e2,yau,ydK,zf (show 2<=1000000 by omega),if_true]
   unfold zC
   rfl
  show(match zC (ql 0) (ret true) (qj qT 1 (qa (dv 2) (qa (dv 3) (ret [])))) [.int 0,.int 1] [] [none,some (.lst [.int n]),Sd,some d] with|.ok (ys,Ze)=>R.ok (D.lst ys,qkA (some (1,2)) Ze _)|_ => .bad)=_
  rw[el]
  rfl
 have l3:(jI (qa (dv 10) (qa (dv 4) (qa (qO (ret [])) (ret []))))) Z1=.ok (.lst [.tup (s.map stD),d,.tup []],Z1):=by
  have z:qO (ret []) Z1=.ok (.tup [],Z1):=by
   rw[wO]
   simp only[vB,lN_,zf (show 0<=1000000 by omega),if_true]
  rw[qch,qc1 (Z:=Z1) (a:=.tup (s.map stD)) (b:=d) (c:=.tup []) rfl rfl z]
  simp only[lC_,lN_,ybr,ydK,zf (show 3<=1000000 by omega),if_true]
 have it:(yt (d2 qU (jI (qa (dv 10) (qa (dv 4) (qa (qO (ret [])) (ret []))))) (zE 1 [2,10,4] (some (1,2)) (jC (qa (ret (.int 2)) (ret []))) (ql 0) (ret true) (qj qT 1 (qa (dv 2) (qa (dv 3) (ret []))))))) Z1=.ok (Th5,Z2):=by
  rw[qbp,qo2,l3]
  simp only[cc,wZ (show([.tup (s.map stD),d,.tup []]:List D).length+[t1,t2].length<=1000000 by simp)]
  rfl
 rw[yS,it]
 exact qr
end
theorem qkn (ns:List Int) (i:Int) (h0:0<=i) (h3:i<3) (r:Env) (hr:r.length=14):∃r',r'.length=14/\(qH (vn 2 (qdM jU (qa (dv 0) (qa (dv 1) (ret []))))) (qH (zi 3 (qj qY 2 (qa (ret (.int 8)) (qa (d2 ixD (jI (qa (ret (.int 1)) (qa (ret (.int 1)) (qa (d2 qfq (ret (.int 10)) (ret (.int 20))) (ret []))))) (qj qg 2 (qa (ret (.int 3)) (ret [])))) (ret []))))) (qH (zi 4 (qj zw 2 (ret []))) (qH (zi 5 (qq qbd (qa (zE 1 [2] (some (1,2)) (yt (dv 3)) (ql 0) (ret true) (qj qg 1 (qa (d2 qU (ret (.int 1)) (d2 ixD (dv 0) (ret (.int 2)))) (ret [])))) (ret [])))) (qH (qdK 6 7 (qa (qp zh (qa (dv 3) (qa (dv 5) (qa (ret (.int 0)) (ret []))))) (qa (qp zh (qa (dv 3) (qa (dv 5) (qa (ret (.int 1)) (ret []))))) (ret [])))) (qH (wy (yt (jI (qa (qO (qa (dv 6) (qa (dv 7) (ret [])))) (qa (qO (qa (dv 6) (qa (d2 qU (d2 qU (dv 7) (ret (.int 1))) (qj qg 2 (qa (ret (.int 9)) (ret [])))) (ret [])))) (qa (qO (qa (d2 qU (dv 6) (ret (.int 3))) (qa (d2 qU (d2 uF (ret (.int 2)) (dv 7)) (ret (.int 1))) (ret [])))) (qa (qO (qa (ret (.int 0)) (qa (d1 qaI (ret (.int 1))) (ret [])))) (ret []))))))) (vN 2 (qQ (ql 8) (qQ (ql 9) vq))) (qH (qer (qp qJ (qa (dv 3) (qa (dv 8) (qa (dv 9) (ret []))))) (vN 2 (qQ (ql 10) (qQ (ql 11) vq)))) (qH (sif (tst (d2 neB (qq zj (qa (jf qx (qa (dv 3) (qa (dv 8) (qa (dv 9) (ret []))))) (ret []))) (qq zj (qa (d2 ixD (jI (qa (ret .non) (qa (dv 10) (ret [])))) (qq qal (qa (dv 11) (ret [])))) (ret []))))) (jd (ret (.bl false))) jA) (wy (yt (d2 qU (jI (qa (dv 10) (qa (dv 4) (qa (qO (ret [])) (ret []))))) (zE 1 [2,10,4] (some (1,2)) (jC (qa (ret (.int 2)) (ret []))) (ql 0) (ret true) (qj qT 1 (qa (dv 2) (qa (dv 3) (ret []))))))) (ql 12) (qH (zi 13 (qq zj (qa (dv 12) (ret [])))) (qH (zi 14 (qaR (dv 11) (d2 eqB (qq zj (qa (dv 12) (ret []))) (qq zj (qa (dv 10) (ret [])))))) (sif (tor (wE (tst (qp qX (qa (jf qI (qa (dv 12) (qa (dv 3) (qa (dv 8) (qa (dv 9) (ret [])))))) (qa (dv 14) (ret [])))))) (tst (d2 neB (qq zj (qa (dv 12) (ret []))) (dv 13)))) (jd (ret (.bl false))) jA))))))) (qH (zi 15 (d2 qU (dv 3) (qO (qa (qO (qa (ret (.int 1)) (qa (ret (.int 1)) (qa (ret (.int 2)) (ret []))))) (ret []))))) (qH (sif (tor (tst (d2 neB (qp zg (qa (dv 15) (qa (ret (.int 0)) (qa (ret (.int 0)) (ret []))))) (ret (.str "single")))) (tst (d2 neB (qp zg (qa (dv 15) (qa (d1 qaI (ret (.int 1))) (qa (ret (.int 0)) (ret []))))) (ret (.str "number"))))) (jd (ret (.bl false))) jA) (sif (tst (d2 neB (qp zg (qa (dv 15) (qa (ret (.int 0)) (qa (ret .non) (ret []))))) (ret (.str "number")))) (jd (ret (.bl false))) jA))))))))) ([some (.fz ns),some (.int i)]++r)=.ok (.nx ([some (.fz ns),some (.int i)]++r')):=by
 match r,hr with
 | [o2,o3,o4,o5,o6,o7,o8,o9,o10,o11,o12,o13,o14,o15],_=>
  obtain⟨n,eb⟩:=qoJ ns i h0
  obtain ⟨G,g0,g1,eG⟩:∃G:Int,1<=G/\G<=100000000000000000000/\ixD (.lst [.int 1,.int 1,.int 100000000000000000000]) (.int (n%3))=some (.int G):=by
   have:n%3=0\/n%3=1\/n%3=2:=by omega
   rcases this with e|e|e<;>rw[e]
   ·exact⟨1,by omega,by omega,rfl⟩
   ·exact⟨1,by omega,by omega,rfl⟩
   ·exact⟨100000000000000000000,by omega,by omega,rfl⟩
  obtain⟨ks,n1,es,hkB,hkM⟩:=qiG 8 (by omega) g0 g1 (n/3)
  have es':qY [.int (n/3)] [.int 8,.int G]=.ok (.tup (ks.map kw),[.int n1]):=es
  have hk:∀k∈ks,sgK k:=λk hk=>(hkB k hk).1
  have hl:ks.length<=10:=by omega
  obtain⟨d,n2,eo,hd⟩:=qp3 n1
  obtain⟨n3,ld,q0,elc,hld,h01⟩:=qen ks n2 [] none hk (by simp;omega)
  let near:=zy ks ld
  let dear:=yD ks ld
  have near0:0<=near:=(qbI hk h01).1
  let n4:=n3/9
  let S:OD:=some (.fz ns)
  let I:OD:=some (.int i)
  let K:OD:=some (.tup (ks.map kw))
  let Dd:OD:=some d
  let Ld:OD:=some (ldD ld)
  let Ne:OD:=some (.int near)
  let De:OD:=some (.int dear)
  let rooms:List (Int×Int):=[(near,dear),(near,dear+1+n3%9),(near+3,2*dear+1),(0,-1)]
  have hrooms:∀x∈rooms,0<=x.1:=λx hx=>by
   simp only[rooms,yax,nN_,or_false]at hx
   rcases hx with e|e|e|e<;>rw[e]
   ·exact near0
   ·exact near0
   ·show 0<=near+3;omega
   ·exact ybw _
  obtain ⟨Zr,qr,n5,p8,p9,p10,p11,p12,p13,p14,rfl⟩:=jD (G:=vN 2 (qQ (ql 8) (qQ (ql 9) vq))) (b:=(qH (qer (qp qJ (qa (dv 3) (qa (dv 8) (qa (dv 9) (ret []))))) (vN 2 (qQ (ql 10) (qQ (ql 11) vq)))) (qH (sif (tst (d2 neB (qq zj (qa (jf qx (qa (dv 3) (qa (dv 8) (qa (dv 9) (ret []))))) (ret []))) (qq zj (qa (d2 ixD (jI (qa (ret .non) (qa (dv 10) (ret [])))) (qq qal (qa (dv 11) (ret [])))) (ret []))))) (jd (ret (.bl false))) jA) (wy (yt (d2 qU (jI (qa (dv 10) (qa (dv 4) (qa (qO (ret [])) (ret []))))) (zE 1 [2,10,4] (some (1,2)) (jC (qa (ret (.int 2)) (ret []))) (ql 0) (ret true) (qj qT 1 (qa (dv 2) (qa (dv 3) (ret []))))))) (ql 12) (qH (zi 13 (qq zj (qa (dv 12) (ret [])))) (qH (zi 14 (qaR (dv 11) (d2 eqB (qq zj (qa (dv 12) (ret []))) (qq zj (qa (dv 10) (ret [])))))) (sif (tor (wE (tst (qp qX (qa (jf qI (qa (dv 12) (qa (dv 3) (qa (dv 8) (qa (dv 9) (ret [])))))) (qa (dv 14) (ret [])))))) (tst (d2 neB (qq zj (qa (dv 12) (ret []))) (dv 13)))) (jd (ret (.bl false))) jA))))))) (k:=rmD) (step:=λ(s:Unit) (_:Int×Int)=>s) (Inv:=λ_ _ Z=>∃n o8 o9 o10 o11 o12 o13 o14,Z=[S,I,some (.lst [.int n]),K,Dd,Ld,Ne,De,o8,o9,o10,o11,o12,o13,o14,o15]) rooms 0 () [S,I,some (.lst [.int n4]),K,Dd,Ld,Ne,De,o8,o9,o10,o11,o12,o13,o14,o15] ⟨n4,o8,o9,o10,o11,o12,o13,o14,rfl⟩ (λx hx m _ Z _ _=>by
   rintro⟨n,o8,o9,o10,o11,o12,o13,o14,rfl⟩
   obtain⟨n',q10,q11,q12,q13,q14,e⟩:=qiU g0 g1 hkB hl (hrooms x hx) x.2 S I hd Ld Ne De o12 o13 o14 o15 o10 o11 n
   exact⟨[S,I,some (.lst [.int n]),K,Dd,Ld,Ne,De,some (.int x.1),some (.int x.2),o10,o11,o12,o13,o14,o15],_,rfl,e,n',some (.int x.1),some (.int x.2),q10,q11,q12,q13,q14,rfl⟩)
  let q:Kw:=⟨1,1,some 2⟩
  let Mn:OD:=some (.tup ((ks++[q]).map kw))
  have ms:uG (.tup ((ks++[q]).map kw))=true:=qf8 (λk hk'=>by
   rcases mA_.mp hk' with hk'|hk'
   ·exact⟨(hk k hk').1,(hk k hk').2.1,(hk k hk').kd.2⟩
   ·rw[ms_.mp hk']
    exact⟨by decide,by decide,λj e=>by cases e;decide⟩) (by rw[lA_,yau];omega)
  have mc:∀k∈ks++[q],k.m=some 0\/k.m=some 1\/k.m=some 2\/k.m=none\/k.m=some 3:=λk hk'=>by
   rcases mA_.mp hk' with hk'|hk'
   ·exact qf9 hk k hk'
   ·rw[ms_.mp hk']
    exact .inr (.inr (.inl rfl))
  have mx:(ks++[q]).all qkf=false:=List.all_eq_false.mpr ⟨q,by simp,by simp[qkf,q]⟩
  have y1:=qiT jV (qeo ms mc (by rw[lA_,yau];omega) mx) qbU
  have y2:=qiT jM (qe7 ms (.int (-1)) (.int 0) rfl) vY
  have y3:=qiT jM (qe8 ms (.int 0) .non rfl rfl) vY
  let Z8:Env:=[S,I,some (.lst [.int n5]),K,Dd,Ld,Ne,De,p8,p9,p10,p11,p12,p13,p14,o15]
  let Z9:Env:=[S,I,some (.lst [.int n5]),K,Dd,Ld,Ne,De,p8,p9,p10,p11,p12,p13,p14,Mn]
  refine⟨[some (.lst [.int n5]),K,Dd,Ld,Ne,De,p8,p9,p10,p11,p12,p13,p14,Mn],rfl,?_⟩
  show(qH (vn 2 (qdM jU (qa (dv 0) (qa (dv 1) (ret []))))) (qH (zi 3 (qj qY 2 (qa (ret (.int 8)) (qa (d2 ixD (jI (qa (ret (.int 1)) (qa (ret (.int 1)) (qa (d2 qfq (ret (.int 10)) (ret (.int 20))) (ret []))))) (qj qg 2 (qa (ret (.int 3)) (ret [])))) (ret []))))) (qH (zi 4 (qj zw 2 (ret []))) (qH (zi 5 (qq qbd (qa (zE 1 [2] (some (1,2)) (yt (dv 3)) (ql 0) (ret true) (qj qg 1 (qa (d2 qU (ret (.int 1)) (d2 ixD (dv 0) (ret (.int 2)))) (ret [])))) (ret [])))) (qH (qdK 6 7 (qa (qp zh (qa (dv 3) (qa (dv 5) (qa (ret (.int 0)) (ret []))))) (qa (qp zh (qa (dv 3) (qa (dv 5) (qa (ret (.int 1)) (ret []))))) (ret [])))) (qH (wy (yt (jI (qa (qO (qa (dv 6) (qa (dv 7) (ret [])))) (qa (qO (qa (dv 6) (qa (d2 qU (d2 qU (dv 7) (ret (.int 1))) (qj qg 2 (qa (ret (.int 9)) (ret [])))) (ret [])))) (qa (qO (qa (d2 qU (dv 6) (ret (.int 3))) (qa (d2 qU (d2 uF (ret (.int 2)) (dv 7)) (ret (.int 1))) (ret [])))) (qa (qO (qa (ret (.int 0)) (qa (d1 qaI (ret (.int 1))) (ret [])))) (ret []))))))) (vN 2 (qQ (ql 8) (qQ (ql 9) vq))) (qH (qer (qp qJ (qa (dv 3) (qa (dv 8) (qa (dv 9) (ret []))))) (vN 2 (qQ (ql 10) (qQ (ql 11) vq)))) (qH (sif (tst (d2 neB (qq zj (qa (jf qx (qa (dv 3) (qa (dv 8) (qa (dv 9) (ret []))))) (ret []))) (qq zj (qa (d2 ixD (jI (qa (ret .non) (qa (dv 10) (ret [])))) (qq qal (qa (dv 11) (ret [])))) (ret []))))) (jd (ret (.bl false))) jA) (wy (yt (d2 qU (jI (qa (dv 10) (qa (dv 4) (qa (qO (ret [])) (ret []))))) (zE 1 [2,10,4] (some (1,2)) (jC (qa (ret (.int 2)) (ret []))) (ql 0) (ret true) (qj qT 1 (qa (dv 2) (qa (dv 3) (ret []))))))) (ql 12) (qH (zi 13 (qq zj (qa (dv 12) (ret [])))) (qH (zi 14 (qaR (dv 11) (d2 eqB (qq zj (qa (dv 12) (ret []))) (qq zj (qa (dv 10) (ret [])))))) (sif (tor (wE (tst (qp qX (qa (jf qI (qa (dv 12) (qa (dv 3) (qa (dv 8) (qa (dv 9) (ret [])))))) (qa (dv 14) (ret [])))))) (tst (d2 neB (qq zj (qa (dv 12) (ret []))) (dv 13)))) (jd (ret (.bl false))) jA))))))) (qH (zi 15 (d2 qU (dv 3) (qO (qa (qO (qa (ret (.int 1)) (qa (ret (.int 1)) (qa (ret (.int 2)) (ret []))))) (ret []))))) (qH (sif (tor (tst (d2 neB (qp zg (qa (dv 15) (qa (ret (.int 0)) (qa (ret (.int 0)) (ret []))))) (ret (.str "single")))) (tst (d2 neB (qp zg (qa (dv 15) (qa (d1 qaI (ret (.int 1))) (qa (ret (.int 0)) (ret []))))) (ret (.str "number"))))) (jd (ret (.bl false))) jA) (sif (tst (d2 neB (qp zg (qa (dv 15) (qa (ret (.int 0)) (qa (ret .non) (ret []))))) (ret (.str "number")))) (jd (ret (.bl false))) jA))))))))) [S,I,o2,o3,o4,o5,o6,o7,o8,o9,o10,o11,o12,o13,o14,o15]=_
  refine(qi (Z':=[S,I,some (.lst [.int n]),o3,o4,o5,o6,o7,o8,o9,o10,o11,o12,o13,o14,o15]) ?_).trans ?_
  ·push_cast [S,I,eb,immFs,immF,immL,imm,yaF]
  refine(qi (Z':=[S,I,some (.lst [.int n1]),K,o4,o5,o6,o7,o8,o9,o10,o11,o12,o13,o14,o15]) ?_).trans ?_
  ·push_cast [I,zf (show 3<=1000000 by omega),qpS,je (m:=3) (by decide) (by decide),eG,es']
   rfl
  refine(qi (Z':=[S,I,some (.lst [.int n2]),K,Dd,o5,o6,o7,o8,o9,o10,o11,o12,o13,o14,o15]) ?_).trans ?_
  ·push_cast [eo]
   rfl
  refine(qi (Z':=[S,I,some (.lst [.int n3]),K,Dd,Ld,o6,o7,o8,o9,o10,o11,o12,o13,o14,o15]) ?_).trans ?_
  ·have c:zE 1 [2] (some (1,2)) (yt (dv 3)) (ql 0) (ret true) (qj qg 1 (qa (d2 qU (ret (.int 1)) (d2 ixD (dv 0) (ret (.int 2)))) (ret []))) [S,I,some (.lst [.int n2]),K,Dd,o5,o6,o7,o8,o9,o10,o11,o12,o13,o14,o15]=.ok (.lst (ld.map D.int),[S,I,some (.lst [.int n3]),K,Dd,o5,o6,o7,o8,o9,o10,o11,o12,o13,o14,o15]):=by
    rw[qbq]
    show(match zC (ql 0) (ret true) (qj qg 1 (qa (d2 qU (ret (.int 1)) (d2 ixD (dv 0) (ret (.int 2)))) (ret []))) (ks.map kw) [] [none,some (.lst [.int n2])] with|.ok (ys,Ze)=>R.ok (D.lst ys,qkA (some (1,2)) Ze _)|_ => .bad)=_
    have elc':zC (ql 0) (ret true) (qj qg 1 (qa (d2 qU (ret (.int 1)) (d2 ixD (dv 0) (ret (.int 2)))) (ret []))) (ks.map kw) [] [none,some (.lst [.int n2])]=.ok (ld.map D.int,[q0,some (.lst [.int n3])]):=elc
    rw[elc']
    rfl
   push_cast [c,qgO]
   rfl
  refine(qi (Z':=[S,I,some (.lst [.int n3]),K,Dd,Ld,Ne,De,o8,o9,o10,o11,o12,o13,o14,o15]) (qpT (vX rfl rfl rfl (qcw (by omega) hld h01)) (vX rfl rfl rfl (qeg (by omega) hld h01)))).trans ?_
  refine(qi (Z':=Z8) ?_).trans ?_
  ·have c:(yt (jI (qa (qO (qa (dv 6) (qa (dv 7) (ret [])))) (qa (qO (qa (dv 6) (qa (d2 qU (d2 qU (dv 7) (ret (.int 1))) (qj qg 2 (qa (ret (.int 9)) (ret [])))) (ret [])))) (qa (qO (qa (d2 qU (dv 6) (ret (.int 3))) (qa (d2 qU (d2 uF (ret (.int 2)) (dv 7)) (ret (.int 1))) (ret [])))) (qa (qO (qa (ret (.int 0)) (qa (d1 qaI (ret (.int 1))) (ret [])))) (ret []))))))) [S,I,some (.lst [.int n3]),K,Dd,Ld,Ne,De,o8,o9,o10,o11,o12,o13,o14,o15]=.ok (rooms.map rmD,[S,I,some (.lst [.int n4]),K,Dd,Ld,Ne,De,o8,o9,o10,o11,o12,o13,o14,o15]):=by
    push_cast [qnL,zx,neg_int,je (show(0:Int)<9 by omega) (show(9:Int)<1606938044258990275541962092341162602522202993782792835301376 by omega),qd3 (i:=2) (wm (show(0:Int)<=2 by omega) (by omega)),zf (show 2<=1000000 by omega),zf (show 4<=1000000 by omega),Ne,De]
    rfl
   rw[yS,c]
   exact qr
  refine(qi (Z':=Z9) ?_).trans ?_
  ·have t1:(qO (qa (qO (qa (ret (.int 1)) (qa (ret (.int 1)) (qa (ret (.int 2)) (ret []))))) (ret []))) Z8=.ok (.tup [kw q],Z8):=by
    rw[wO,yC (a:=kw q) (qoC rfl rfl rfl)]
    simp only[lC_,lN_,ybr,sm1,if_true]
   exact uM (Z1:=Z8) (qo rfl t1 (by rw[uX (by rw[lM_,yau];omega),yaR];rfl))
  refine(qi (Z':=Z9) ?_).trans ?_
  ·exact(qev (qo8 (zT (qo (vX rfl rfl rfl y1) rfl (qbD _))) (zT (qo (vX rfl (b:=.int (-1)) rfl rfl y2) rfl (qbD _))))).trans rfl
  ·exact(qev (zT (qo (vX rfl rfl rfl y3) rfl (qbD _)))).trans rfl
theorem qgh (ns:List Int):∀(ds:List D)(o1:OD)(r:Env),r.length=14->(∀d∈ds,∃i:Int,d=.int i/\0<=i/\i<3)->∃Z,uS (ql 1) (qH (vn 2 (qdM jU (qa (dv 0) (qa (dv 1) (ret []))))) (qH (zi 3 (qj qY 2 (qa (ret (.int 8)) (qa (d2 ixD (jI (qa (ret (.int 1)) (qa (ret (.int 1)) (qa (d2 qfq (ret (.int 10)) (ret (.int 20))) (ret []))))) (qj qg 2 (qa (ret (.int 3)) (ret [])))) (ret []))))) (qH (zi 4 (qj zw 2 (ret []))) (qH (zi 5 (qq qbd (qa (zE 1 [2] (some (1,2)) (yt (dv 3)) (ql 0) (ret true) (qj qg 1 (qa (d2 qU (ret (.int 1)) (d2 ixD (dv 0) (ret (.int 2)))) (ret [])))) (ret [])))) (qH (qdK 6 7 (qa (qp zh (qa (dv 3) (qa (dv 5) (qa (ret (.int 0)) (ret []))))) (qa (qp zh (qa (dv 3) (qa (dv 5) (qa (ret (.int 1)) (ret []))))) (ret [])))) (qH (wy (yt (jI (qa (qO (qa (dv 6) (qa (dv 7) (ret [])))) (qa (qO (qa (dv 6) (qa (d2 qU (d2 qU (dv 7) (ret (.int 1))) (qj qg 2 (qa (ret (.int 9)) (ret [])))) (ret [])))) (qa (qO (qa (d2 qU (dv 6) (ret (.int 3))) (qa (d2 qU (d2 uF (ret (.int 2)) (dv 7)) (ret (.int 1))) (ret [])))) (qa (qO (qa (ret (.int 0)) (qa (d1 qaI (ret (.int 1))) (ret [])))) (ret []))))))) (vN 2 (qQ (ql 8) (qQ (ql 9) vq))) (qH (qer (qp qJ (qa (dv 3) (qa (dv 8) (qa (dv 9) (ret []))))) (vN 2 (qQ (ql 10) (qQ (ql 11) vq)))) (qH (sif (tst (d2 neB (qq zj (qa (jf qx (qa (dv 3) (qa (dv 8) (qa (dv 9) (ret []))))) (ret []))) (qq zj (qa (d2 ixD (jI (qa (ret .non) (qa (dv 10) (ret [])))) (qq qal (qa (dv 11) (ret [])))) (ret []))))) (jd (ret (.bl false))) jA) (wy (yt (d2 qU (jI (qa (dv 10) (qa (dv 4) (qa (qO (ret [])) (ret []))))) (zE 1 [2,10,4] (some (1,2)) (jC (qa (ret (.int 2)) (ret []))) (ql 0) (ret true) (qj qT 1 (qa (dv 2) (qa (dv 3) (ret []))))))) (ql 12) (qH (zi 13 (qq zj (qa (dv 12) (ret [])))) (qH (zi 14 (qaR (dv 11) (d2 eqB (qq zj (qa (dv 12) (ret []))) (qq zj (qa (dv 10) (ret [])))))) (sif (tor (wE (tst (qp qX (qa (jf qI (qa (dv 12) (qa (dv 3) (qa (dv 8) (qa (dv 9) (ret [])))))) (qa (dv 14) (ret [])))))) (tst (d2 neB (qq zj (qa (dv 12) (ret []))) (dv 13)))) (jd (ret (.bl false))) jA))))))) (qH (zi 15 (d2 qU (dv 3) (qO (qa (qO (qa (ret (.int 1)) (qa (ret (.int 1)) (qa (ret (.int 2)) (ret []))))) (ret []))))) (qH (sif (tor (tst (d2 neB (qp zg (qa (dv 15) (qa (ret (.int 0)) (qa (ret (.int 0)) (ret []))))) (ret (.str "single")))) (tst (d2 neB (qp zg (qa (dv 15) (qa (d1 qaI (ret (.int 1))) (qa (ret (.int 0)) (ret []))))) (ret (.str "number"))))) (jd (ret (.bl false))) jA) (sif (tst (d2 neB (qp zg (qa (dv 15) (qa (ret (.int 0)) (qa (ret .non) (ret []))))) (ret (.str "number")))) (jd (ret (.bl false))) jA))))))))) ds ([some (.fz ns),o1]++r)=.ok (.nx Z)
 | [],o1,r,_,_=>⟨_,rfl⟩
 |d::ds,o1,r,hr,h=>by
  obtain⟨i,rfl,h0,h1⟩:=h d mS_
  obtain⟨r',hr',e⟩:=qkn ns i h0 h1 r hr
  obtain⟨Z,q⟩:=qgh ns ds (some (.int i)) r' hr' λy hy=>h y (mM _ hy)
  refine⟨Z,?_⟩
  unfold uS
  simp only[ql,yea,ybc,ybm,ydz]at e |-
  simp only[e]
  exact q
theorem law_true (ns:List Int) (hn:ns.length<=63):qe1 [.fz ns]=.ok (.bl true):=by
 let j:Int:=if(if(3:Int)<(ns.length:Int) then(3:Int) else(ns.length:Int))>1 then(if(3:Int)<(ns.length:Int) then(3:Int) else(ns.length:Int))else 1
 have hj0:0<=j:=by simp only[j];split<;>split<;>omega
 have hj2:j<=3:=by simp only[j];split<;>split<;>omega
 have hj1:j<=6:=by simp only[j];split<;>split<;>omega
 obtain ⟨Z,q⟩:=qgh ns (qcJ 0 j.toNat) none [none,none,none,none,none,none,none,none,none,none,none,none,none,none] rfl λd hd=>by
  unfold qcJ at hd
  obtain⟨k,hk,rfl⟩:=mP_.mp hd
  have hk2:=mR_.mp hk
  exact⟨_,rfl,by omega,by omega⟩
 unfold qe1
 refine qai rfl ⟨Z,?_⟩
 unfold qmE
 refine(qi (Z':=Z) ?_).trans rfl
 rw[yS,uV (j:=j) (Z1:=[some (.fz ns),none,none,none,none,none,none,none,none,none,none,none,none,none,none,none]) ?_ hj0 (by omega)]
 ·exact q
 ·rfl
section
variable{P:yas}{w:World}{K:yaf}{mg:Str->Option Value}{base:Heap}
variable{f:Addr}{fd:yaS}
set_option maxHeartbeats 4000000
theorem u8:qz ["e","found"] ["e"] (qe jm):=⟨rfl,rfl,rfl,by decide +kernel,rfl,by decide +kernel,by decide +kernel⟩
section
variable(P:yas)(w:World)(K:Fr0)(mg:Str->Option Value)(base:Heap)
abbrev Q0:Prop:=qh4 P w K mg base 1 "_law_marks" ["e"] (spD K jr)
abbrev Q1:Prop:=zD P w K mg base 1 "is_whole" ["thing"] (spD K jy)
abbrev Q2:Prop:=zD P w K mg base 2 "is_step" ["thing"] (spD K uP)
abbrev Q3:Prop:=zD P w K mg base 1 "beating_order" ["weighed"] (spD K zX)
abbrev Q4:Prop:=zD P w K mg base 1 "all_loads" ["kinds"] (spD K uq)
abbrev Q5:Prop:=zD P w K mg base 1 "taken_together" ["store","load","part"] (spD K zv)
abbrev Q6:Prop:=zD P w K mg base 2 "all_weighed" ["kinds"] (spD K j8)
abbrev Q7:Prop:=zD P w K mg base 4 "not_beaten" ["kinds"] (spD K yF)
abbrev Q8:Prop:=zD P w K mg base 1 "second_half" ["store"] (spD K yV)
abbrev Q9:Prop:=zD P w K mg base 1 "first_half" ["store"] (spD K uD)
abbrev Q10:Prop:=uU P w K mg base 1 "need_single" ["store"] (spX K (clR K RN) j9)
abbrev Q11:Prop:=zD P w K mg base 2 "is_count" ["thing"] (spD K yo)
abbrev Q12:Prop:=zD P w K mg base 3 "is_kind" ["thing"] (spD K vJ)
abbrev Q13:Prop:=zD P w K mg base 4 "is_store" ["thing"] (spD K vS)
abbrev Q14:Prop:=uU P w K mg base 5 "need_store" ["thing"] (spX K (clR K RN) yG)
abbrev Q15:Prop:=uU P w K mg base 6 "half_loads" ["store"] (spX K (clR K RN) jR)
abbrev Q16:Prop:=uU P w K mg base 2 "need_whole" ["thing"] (spX K (clR K RN) jS)
abbrev Q17:Prop:=uU P w K mg base 3 "need_count" ["thing"] (spX K (clR K RN) js)
abbrev Q18:Prop:=uU P w K mg base 7 "stair_for" ["store","room","worth"] (spX K (clR K RN) qx)
abbrev Q19:Prop:=uU P w K mg base 8 "is_stair" ["thing","store","room","worth"] (spX K (clR K RN) qI)
abbrev Q20:Prop:=zD P w K mg base 9 "_law_said" ["store","room","asked_for"] (spD K zg)
abbrev Q21:Prop:=zD P w K mg base 1 "_law_take" ["box","many"] (qes K qg)
abbrev Q22:Prop:=zD P w K mg base 2 "_law_bent" ["box","stair","odd"] (qes K qT)
abbrev Q23:Prop:=zD P w K mg base 1 "_law_truth" ["found","due"] (spD K qX)
abbrev Q24:Prop:=zD P w K mg base 1 "_law_halves" ["store"] (spD K jz)
abbrev Q25:Prop:=zD P w K mg base 1 "_law_all_loads" ["store","room"] (spD K ja)
abbrev Q26:Prop:=zD P w K mg base 1 "_law_sum" ["store","load","place"] (spD K zh)
abbrev Q27:Prop:=zD P w K mg base 4 "_law_unbeaten" ["store"] (spD K zY)
abbrev Q28:Prop:=zD P w K mg base 5 "_law_stair_gone" ["store","room","asked_for"] (spD K qJ)
abbrev Q29:Prop:=zD P w K mg base 2 "_law_odd_thing" ["box"] (qes K zw)
abbrev Q30:Prop:=zD P w K mg base 2 "_law_kind_of" ["box","ends"] (qes K zS)
abbrev Q31:Prop:=zD P w K mg base 3 "_law_stocked" ["box","most","ends"] (qes K jE)
abbrev Q32:Prop:=zD P w K mg base 4 "_law_single_ones" ["box","most","great"] (qes K qY)
abbrev Q33:Prop:=zD P w K mg base 1 "_law_mix" ["cell","k"] (spD K ud)
abbrev Q34:Prop:=zD P w K mg base 1 "_law_cell" ["script","k"] (spD K yq)
abbrev Q35:Prop:=zD P w K mg base 2 "_law_box" ["script","k"] (spD K jU)
end
theorem q0 (F:Fun K "_law_marks" "_law_marks" jm f fd) (m:mg "_law_marks"=some (.ref f)) (T:Txt K mg) (XTt:XT K mg RN TN) (hB:K.In base):Q0 P w K mg base:=by
 have rn0:RN.contains "NotSingle"=true:=by decide
 refine⟨f,fd,?_,m,F.kp,F.binds λ_ _ _ _ _ _ us hl=>match us,hl with | [_],_=>rfl⟩
 show qdR P w K mg base CX0 1 f fd ["e"] (spD K (dfn (["e","found"]:List Str).length (["e"]:List Str).length yE))
 refine qjQ (N:=["e","found"]) (ps:=["e"]) (k:=0) (O:=[]) (body:=yE) F u8 ?a ?b
 case a=>decide
 intro cdv A outer s H E B hr al
 have hal:∀Z σ H',Rep K (cfn [] [] B H (λ_=>False) (λ_ _=>False) λ_=>none) Z σ H'->AloneA (A.deeper (ybj "_law_marks" (qe jm) s.heap.objs.size f cdv)) H':=Sk.AloneA.rep al (λ_ z=>z)
 exact (qh (jZ (DW.dt (qdE (vd (vc (qbx (RN:=RN) (m:="SackError") (mgl:=mg) XTt (by decide) (by decide) rfl T.b_isinstance rfl (qc 0) (XTt.ask rn0 (by decide)) qM))) (qaH (vd (vc (qmh XTt rfl T.b_isinstance rfl T.b_ValueError (qc 0) qM)))))) (qk (qR jY)) qW)
   (qh (qV (i:=1) u8.nd (jj (qb (qbx (RN:=RN) (m:="NoStore") (mgl:=mg) XTt (by decide) (by decide) rfl T.b_isinstance rfl (qc 0) (XTt.ask rn0 (by decide)) qM) (qb (qbx (RN:=RN) (m:="NoNumber") (mgl:=mg) XTt (by decide) (by decide) rfl T.b_isinstance rfl (qc 0) (XTt.ask rn0 (by decide)) qM) (qb (qbx (RN:=RN) (m:="NoLoad") (mgl:=mg) XTt (by decide) (by decide) rfl T.b_isinstance rfl (qc 0) (XTt.ask rn0 (by decide)) qM) (qb (qbx (RN:=RN) (m:="TooMany") (mgl:=mg) XTt (by decide) (by decide) rfl T.b_isinstance rfl (qc 0) (XTt.ask rn0 (by decide)) qM) qd))))))
   (qh (qV (i:=1) u8.nd (qt qK qL (qc 1) (jj (qb (qbx (RN:=RN) (m:="NotSingle") (mgl:=mg) XTt (by decide) (by decide) rfl T.b_isinstance rfl (qc 0) (XTt.ask rn0 (by decide)) qM) (qb (qbx (RN:=RN) (m:="NoText") (mgl:=mg) XTt (by decide) (by decide) rfl T.b_isinstance rfl (qc 0) (XTt.ask rn0 (by decide)) qM) qd)))))
   (qh (jZ (zB qnl qhz (qh0 PySem.F.slot_list_count qjO qjJ qeJ (qc 1) (qb vm qd)) qf (zb _)) (qk (qR jY)) qW)
   (qk (qR (zl qF qE (jj (qb jY (qb jY (qb jY (qb jY (qb jY (qb jY qd))))))) (qh0 PySem.F.slot_list_index qjP qjK qeK (qc 1) (qb vm qd)))))))))
theorem qfa:qz ["thing"] ["thing"] (qe y8):=⟨rfl,rfl,rfl,by decide +kernel,rfl,by decide +kernel,by decide +kernel⟩
theorem q1 (F:Fun K "is_whole" "is_whole" y8 f fd) (m:mg "is_whole"=some (.ref f)) (T:Txt K mg) (XTt:XT K mg RN TN) (hB:K.In base):Q1 P w K mg base:=by
 refine⟨f,fd,?_,m,F.kp,F.binds λ_ _ _ _ _ _ us hl=>match us,hl with | [_],_=>rfl⟩
 exact zJ (N:=["thing"]) (O:=[]) (body:=qay) F qfa (by decide) λcdv A outer s H E B hr=>(qk (qR (wG (qbe qlH rfl T.b_isinstance rfl T.b_int qkF (qc 0) qM) (wF (qnC (qbe qfl rfl T.b_isinstance rfl T.b_bool qhN (qc 0) qM))))))
theorem qgY:qz ["thing"] ["thing"] (qe uN):=⟨rfl,rfl,rfl,by decide +kernel,rfl,by decide +kernel,by decide +kernel⟩
theorem q2 (F:Fun K "is_step" "is_step" uN f fd) (m:mg "is_step"=some (.ref f)) (T:Txt K mg) (XTt:XT K mg RN TN) (hB:K.In base) (C_is_whole:Q1 P w K mg base):Q2 P w K mg base:=by
 refine⟨f,fd,?_,m,F.kp,F.binds λ_ _ _ _ _ _ us hl=>match us,hl with | [_],_=>rfl⟩
 exact zJ (N:=["thing"]) (O:=[]) (body:=qbM) F qgY (by decide) λcdv A outer s H E B hr=>(qk (qR (wG (qbe wJ rfl T.b_isinstance rfl T.b_tuple yu (qc 0) qM) (wG (vx (vg hr) yN (qP zG zP rfl T.b_len uC (qb (qc 0) qd)) qf (zb _)) (wG (dC C_is_whole hr (qb (zl qF qE (qc 0) qf) qd)) (wF (dC C_is_whole hr (qb (zl qF qE (qc 0) qf) qd))))))))
theorem qaP:qz ["weighed"] ["weighed"] (qe zW):=⟨rfl,rfl,rfl,by decide +kernel,rfl,by decide +kernel,by decide +kernel⟩
theorem q3 (F:Fun K "beating_order" "beating_order" zW f fd) (m:mg "beating_order"=some (.ref f)) (T:Txt K mg) (XTt:XT K mg RN TN) (hB:K.In base):Q3 P w K mg base:=by
 refine⟨f,fd,?_,m,F.kp,F.binds λ_ _ _ _ _ _ us hl=>match us,hl with | [_],_=>rfl⟩
 exact zJ (N:=["weighed"]) (O:=[]) (body:=uo) F qaP (by decide) λcdv A outer s H E B hr=>(qk (qR (qA (qb (zl qF qE (qc 0) (gI T.c_WEIGHT)) (qb (wN (zl qF qE (qc 0) (gI T.c_WORTH))) (qb (zl qF qE (qc 0) (gI T.c_LOAD)) qd))))))
theorem jW:qz ["kinds","loads","kind","longer","load"] ["kinds"] (qe jJ):=⟨rfl,rfl,rfl,by decide +kernel,rfl,by decide +kernel,by decide +kernel⟩
theorem q4 (F:Fun K "all_loads" "all_loads" jJ f fd) (m:mg "all_loads"=some (.ref f)) (T:Txt K mg) (XTt:XT K mg RN TN) (hB:K.In base):Q4 P w K mg base:=by
 refine⟨f,fd,?_,m,F.kp,F.binds λ_ _ _ _ _ _ us hl=>match us,hl with | [_],_=>rfl⟩
 exact zJ (N:=["kinds","loads","kind","longer","load"]) (O:=[3]) (body:=wp) F jW (by decide) λcdv A outer s H E B hr=>(qh (qV (i:=1) jW.nd (jj (qb (qA qd) qd)))
   (qh (uA yaK rfl (yd (qc 0)) (qC (i:=2) jW.nd) (qh (vz (i:=3) jW.nd (qbi qd))
   (qh (uA yaK rfl (yd (qc 1)) (qC (i:=4) jW.nd) (qk (yf (qh6 (i:=3) (uj (fo:=none) rfl (ui rfl T.b_range (qb (qt qK qL (zl qF qE (qc 2) (gI T.c_MOST)) qf) qd)) (cs ["kinds","loads","kind","longer","load"] ["times","load"] 1 [4] (qe jJ)) (f0 [4] [3]) (λ_ _ _ _ _ _ _ _ _ _ _=>⟨(qC (i:=0) (nd ["times","load"])),vf,(qt qK qL (qc 1) (qA (qb (qc 0) qd)))⟩))))))
   (qk (qmn (i:=1) (j:=3) jW.nd)))))
   (qk (qR (qc 1)))))
theorem qaG:qz ["store","load","part"] ["store","load","part"] (qe zu):=⟨rfl,rfl,rfl,by decide +kernel,rfl,by decide +kernel,by decide +kernel⟩
theorem q5 (F:Fun K "taken_together" "taken_together" zu f fd) (m:mg "taken_together"=some (.ref f)) (T:Txt K mg) (XTt:XT K mg RN TN) (hB:K.In base):Q5 P w K mg base:=by
 refine⟨f,fd,?_,m,F.kp,F.binds λ_ _ _ _ _ _ us hl=>match us,hl with | [_,_,_],_=>rfl⟩
 exact zJ (N:=["store","load","part"]) (O:=[]) (body:=yP) F qaG (by decide) λcdv A outer s H E B hr=>(qk (qR (qP (qjr rfl) qhD rfl T.b_sum qn3 (qb (uj (fo:=none) rfl (qnW rfl T.b_zip (qb (qc 0) (qb (qc 1) qd))) (cs ["store","load","part"] ["kind","times","part"] 2 [2] (qe zu)) (f0 [2] []) (λ_ _ _ _ _ _ _ _ _ _ _=>⟨(vV (n:=2) rfl (zc (qC (i:=0) (nd ["kind","times","part"])) (zc (qC (i:=1) (nd ["kind","times","part"])) ue))),vf,(qt yh jv (zl qF qE (qc 0) (qc 2)) (qc 1))⟩)) qd))))
theorem qb5:qz ["kinds"] ["kinds"] (qe z5):=⟨rfl,rfl,rfl,by decide +kernel,rfl,by decide +kernel,by decide +kernel⟩
theorem q6 (F:Fun K "all_weighed" "all_weighed" z5 f fd) (m:mg "all_weighed"=some (.ref f)) (T:Txt K mg) (XTt:XT K mg RN TN) (hB:K.In base) (C_all_loads:Q4 P w K mg base) (C_taken_together:Q5 P w K mg base):Q6 P w K mg base:=by
 refine⟨f,fd,?_,m,F.kp,F.binds λ_ _ _ _ _ _ us hl=>match us,hl with | [_],_=>rfl⟩
 exact zJ (N:=["kinds"]) (O:=[]) (body:=uY) F qb5 (by decide) λcdv A outer s H E B hr=>(qk (qR (uj (fo:=none) rfl (yd (dC C_all_loads hr (qb (qc 0) qd))) (cs ["kinds"] ["load","kinds"] 1 [0] (qe z5)) (f0 [0] []) (λ_ _ _ _ _ _ _ _ _ _ _=>⟨(qC (i:=0) (nd ["load","kinds"])),vf,(qA (qb (dC C_taken_together hr (qb (qc 1) (qb (qc 0) (qb (gI T.c_WEIGHT) qd)))) (qb (dC C_taken_together hr (qb (qc 1) (qb (qc 0) (qb (gI T.c_WORTH) qd)))) (qb (qc 0) qd))))⟩))))
theorem u9:qz ["kinds","kept","weighed"] ["kinds"] (qe jN):=⟨rfl,rfl,rfl,by decide +kernel,rfl,by decide +kernel,by decide +kernel⟩
theorem q7 (F:Fun K "not_beaten" "not_beaten" jN f fd) (m:mg "not_beaten"=some (.ref f)) (T:Txt K mg) (XTt:XT K mg RN TN) (hB:K.In base) (C_beating_order:Q3 P w K mg base) (C_all_weighed:Q6 P w K mg base):Q7 P w K mg base:=by
 refine⟨f,fd,?_,m,F.kp,F.binds λ_ _ _ _ _ _ us hl=>match us,hl with | [_],_=>rfl⟩
 exact zJ (N:=["kinds","kept","weighed"]) (O:=[1]) (body:=vH) F u9 (by decide) λcdv A outer s H E B hr=>(qh (vz (i:=1) u9.nd (qbi qd))
   (qh (uA yaK rfl (yd (qjW (dC C_all_weighed hr (qb (qc 0) qd)) C_beating_order hr rfl T.b_sorted)) (qC (i:=2) u9.nd) (qk (jZ (DW.dt (qdE (qmi (i:=1) (zB (vg hr) yN (qc 1) (jj qd) (zb _))) (qaH (zB qi9 qfk (zl qF qE (qc 2) (gI T.c_WORTH)) (zl qF qE (qhG (i:=1) (wN qf)) (gI T.c_WORTH)) (zb _))))) (qk (yf (uK (i:=1) (qc 2)))) qW)))
   (qk (qlO (i:=1)))))
theorem qb6:qz ["store"] ["store"] (qe jw):=⟨rfl,rfl,rfl,by decide +kernel,rfl,by decide +kernel,by decide +kernel⟩
theorem q8 (F:Fun K "second_half" "second_half" jw f fd) (m:mg "second_half"=some (.ref f)) (T:Txt K mg) (XTt:XT K mg RN TN) (hB:K.In base):Q8 P w K mg base:=by
 refine⟨f,fd,?_,m,F.kp,F.binds λ_ _ _ _ _ _ us hl=>match us,hl with | [_],_=>rfl⟩
 exact zJ (N:=["store"]) (O:=[]) (body:=uZ) F qb6 (by decide) λcdv A outer s H E B hr=>(qk (qR (uk (qc 0) (v6 (qt v0 uQ (qP zG zP rfl T.b_len uC (qb (qc 0) qd)) qf)) v5)))
theorem qdj:qz ["store"] ["store"] (qe jO):=⟨rfl,rfl,rfl,by decide +kernel,rfl,by decide +kernel,by decide +kernel⟩
theorem q9 (F:Fun K "first_half" "first_half" jO f fd) (m:mg "first_half"=some (.ref f)) (T:Txt K mg) (XTt:XT K mg RN TN) (hB:K.In base):Q9 P w K mg base:=by
 refine⟨f,fd,?_,m,F.kp,F.binds λ_ _ _ _ _ _ us hl=>match us,hl with | [_],_=>rfl⟩
 exact zJ (N:=["store"]) (O:=[]) (body:=vI) F qdj (by decide) λcdv A outer s H E B hr=>(qk (qR (uk (qc 0) v5 (v6 (qt v0 uQ (qP zG zP rfl T.b_len uC (qb (qc 0) qd)) qf)))))
theorem qb7:qz ["store"] ["store"] (qe zQ):=⟨rfl,rfl,rfl,by decide +kernel,rfl,by decide +kernel,by decide +kernel⟩
theorem q10 (F:Fun K "need_single" "need_single" zQ f fd) (m:mg "need_single"=some (.ref f)) (T:Txt K mg) (XTt:XT K mg RN TN) (hB:K.In base):Q10 P w K mg base:=by
 obtain⟨S,mS,xS⟩:=XTt.xcls hB
 obtain⟨C_NotSingle,hc_NotSingle⟩:=XTt.has (n:="NotSingle") (by decide)
 have mc_NotSingle:=XTt.mgc _ _ (XTt.cls hc_NotSingle).1
 obtain⟨bm_NotSingle,xc_NotSingle,_⟩:=xS.own _ _ hc_NotSingle
 refine⟨f,fd,?_,m,F.kp,F.binds λ_ _ _ _ _ _ us hl=>match us,hl with | [_],_=>rfl⟩
 show vp P w K mg base (CX1 P w) 1 f fd ["store"] (spX K (clR K RN) (qbt (["store"]:List Str).length (["store"]:List Str).length z6))
 refine qbw (N:=["store"]) (ps:=["store"]) (k:=0) (O:=[]) (body:=z6) (cl:=clR K RN) F qb7 ?a ?b
 case a=>decide
 intro cdv A outer s H E B hr
 have L:=qbv (P:=P) (w:=w) (K:=K) (mg:=mg) (base:=base) (N:=["store"]) (qual:="need_single") (scope:=qe zQ) (f:=f) (cdv:=cdv) (A:=A) (outer:=outer) (s:=s) (H:=H) (E:=E) (c:=cfn [] [] B H (λ_=>False) (λx H'=>∀C,clR K RN x.cls=some C->E (.ref C) none H') λ_=>none) (cl:=clR K RN) rfl (λx C H' h1 h2=>h2 C h1)
 exact(qk (jZ (vd (vc (qP (qcG rfl) qbf rfl T.b_all qhL (qb (uj (fo:=none) rfl (yd (qc 0)) (cs ["store"] ["kind"] 1 [] (qe zQ)) (f0 [] []) (λ_ _ _ _ _ _ _ _ _ _ _=>⟨(qC (i:=0) (nd ["kind"])),vf,(vx (qoi hr) qmm (zl qF qE (qc 0) (gI T.c_MOST)) (qA (qb qf (qb qf qd))) rfl)⟩)) qd)))) (qk (qaV rfl L hc_NotSingle rfl mc_NotSingle xc_NotSingle (qb jY qd))) qW))
theorem qfb:qz ["thing"] ["thing"] (qe y9):=⟨rfl,rfl,rfl,by decide +kernel,rfl,by decide +kernel,by decide +kernel⟩
theorem q11 (F:Fun K "is_count" "is_count" y9 f fd) (m:mg "is_count"=some (.ref f)) (T:Txt K mg) (XTt:XT K mg RN TN) (hB:K.In base) (C_is_whole:Q1 P w K mg base):Q11 P w K mg base:=by
 refine⟨f,fd,?_,m,F.kp,F.binds λ_ _ _ _ _ _ us hl=>match us,hl with | [_],_=>rfl⟩
 exact zJ (N:=["thing"]) (O:=[]) (body:=qaz) F qfb (by decide) λcdv A outer s H E B hr=>(qk (qR (wG (dC C_is_whole hr (qb (qc 0) qd)) (wF (vx qgk qcc (qc 0) qf (zb _))))))
theorem qgZ:qz ["thing"] ["thing"] (qe uO):=⟨rfl,rfl,rfl,by decide +kernel,rfl,by decide +kernel,by decide +kernel⟩
theorem q12 (F:Fun K "is_kind" "is_kind" uO f fd) (m:mg "is_kind"=some (.ref f)) (T:Txt K mg) (XTt:XT K mg RN TN) (hB:K.In base) (C_is_count:Q11 P w K mg base):Q12 P w K mg base:=by
 refine⟨f,fd,?_,m,F.kp,F.binds λ_ _ _ _ _ _ us hl=>match us,hl with | [_],_=>rfl⟩
 exact zJ (N:=["thing"]) (O:=[]) (body:=qbN) F qgZ (by decide) λcdv A outer s H E B hr=>(qh (jZ (DW.dt (qdE (vd (vc (qbe wJ rfl T.b_isinstance rfl T.b_tuple yu (qc 0) qM))) (qaH (zB (qbm hr) v8 (qP zG zP rfl T.b_len uC (qb (qc 0) qd)) qf (zb _))))) (qk (qR vm)) qW)
   (qh (jZ (DW.dt (qdE (vd (vc (dC C_is_count hr (qb (zl qF qE (qc 0) (gI T.c_WEIGHT)) qd)))) (qaH (zB (vg hr) yN (zl qF qE (qc 0) (gI T.c_WEIGHT)) qf (zb _))))) (qk (qR vm)) qW)
   (qk (qR (wG (dC C_is_count hr (qb (zl qF qE (qc 0) (gI T.c_WORTH)) qd)) (wF (qji (vx qkq qhA (zl qF qE (qc 0) (gI T.c_MOST)) wD (zb _)) (wF (dC C_is_count hr (qb (zl qF qE (qc 0) (gI T.c_MOST)) qd))))))))))
theorem qfc:qz ["thing"] ["thing"] (qe yi):=⟨rfl,rfl,rfl,by decide +kernel,rfl,by decide +kernel,by decide +kernel⟩
theorem q13 (F:Fun K "is_store" "is_store" yi f fd) (m:mg "is_store"=some (.ref f)) (T:Txt K mg) (XTt:XT K mg RN TN) (hB:K.In base) (C_is_kind:Q12 P w K mg base):Q13 P w K mg base:=by
 refine⟨f,fd,?_,m,F.kp,F.binds λ_ _ _ _ _ _ us hl=>match us,hl with | [_],_=>rfl⟩
 exact zJ (N:=["thing"]) (O:=[]) (body:=qaA) F qfc (by decide) λcdv A outer s H E B hr=>(qh (jZ (DW.dt (qdE (vd (vc (qbe wJ rfl T.b_isinstance rfl T.b_tuple yu (qc 0) qM))) (qaH (zB qi9 qfk (qP zG zP rfl T.b_len uC (qb (qc 0) qd)) (gI T.c_KINDS_AT_MOST) (zb _))))) (qk (qR vm)) qW)
   (qk (qR (qP (qcG rfl) qbf rfl T.b_all qhL (qb (uj (fo:=none) rfl (yd (qc 0)) (cs ["thing"] ["part"] 1 [] (qe yi)) (f0 [] []) (λ_ _ _ _ _ _ _ _ _ _ _=>⟨(qC (i:=0) (nd ["part"])),vf,(dC C_is_kind hr (qb (qc 0) qd))⟩)) qd)))))
theorem qdk:qz ["thing"] ["thing"] (qe jn):=⟨rfl,rfl,rfl,by decide +kernel,rfl,by decide +kernel,by decide +kernel⟩
theorem q14 (F:Fun K "need_store" "need_store" jn f fd) (m:mg "need_store"=some (.ref f)) (T:Txt K mg) (XTt:XT K mg RN TN) (hB:K.In base) (C_is_store:Q13 P w K mg base):Q14 P w K mg base:=by
 obtain⟨S,mS,xS⟩:=XTt.xcls hB
 obtain⟨C_NoStore,hc_NoStore⟩:=XTt.has (n:="NoStore") (by decide)
 have mc_NoStore:=XTt.mgc _ _ (XTt.cls hc_NoStore).1
 obtain⟨bm_NoStore,xc_NoStore,_⟩:=xS.own _ _ hc_NoStore
 refine⟨f,fd,?_,m,F.kp,F.binds λ_ _ _ _ _ _ us hl=>match us,hl with | [_],_=>rfl⟩
 show vp P w K mg base (CX1 P w) 5 f fd ["thing"] (spX K (clR K RN) (qbt (["thing"]:List Str).length (["thing"]:List Str).length uE))
 refine qbw (N:=["thing"]) (ps:=["thing"]) (k:=4) (O:=[]) (body:=uE) (cl:=clR K RN) F qdk ?a ?b
 case a=>decide
 intro cdv A outer s H E B hr
 have L:=qbv (P:=P) (w:=w) (K:=K) (mg:=mg) (base:=base) (N:=["thing"]) (qual:="need_store") (scope:=qe jn) (f:=f) (cdv:=cdv) (A:=A) (outer:=outer) (s:=s) (H:=H) (E:=E) (c:=cfn [] [] B H (λ_=>False) (λx H'=>∀C,clR K RN x.cls=some C->E (.ref C) none H') λ_=>none) (cl:=clR K RN) rfl (λx C H' h1 h2=>h2 C h1)
 exact(qk (jZ (vd (vc (dC C_is_store hr (qb (qc 0) qd)))) (qk (qaV rfl L hc_NoStore rfl mc_NoStore xc_NoStore (qb jY qd))) qW))
theorem qdl:qz ["store"] ["store"] (qe jo):=⟨rfl,rfl,rfl,by decide +kernel,rfl,by decide +kernel,by decide +kernel⟩
theorem q15 (F:Fun K "half_loads" "half_loads" jo f fd) (m:mg "half_loads"=some (.ref f)) (T:Txt K mg) (XTt:XT K mg RN TN) (hB:K.In base) (C_not_beaten:Q7 P w K mg base) (C_second_half:Q8 P w K mg base) (C_first_half:Q9 P w K mg base) (C_need_single:Q10 P w K mg base) (C_need_store:Q14 P w K mg base):Q15 P w K mg base:=by
 have hcl:∀n,RN.contains n=true->(clR K RN n).isSome=true:=λn hn=>Option.isSome_iff_exists.mpr (XTt.has hn)
 refine⟨f,fd,?_,m,F.kp,F.binds λ_ _ _ _ _ _ us hl=>match us,hl with | [_],_=>rfl⟩
 show vp P w K mg base (CX1 P w) 6 f fd ["store"] (spX K (clR K RN) (qbt (["store"]:List Str).length (["store"]:List Str).length yH))
 refine qbw (N:=["store"]) (ps:=["store"]) (k:=5) (O:=[]) (body:=yH) (cl:=clR K RN) F qdl ?a ?b
 case a=>decide
 intro cdv A outer s H E B hr
 have L:=qbv (P:=P) (w:=w) (K:=K) (mg:=mg) (base:=base) (N:=["store"]) (qual:="half_loads") (scope:=qe jo) (f:=f) (cdv:=cdv) (A:=A) (outer:=outer) (s:=s) (H:=H) (E:=E) (c:=cfn [] [] B H (λ_=>False) (λx H'=>∀C,clR K RN x.cls=some C->E (.ref C) none H') λ_=>none) (cl:=clR K RN) rfl (λx C H' h1 h2=>h2 C h1)
 exact (qh (yf (xC L.two hcl C_need_store hr (qb (qc 0) qd)))
   (qh (yf (xC L.two hcl C_need_single hr (qb (qc 0) qd)))
   (qk (qR (qA (qb (dC C_not_beaten hr (qb (dC C_first_half hr (qb (qc 0) qd)) qd)) (qb (dC C_not_beaten hr (qb (dC C_second_half hr (qb (qc 0) qd)) qd)) qd)))))))
theorem qdm:qz ["thing"] ["thing"] (qe jp):=⟨rfl,rfl,rfl,by decide +kernel,rfl,by decide +kernel,by decide +kernel⟩
theorem q16 (F:Fun K "need_whole" "need_whole" jp f fd) (m:mg "need_whole"=some (.ref f)) (T:Txt K mg) (XTt:XT K mg RN TN) (hB:K.In base) (C_is_whole:Q1 P w K mg base):Q16 P w K mg base:=by
 obtain⟨S,mS,xS⟩:=XTt.xcls hB
 obtain⟨C_NoNumber,hc_NoNumber⟩:=XTt.has (n:="NoNumber") (by decide)
 have mc_NoNumber:=XTt.mgc _ _ (XTt.cls hc_NoNumber).1
 obtain⟨bm_NoNumber,xc_NoNumber,_⟩:=xS.own _ _ hc_NoNumber
 refine⟨f,fd,?_,m,F.kp,F.binds λ_ _ _ _ _ _ us hl=>match us,hl with | [_],_=>rfl⟩
 show vp P w K mg base (CX1 P w) 2 f fd ["thing"] (spX K (clR K RN) (qbt (["thing"]:List Str).length (["thing"]:List Str).length yI))
 refine qbw (N:=["thing"]) (ps:=["thing"]) (k:=1) (O:=[]) (body:=yI) (cl:=clR K RN) F qdm ?a ?b
 case a=>decide
 intro cdv A outer s H E B hr
 have L:=qbv (P:=P) (w:=w) (K:=K) (mg:=mg) (base:=base) (N:=["thing"]) (qual:="need_whole") (scope:=qe jp) (f:=f) (cdv:=cdv) (A:=A) (outer:=outer) (s:=s) (H:=H) (E:=E) (c:=cfn [] [] B H (λ_=>False) (λx H'=>∀C,clR K RN x.cls=some C->E (.ref C) none H') λ_=>none) (cl:=clR K RN) rfl (λx C H' h1 h2=>h2 C h1)
 exact(qk (jZ (vd (vc (dC C_is_whole hr (qb (qc 0) qd)))) (qk (qaV rfl L hc_NoNumber rfl mc_NoNumber xc_NoNumber (qb jY qd))) qW))
theorem qdn:qz ["thing"] ["thing"] (qe jq):=⟨rfl,rfl,rfl,by decide +kernel,rfl,by decide +kernel,by decide +kernel⟩
theorem q17 (F:Fun K "need_count" "need_count" jq f fd) (m:mg "need_count"=some (.ref f)) (T:Txt K mg) (XTt:XT K mg RN TN) (hB:K.In base) (C_is_count:Q11 P w K mg base):Q17 P w K mg base:=by
 obtain⟨S,mS,xS⟩:=XTt.xcls hB
 obtain⟨C_NoNumber,hc_NoNumber⟩:=XTt.has (n:="NoNumber") (by decide)
 have mc_NoNumber:=XTt.mgc _ _ (XTt.cls hc_NoNumber).1
 obtain⟨bm_NoNumber,xc_NoNumber,_⟩:=xS.own _ _ hc_NoNumber
 refine⟨f,fd,?_,m,F.kp,F.binds λ_ _ _ _ _ _ us hl=>match us,hl with | [_],_=>rfl⟩
 show vp P w K mg base (CX1 P w) 3 f fd ["thing"] (spX K (clR K RN) (qbt (["thing"]:List Str).length (["thing"]:List Str).length yJ))
 refine qbw (N:=["thing"]) (ps:=["thing"]) (k:=2) (O:=[]) (body:=yJ) (cl:=clR K RN) F qdn ?a ?b
 case a=>decide
 intro cdv A outer s H E B hr
 have L:=qbv (P:=P) (w:=w) (K:=K) (mg:=mg) (base:=base) (N:=["thing"]) (qual:="need_count") (scope:=qe jq) (f:=f) (cdv:=cdv) (A:=A) (outer:=outer) (s:=s) (H:=H) (E:=E) (c:=cfn [] [] B H (λ_=>False) (λx H'=>∀C,clR K RN x.cls=some C->E (.ref C) none H') λ_=>none) (cl:=clR K RN) rfl (λx C H' h1 h2=>h2 C h1)
 exact(qk (jZ (vd (vc (dC C_is_count hr (qb (qc 0) qd)))) (qk (qaV rfl L hc_NoNumber rfl mc_NoNumber xc_NoNumber (qb jY qd))) qW))
theorem jt:qz ["store","room","worth","both","steps","i","j"] ["store","room","worth"] (qe jK):=⟨rfl,rfl,rfl,by decide +kernel,rfl,by decide +kernel,by decide +kernel⟩
theorem q18 (F:Fun K "stair_for" "stair_for" jK f fd) (m:mg "stair_for"=some (.ref f)) (T:Txt K mg) (XTt:XT K mg RN TN) (hB:K.In base) (C_half_loads:Q15 P w K mg base) (C_need_whole:Q16 P w K mg base) (C_need_count:Q17 P w K mg base) (C_need_store:Q14 P w K mg base):Q18 P w K mg base:=by
 have hcl:∀n,RN.contains n=true->(clR K RN n).isSome=true:=λn hn=>Option.isSome_iff_exists.mpr (XTt.has hn)
 refine⟨f,fd,?_,m,F.kp,F.binds λ_ _ _ _ _ _ us hl=>match us,hl with | [_,_,_],_=>rfl⟩
 show vp P w K mg base (CX1 P w) 7 f fd ["store","room","worth"] (spX K (clR K RN) (qbt (["store","room","worth","both","steps","i","j"]:List Str).length (["store","room","worth"]:List Str).length jL))
 refine qbw (N:=["store","room","worth","both","steps","i","j"]) (ps:=["store","room","worth"]) (k:=6) (O:=[4]) (body:=jL) (cl:=clR K RN) F jt ?a ?b
 case a=>decide
 intro cdv A outer s H E B hr
 have L:=qbv (P:=P) (w:=w) (K:=K) (mg:=mg) (base:=base) (N:=["store","room","worth","both","steps","i","j"]) (qual:="stair_for") (scope:=qe jK) (f:=f) (cdv:=cdv) (A:=A) (outer:=outer) (s:=s) (H:=H) (E:=E) (c:=cfn [4] [] B H (λ_=>False) (λx H'=>∀C,clR K RN x.cls=some C->E (.ref C) none H') λ_=>none) (cl:=clR K RN) rfl (λx C H' h1 h2=>h2 C h1)
 exact (qh (yf (xC L.two hcl C_need_store hr (qb (qc 0) qd)))
   (qh (yf (xC L.two hcl C_need_count hr (qb (qc 1) qd)))
   (qh (yf (xC L.two hcl C_need_whole hr (qb (qc 2) qd)))
   (qh (qV (i:=3) jt.nd (xC L.two hcl C_half_loads hr (qb (qc 0) qd)))
   (qh (vz (i:=4) jt.nd (qbi qd))
   (qh (qV (i:=5) jt.nd qf)
   (qh (qV (i:=6) jt.nd (qt qca qak (qP zG zP rfl T.b_len uC (qb (zl qF qE (qc 3) qf) qd)) qf))
   (qh (qn8 (qfu yaK (DW.dt (qcb (zB qhg qfj (qc 5) (qP zG zP rfl T.b_len uC (qb (zl qF qE (qc 3) qf) qd)) (zb _)) (qa7 (zB qgk qcc (qc 6) qf (zb _))))) (qh (yf (uK (i:=4) (qA (qb (qc 5) (qb (qc 6) qd)))))
   (qk (jZ (zB qi9 qfk (qt qK qL (zl qF qE (zl qF qE (zl qF qE (qc 3) qf) (qc 5)) (gI T.c_WEIGHT)) (zl qF qE (zl qF qE (zl qF qE (qc 3) qf) (qc 6)) (gI T.c_WEIGHT))) (qc 1) (zb _)) (qk (qV (i:=6) jt.nd (qt qca qak (qc 6) qf))) (qk (jZ (zB qgk qcc (qt qK qL (zl qF qE (zl qF qE (zl qF qE (qc 3) qf) (qc 5)) (gI T.c_WORTH)) (zl qF qE (zl qF qE (zl qF qE (qc 3) qf) (qc 6)) (gI T.c_WORTH))) (qc 2) (zb _)) (qk (qR wD)) (qk (qV (i:=5) jt.nd (qt qK qL (qc 5) qf))))))))))
   (qk (qR (qbj (i:=4) rfl T.b_tuple yu)))))))))))
theorem qbW:qz ["thing","store","room","worth","stair"] ["thing","store","room","worth"] (qe jP):=⟨rfl,rfl,rfl,by decide +kernel,rfl,by decide +kernel,by decide +kernel⟩
theorem q19 (F:Fun K "is_stair" "is_stair" jP f fd) (m:mg "is_stair"=some (.ref f)) (T:Txt K mg) (XTt:XT K mg RN TN) (hB:K.In base) (C_is_step:Q2 P w K mg base) (C_stair_for:Q18 P w K mg base):Q19 P w K mg base:=by
 have hcl:∀n,RN.contains n=true->(clR K RN n).isSome=true:=λn hn=>Option.isSome_iff_exists.mpr (XTt.has hn)
 refine⟨f,fd,?_,m,F.kp,F.binds λ_ _ _ _ _ _ us hl=>match us,hl with | [_,_,_,_],_=>rfl⟩
 show vp P w K mg base (CX1 P w) 8 f fd ["thing","store","room","worth"] (spX K (clR K RN) (qbt (["thing","store","room","worth","stair"]:List Str).length (["thing","store","room","worth"]:List Str).length jT))
 refine qbw (N:=["thing","store","room","worth","stair"]) (ps:=["thing","store","room","worth"]) (k:=7) (O:=[]) (body:=jT) (cl:=clR K RN) F qbW ?a ?b
 case a=>decide
 intro cdv A outer s H E B hr
 have L:=qbv (P:=P) (w:=w) (K:=K) (mg:=mg) (base:=base) (N:=["thing","store","room","worth","stair"]) (qual:="is_stair") (scope:=qe jP) (f:=f) (cdv:=cdv) (A:=A) (outer:=outer) (s:=s) (H:=H) (E:=E) (c:=cfn [] [] B H (λ_=>False) (λx H'=>∀C,clR K RN x.cls=some C->E (.ref C) none H') λ_=>none) (cl:=clR K RN) rfl (λx C H' h1 h2=>h2 C h1)
 exact (qh (qV (i:=4) qbW.nd (xC L.two hcl C_stair_for hr (qb (qc 1) (qb (qc 2) (qb (qc 3) qd)))))
   (qh (jZ (DW.dt (qdE (zB qkq qhA (qc 4) wD (zb _)) (qaH (vd (vc (qbe wJ rfl T.b_isinstance rfl T.b_tuple yu (qc 0) qM)))))) (qk (qR vm)) qW)
   (qk (qR (wG (qP (qcG rfl) qbf rfl T.b_all qhL (qb (uj (fo:=none) rfl (yd (qc 0)) (cs ["thing","store","room","worth","stair"] ["part"] 1 [] (qe jP)) (f0 [] []) (λ_ _ _ _ _ _ _ _ _ _ _=>⟨(qC (i:=0) (nd ["part"])),vf,(dC C_is_step hr (qb (qc 0) qd))⟩)) qd)) (wF (vx (vg hr) yN (qc 0) (qc 4) (zb _))))))))
theorem qaN:qz ["store","room","asked_for","e"] ["store","room","asked_for"] (qe yj):=⟨rfl,rfl,rfl,by decide +kernel,rfl,by decide +kernel,by decide +kernel⟩
theorem q20 (F:Fun K "_law_said" "_law_said" yj f fd) (m:mg "_law_said"=some (.ref f)) (T:Txt K mg) (XTt:XT K mg RN TN) (hB:K.In base) (C__law_marks:Q0 P w K mg base) (C_is_stair:Q19 P w K mg base):Q20 P w K mg base:=by
 obtain⟨f__law_marks,fd__law_marks,G__law_marks,m__law_marks,k__law_marks,b__law_marks⟩:=C__law_marks.ex
 have hcl:∀n,RN.contains n=true->(clR K RN n).isSome=true:=λn hn=>Option.isSome_iff_exists.mpr (XTt.has hn)
 obtain⟨S,mS,xS⟩:=XTt.xcls hB
 refine⟨f,fd,?_,m,F.kp,F.binds λ_ _ _ _ _ _ us hl=>match us,hl with | [_,_,_],_=>rfl⟩
 exact zJ (N:=["store","room","asked_for","e"]) (O:=[]) (body:=wv) F qaN (by decide) λcdv A outer s H E B hr=>(qh (qoc (i:=3) qaN.nd rfl rfl xS rfl mS G__law_marks (hr.mono (by decide)) rfl m__law_marks k__law_marks b__law_marks (λxe pn E2 cE L=>(qk (yf (xC L hcl C_is_stair hr (qb wD (qb (qc 0) (qb (qc 1) (qb (qc 2) qd)))))))))
   (qk (qR jY)))
theorem vL:qz ["box","many","left","digit"] ["box","many"] (qe yk):=⟨rfl,rfl,rfl,by decide +kernel,rfl,by decide +kernel,by decide +kernel⟩
theorem q21 (F:Fun K "_law_take" "_law_take" yk f fd) (m:mg "_law_take"=some (.ref f)) (T:Txt K mg) (XTt:XT K mg RN TN) (hB:K.In base):Q21 P w K mg base:=by
 refine⟨f,fd,?_,m,F.kp,F.binds λ_ _ _ _ _ _ us hl=>match us,hl with | [_,_],_=>rfl⟩
 show vp P w K mg base CX0 1 f fd ["box","many"] (qes K (vA (["box","many","left","digit"]:List Str).length (["box","many"]:List Str).length u0))
 refine qgx (N:=["box","many","left","digit"]) (ps:=["box","many"]) (k:=0) (O:=[0]) (body:=u0) F vL ?a ?a0 ?b
 case a=>decide
 case a0=>decide
 intro cdv A outer s H E B Io S hr
 exact (qh (qfh (qP qex qdG rfl T.b_divmod qhM (qb (qhG (i:=0) qf) (qb (qc 1) qd))) (vV (n:=2) rfl (zc (qC (i:=2) vL.nd) (zc (qC (i:=3) vL.nd) ue))))
   (qh (qlL (i:=0) (qc 2) qf)
   (qk (qR (qc 3)))))
theorem jX:qz ["box","stair","odd","at","i","j","news","kind"] ["box","stair","odd"] (qe ym):=⟨rfl,rfl,rfl,by decide +kernel,rfl,by decide +kernel,by decide +kernel⟩
theorem q22 (F:Fun K "_law_bent" "_law_bent" ym f fd) (m:mg "_law_bent"=some (.ref f)) (T:Txt K mg) (XTt:XT K mg RN TN) (hB:K.In base) (C__law_take:Q21 P w K mg base):Q22 P w K mg base:=by
 refine⟨f,fd,?_,m,F.kp,F.binds λ_ _ _ _ _ _ us hl=>match us,hl with | [_,_,_],_=>rfl⟩
 show vp P w K mg base CX0 2 f fd ["box","stair","odd"] (qes K (vA (["box","stair","odd","at","i","j","news","kind"]:List Str).length (["box","stair","odd"]:List Str).length ur))
 refine qgx (N:=["box","stair","odd","at","i","j","news","kind"]) (ps:=["box","stair","odd"]) (k:=1) (O:=[0]) (body:=ur) F jX ?a ?a0 ?b
 case a=>decide
 case a0=>decide
 intro cdv A outer s H E B Io S hr
 exact (qh (qV (i:=3) jX.nd (iC (i:=0) C__law_take hr (qb (qt qK qL (qP zG zP rfl T.b_len uC (qb (qc 1) qd)) qf) qd)))
   (qh (qfh (zl qF qE (qt qK qL (uk (qc 1) (v6 (qc 3)) v5) (qA (qb (qA (qb qf (qb qf qd))) qd))) qf) (vV (n:=2) rfl (zc (qC (i:=4) jX.nd) (zc (qC (i:=5) jX.nd) ue))))
   (qh (qV (i:=6) jX.nd (jj (qb (qA qd) (qb (qA (qb (qA (qb (qc 4) (qb (qc 5) qd))) (qb (qA (qb (qc 4) (qb (qc 5) qd))) qd))) (qb (qA (qb (qA (qb (qc 5) (qb (qc 4) qd))) qd)) (qb (qA (qb (qA (qb (qt qK qL (qc 4) qf) (qb (qc 5) qd))) qd)) (qb (qA (qb (qA (qb (qc 4) (qb (vx (vg hr) yN (qc 5) qf (zb _)) qd))) qd)) (qb (qA (qb (jj (qb (qc 4) (qb (qc 5) qd))) qd)) (qb (qA (qb (qA (qb (qc 4) (qb (qc 5) (qb qf qd)))) qd)) (qb (qA (qb (qc 2) qd)) qd))))))))))
   (qh (qV (i:=7) jX.nd (iC (i:=0) C__law_take hr (qb qf qd)))
   (qh (jZ (zB qhg qfj (qc 7) qf (zb _)) (qk (qR (qt qK qL (qt qK qL (uk (qc 1) v5 (v6 (qc 3))) (zl qF qE (qc 6) (qc 7))) (uk (qc 1) (v6 (qt qK qL (qc 3) qf)) v5)))) qW)
   (qk (qR (zl qF qE (jj (qb (qmp (qc 1)) (qb (qa8 qdB qgt rfl T.b_list ql1 (qb (qc 1) qd)) (qb (qt qK qL (qc 1) (qA (qb (qA (qb qf (qb qf qd))) qd))) qd)))) (qt qca qak (qc 7) qf)))))))))
theorem qdo:qz ["found","due"] ["found","due"] (qe jQ):=⟨rfl,rfl,rfl,by decide +kernel,rfl,by decide +kernel,by decide +kernel⟩
theorem q23 (F:Fun K "_law_truth" "_law_truth" jQ f fd) (m:mg "_law_truth"=some (.ref f)) (T:Txt K mg) (XTt:XT K mg RN TN) (hB:K.In base):Q23 P w K mg base:=by
 refine⟨f,fd,?_,m,F.kp,F.binds λ_ _ _ _ _ _ us hl=>match us,hl with | [_,_],_=>rfl⟩
 exact zJ (N:=["found","due"]) (O:=[]) (body:=vK) F qdo (by decide) λcdv A outer s H E B hr=>(qk (qR (wG (qbe qfl rfl T.b_isinstance rfl T.b_bool qhN (qc 0) qM) (wF (vx (vg hr) yN (qc 0) (qc 1) (zb _))))))
theorem vZ:qz ["store","half"] ["store"] (qe jx):=⟨rfl,rfl,rfl,by decide +kernel,rfl,by decide +kernel,by decide +kernel⟩
theorem q24 (F:Fun K "_law_halves" "_law_halves" jx f fd) (m:mg "_law_halves"=some (.ref f)) (T:Txt K mg) (XTt:XT K mg RN TN) (hB:K.In base):Q24 P w K mg base:=by
 refine⟨f,fd,?_,m,F.kp,F.binds λ_ _ _ _ _ _ us hl=>match us,hl with | [_],_=>rfl⟩
 exact zJ (N:=["store","half"]) (O:=[]) (body:=u3) F vZ (by decide) λcdv A outer s H E B hr=>(qh (qV (i:=1) vZ.nd (qt v0 uQ (qP zG zP rfl T.b_len uC (qb (qc 0) qd)) qf))
   (qk (qR (qA (qb (uk (qc 0) v5 (v6 (qc 1))) (qb (uk (qc 0) (v6 (qc 1)) v5) qd))))))
theorem qB:qz ["store","room","found","heavy","dear","most","later","load","left","often"] ["store","room"] (qe zk):=⟨rfl,rfl,rfl,by decide +kernel,rfl,by decide +kernel,by decide +kernel⟩
theorem q25 (F:Fun K "_law_all_loads" "_law_all_loads" zk f fd) (m:mg "_law_all_loads"=some (.ref f)) (T:Txt K mg) (XTt:XT K mg RN TN) (hB:K.In base):Q25 P w K mg base:=by
 refine⟨f,fd,?_,m,F.kp,F.binds λ_ _ _ _ _ _ us hl=>match us,hl with | [_,_],_=>rfl⟩
 exact zJ (N:=["store","room","found","heavy","dear","most","later","load","left","often"]) (O:=[]) (body:=yQ) F qB (by decide) λcdv A outer s H E B hr=>(qh (qV (i:=2) qB.nd (jj (qb (qA (qb (qA qd) (qb (qc 1) qd))) qd)))
   (qh (uA yaK rfl (yd (qc 0)) (vV (n:=3) rfl (zc (qC (i:=3) qB.nd) (zc (qC (i:=4) qB.nd) (zc (qC (i:=5) qB.nd) ue)))) (qh (qV (i:=6) qB.nd (jj qd))
   (qh (uA yaK rfl (yd (qc 2)) (vV (n:=2) rfl (zc (qC (i:=7) qB.nd) (zc (qC (i:=8) qB.nd) ue))) (qh (qV (i:=9) qB.nd (qt v0 uQ (qc 8) (qc 3)))
   (qh (jZ (zB qlp qjl (qc 5) wD (zb _)) (qk (qV (i:=9) qB.nd (qP (qaY rfl) qbb rfl T.b_min qhK (qb (qc 9) (qb (qc 5) qd))))) qW)
   (qk (qV (i:=6) qB.nd (qt qK qL (qc 6) (uj (fo:=none) rfl (ui rfl T.b_range (qb (qt qK qL (qc 9) qf) qd)) (cs ["store","room","found","heavy","dear","most","later","load","left","often"] ["k","load","left","heavy"] 1 [7,8,3] (qe zk)) (f0 [7,8,3] []) (λ_ _ _ _ _ _ _ _ _ _ _=>⟨(qC (i:=0) (nd ["k","load","left","heavy"])),vf,(qA (qb (qt qK qL (qc 1) (qA (qb (qc 0) qd))) (qb (qt qca qak (qc 2) (qt yh jv (qc 0) (qc 3))) qd)))⟩))))))))
   (qk (qV (i:=2) qB.nd (qc 6))))))
   (qk (qR (uj (fo:=none) rfl (yd (qc 2)) (cs ["store","room","found","heavy","dear","most","later","load","left","often"] ["load","left"] 2 [] (qe zk)) (f0 [] []) (λ_ _ _ _ _ _ _ _ _ _ _=>⟨(vV (n:=2) rfl (zc (qC (i:=0) (nd ["load","left"])) (zc (qC (i:=1) (nd ["load","left"])) ue))),vf,(qc 0)⟩))))))
theorem va:qz ["store","load","place","found","at"] ["store","load","place"] (qe ua):=⟨rfl,rfl,rfl,by decide +kernel,rfl,by decide +kernel,by decide +kernel⟩
theorem q26 (F:Fun K "_law_sum" "_law_sum" ua f fd) (m:mg "_law_sum"=some (.ref f)) (T:Txt K mg) (XTt:XT K mg RN TN) (hB:K.In base):Q26 P w K mg base:=by
 refine⟨f,fd,?_,m,F.kp,F.binds λ_ _ _ _ _ _ us hl=>match us,hl with | [_,_,_],_=>rfl⟩
 exact zJ (N:=["store","load","place","found","at"]) (O:=[]) (body:=qaB) F va (by decide) λcdv A outer s H E B hr=>(qh (qV (i:=3) va.nd qf)
   (qh (uA yaK rfl (ui rfl T.b_range (qb (qP zG zP rfl T.b_len uC (qb (qc 0) qd)) qd)) (qC (i:=4) va.nd) (qk (qV (i:=3) va.nd (qt qK qL (qc 3) (qt yh jv (zl qF qE (zl qF qE (qc 0) (qc 4)) (qc 2)) (zl qF qE (qc 1) (qc 4)))))))
   (qk (qR (qc 3)))))
theorem zd:qz ["store","loads","found","heavy","dear","load","worse","other"] ["store"] (qe zq):=⟨rfl,rfl,rfl,by decide +kernel,rfl,by decide +kernel,by decide +kernel⟩
theorem q27 (F:Fun K "_law_unbeaten" "_law_unbeaten" zq f fd) (m:mg "_law_unbeaten"=some (.ref f)) (T:Txt K mg) (XTt:XT K mg RN TN) (hB:K.In base) (C__law_all_loads:Q25 P w K mg base) (C__law_sum:Q26 P w K mg base):Q27 P w K mg base:=by
 refine⟨f,fd,?_,m,F.kp,F.binds λ_ _ _ _ _ _ us hl=>match us,hl with | [_],_=>rfl⟩
 exact zJ (N:=["store","loads","found","heavy","dear","load","worse","other"]) (O:=[2]) (body:=ut) F zd (by decide) λcdv A outer s H E B hr=>(qh (qmb (i:=1) zd.nd (qma (fo:=none) rfl (yd (dC C__law_all_loads hr (qb (qc 0) (qb (qt qhc qeH qf qf) qd)))) (cs ["store","loads","found","heavy","dear","load","worse","other"] ["load","store"] 1 [0] (qe zq)) (f0 [0] [2]) (λ_ _ _ _ _ _ _ _ _ _ _=>⟨(qC (i:=0) (nd ["load","store"])),vf,(qA (qb (dC C__law_sum hr (qb (qc 1) (qb (qc 0) (qb qf qd)))) (qb (dC C__law_sum hr (qb (qc 1) (qb (qc 0) (qb qf qd)))) (qb (qc 0) qd))))⟩)) rfl (cs ["store","loads","found","heavy","dear","load","worse","other"] ["load","store"] 1 [0] (qe zq)))
   (qh (vz (i:=2) zd.nd (qbi qd))
   (qh (uA yaK rfl (yd (qc 1)) (vV (n:=3) rfl (zc (qC (i:=3) zd.nd) (zc (qC (i:=4) zd.nd) (zc (qC (i:=5) zd.nd) ue)))) (qh (qV (i:=6) zd.nd vm)
   (qh (uA yaK rfl (yd (qc 1)) (qC (i:=7) zd.nd) (qk (jZ (DW.dt (qcb (zB qlo qhy (zl qF qE (qc 7) qf) (qc 3) (zb _)) (qcb (zB qgk qcc (zl qF qE (qc 7) qf) (qc 4) (zb _)) (qa7 (zB (qbm hr) v8 (zl qF qE (qc 7) qf) (qc 5) (zb _)))))) (qk (qV (i:=6) zd.nd (qji (qc 6) (qji (vx (qkV hr) qii (zl qF qE (qc 7) qf) (qc 3) (zb _)) (qji (vx qi9 qfk (zl qF qE (qc 7) qf) (qc 4) (zb _)) (wF (vx (qkV hr) qii (zl qF qE (qc 7) qf) (qc 5) (zb _)))))))) qW)))
   (qk (jZ (vd (vc (qc 6))) (qk (yf (uK (i:=2) (qA (qb (qc 3) (qb (qc 4) (qb (qc 5) qd))))))) qW)))))
   (qk (qR (qpF (qjY (i:=2) hr rfl T.b_sorted)))))))
theorem qZ:qz ["store","room","asked_for","one","other","found","i","j","heavy","dear"] ["store","room","asked_for"] (qe zo):=⟨rfl,rfl,rfl,by decide +kernel,rfl,by decide +kernel,by decide +kernel⟩
theorem q28 (F:Fun K "_law_stair_gone" "_law_stair_gone" zo f fd) (m:mg "_law_stair_gone"=some (.ref f)) (T:Txt K mg) (XTt:XT K mg RN TN) (hB:K.In base) (C__law_halves:Q24 P w K mg base) (C__law_unbeaten:Q27 P w K mg base):Q28 P w K mg base:=by
 refine⟨f,fd,?_,m,F.kp,F.binds λ_ _ _ _ _ _ us hl=>match us,hl with | [_,_,_],_=>rfl⟩
 exact zJ (N:=["store","room","asked_for","one","other","found","i","j","heavy","dear"]) (O:=[5]) (body:=yp) F qZ (by decide) λcdv A outer s H E B hr=>(qh (qfh (uj (fo:=none) rfl (yd (dC C__law_halves hr (qb (qc 0) qd))) (cs ["store","room","asked_for","one","other","found","i","j","heavy","dear"] ["half"] 1 [] (qe zo)) (f0 [] [5]) (λ_ _ _ _ _ _ _ _ _ _ _=>⟨(qC (i:=0) (nd ["half"])),vf,(dC C__law_unbeaten hr (qb (qc 0) qd))⟩)) (qop (n:=2) rfl (zc (qC (i:=3) qZ.nd) (zc (qC (i:=4) qZ.nd) ue))))
   (qh (vz (i:=5) qZ.nd (qbi qd))
   (qh (qdL (i:=6) (j:=7) qZ.nd (qb qf (qb (qt qca qak (qP zG zP rfl T.b_len uC (qb (qc 4) qd)) qf) qd)) rfl)
   (qh (qfu yaK (DW.dt (qcb (zB qhg qfj (qc 6) (qP zG zP rfl T.b_len uC (qb (qc 3) qd)) (zb _)) (qa7 (zB qgk qcc (qc 7) qf (zb _))))) (qh (qdL (i:=8) (j:=9) qZ.nd (qb (qt qK qL (zl qF qE (zl qF qE (qc 3) (qc 6)) qf) (zl qF qE (zl qF qE (qc 4) (qc 7)) qf)) (qb (qt qK qL (zl qF qE (zl qF qE (qc 3) (qc 6)) qf) (zl qF qE (zl qF qE (qc 4) (qc 7)) qf)) qd)) rfl)
   (qh (yf (uK (i:=5) (qA (qb (qc 6) (qb (qc 7) qd)))))
   (qh (jZ (DW.dt (qcb (zB qlo qhy (qc 8) (qc 1) (zb _)) (qa7 (zB qgk qcc (qc 9) (qc 2) (zb _))))) (qk (qR (qA (qb (qbj (i:=5) rfl T.b_tuple yu) (qb vm qd))))) qW)
   (qk (jZ (zB qlo qhy (qc 8) (qc 1) (zb _)) (qk (qV (i:=6) qZ.nd (qt qK qL (qc 6) qf))) (qk (qV (i:=7) qZ.nd (qt qca qak (qc 7) qf)))))))))
   (qk (qR (qA (qb (qbj (i:=5) rfl T.b_tuple yu) (qb vm qd)))))))))
theorem yr:qz ["box","some"] ["box"] (qe zN):=⟨rfl,rfl,rfl,by decide +kernel,rfl,by decide +kernel,by decide +kernel⟩
theorem q29 (F:Fun K "_law_odd_thing" "_law_odd_thing" zN f fd) (m:mg "_law_odd_thing"=some (.ref f)) (T:Txt K mg) (XTt:XT K mg RN TN) (hB:K.In base) (C__law_take:Q21 P w K mg base):Q29 P w K mg base:=by
 refine⟨f,fd,?_,m,F.kp,F.binds λ_ _ _ _ _ _ us hl=>match us,hl with | [_],_=>rfl⟩
 show vp P w K mg base CX0 2 f fd ["box"] (qes K (vA (["box","some"]:List Str).length (["box"]:List Str).length jF))
 refine qgx (N:=["box","some"]) (ps:=["box"]) (k:=1) (O:=[0]) (body:=jF) F yr ?a ?a0 ?b
 case a=>decide
 case a0=>decide
 intro cdv A outer s H E B Io S hr
 exact (qh (qV (i:=1) yr.nd (jj (qb wD (qb vm (qb vm (qb (wN qf) (qb jY (qb jY (qb (qA (qb qf qd)) (qb (jj (qb qf qd)) (qb qjC (qb (qA (qb (wN qf) qd)) (qb (qA (qb vm qd)) (qb (qA (qb (qA (qb qf (qb qf qd))) qd)) (qb (qA (qb wD qd)) (qb (qt qhc qeH qf qf) qd))))))))))))))))
   (qh (qV (i:=1) yr.nd (qt qK qL (qc 1) (jj (qb (qA (qb qf (qb qf (qb qf qd)))) (qb (qA (qb (qA (qb qf (qb qf (qb qf qd)))) qd)) (qb (qA (qb (qA (qb qf (qb (wN qf) (qb qf qd)))) qd)) (qb (qA (qb (qA (qb qf (qb qf (qb (wN qf) qd)))) qd)) (qb (jj (qb (qA (qb qf (qb qf (qb qf qd)))) qd)) (qb qjB (qb jY (qb (qA (qb (qA (qb qf (qb qf (qb vm qd)))) qd)) qd)))))))))))
   (qk (qR (zl qF qE (qc 1) (iC (i:=0) C__law_take hr (qb qf qd)))))))
theorem zK:qz ["box","ends","way","heavy","dear","often"] ["box","ends"] (qe jb):=⟨rfl,rfl,rfl,by decide +kernel,rfl,by decide +kernel,by decide +kernel⟩
theorem q30 (F:Fun K "_law_kind_of" "_law_kind_of" jb f fd) (m:mg "_law_kind_of"=some (.ref f)) (T:Txt K mg) (XTt:XT K mg RN TN) (hB:K.In base) (C__law_take:Q21 P w K mg base):Q30 P w K mg base:=by
 refine⟨f,fd,?_,m,F.kp,F.binds λ_ _ _ _ _ _ us hl=>match us,hl with | [_,_],_=>rfl⟩
 show vp P w K mg base CX0 2 f fd ["box","ends"] (qes K (vA (["box","ends","way","heavy","dear","often"]:List Str).length (["box","ends"]:List Str).length yx))
 refine qgx (N:=["box","ends","way","heavy","dear","often"]) (ps:=["box","ends"]) (k:=1) (O:=[0]) (body:=yx) F zK ?a ?a0 ?b
 case a=>decide
 case a0=>decide
 intro cdv A outer s H E B Io S hr
 exact (qh (qV (i:=2) zK.nd (iC (i:=0) C__law_take hr (qb qf qd)))
   (qh (qdL (i:=3) (j:=4) zK.nd (qb (qt qK qL qf (iC (i:=0) C__law_take hr (qb qf qd))) (qb (iC (i:=0) C__law_take hr (qb qf qd)) qd)) rfl)
   (qh (jZ (zB (vg hr) yN (qc 2) qf (zb _)) (qk (qV (i:=4) zK.nd (qt yh jv qf (qc 3)))) qW)
   (qh (jZ (zB (vg hr) yN (qc 2) qf (zb _)) (qk (qV (i:=4) zK.nd (qt qK qL (qc 3) (iC (i:=0) C__law_take hr (qb qf qd))))) qW)
   (qh (jZ (zB (vg hr) yN (qc 2) qf (zb _)) (qk (qdL (i:=3) (j:=4) zK.nd (qb (qt qK qL qf (iC (i:=0) C__law_take hr (qb qf qd))) (qb (iC (i:=0) C__law_take hr (qb qf qd)) qd)) rfl)) qW)
   (qh (qV (i:=5) zK.nd (zl qF qE (jj (qb qf (qb qf (qb qf (qb qf (qb qf (qb qf (qb qf (qb (qc 1) qd))))))))) (iC (i:=0) C__law_take hr (qb qf qd))))
   (qk (qR (qA (qb (qc 3) (qb (qc 4) (qb (qc 5) qd))))))))))))
theorem ju:qz ["box","most","ends","found","k","kind"] ["box","most","ends"] (qe jc):=⟨rfl,rfl,rfl,by decide +kernel,rfl,by decide +kernel,by decide +kernel⟩
theorem q31 (F:Fun K "_law_stocked" "_law_stocked" jc f fd) (m:mg "_law_stocked"=some (.ref f)) (T:Txt K mg) (XTt:XT K mg RN TN) (hB:K.In base) (C__law_take:Q21 P w K mg base) (C__law_kind_of:Q30 P w K mg base):Q31 P w K mg base:=by
 refine⟨f,fd,?_,m,F.kp,F.binds λ_ _ _ _ _ _ us hl=>match us,hl with | [_,_,_],_=>rfl⟩
 show vp P w K mg base CX0 3 f fd ["box","most","ends"] (qes K (vA (["box","most","ends","found","k","kind"]:List Str).length (["box","most","ends"]:List Str).length yy))
 refine qgx (N:=["box","most","ends","found","k","kind"]) (ps:=["box","most","ends"]) (k:=2) (O:=[0,3]) (body:=yy) F ju ?a ?a0 ?b
 case a=>decide
 case a0=>decide
 intro cdv A outer s H E B Io S hr
 exact (qh (vz (i:=3) ju.nd (qbi qd))
   (qh (uA yaK rfl (ui rfl T.b_range (qb (iC (i:=0) C__law_take hr (qb (qt qK qL (qc 1) qf) qd)) qd)) (qC (i:=4) ju.nd) (qh (qV (i:=5) ju.nd (iC (i:=0) C__law_kind_of hr (qb (qc 2) qd)))
   (qh (jZ (DW.dt (qcb (qnQ (i:=3) hr (jj qd)) (qa7 (zB (vg hr) yN (iC (i:=0) C__law_take hr (qb qf qd)) qf (zb _))))) (qk (qV (i:=5) ju.nd (qhG (i:=3) (iC (i:=0) C__law_take hr (qb (qlM (i:=3) rfl T.b_len) qd))))) qW)
   (qk (yf (uK (i:=3) (qc 5)))))))
   (qk (qR (qbj (i:=3) rfl T.b_tuple yu)))))
theorem zL:qz ["box","most","great","found","heavy","dear","often"] ["box","most","great"] (qe zr):=⟨rfl,rfl,rfl,by decide +kernel,rfl,by decide +kernel,by decide +kernel⟩
theorem q32 (F:Fun K "_law_single_ones" "_law_single_ones" zr f fd) (m:mg "_law_single_ones"=some (.ref f)) (T:Txt K mg) (XTt:XT K mg RN TN) (hB:K.In base) (C__law_stocked:Q31 P w K mg base) (C__law_take:Q21 P w K mg base):Q32 P w K mg base:=by
 refine⟨f,fd,?_,m,F.kp,F.binds λ_ _ _ _ _ _ us hl=>match us,hl with | [_,_,_],_=>rfl⟩
 show vp P w K mg base CX0 4 f fd ["box","most","great"] (qes K (vA (["box","most","great","found","heavy","dear","often"]:List Str).length (["box","most","great"]:List Str).length jh))
 refine qgx (N:=["box","most","great","found","heavy","dear","often"]) (ps:=["box","most","great"]) (k:=3) (O:=[0,3]) (body:=jh) F zL ?a ?a0 ?b
 case a=>decide
 case a0=>decide
 intro cdv A outer s H E B Io S hr
 exact (qh (vz (i:=3) zL.nd (qbi qd))
   (qh (uA yaK rfl (yd (iC (i:=0) C__law_stocked hr (qb (qc 1) (qb qf qd)))) (vV (n:=3) rfl (zc (qC (i:=4) zL.nd) (zc (qC (i:=5) zL.nd) (zc (qC (i:=6) zL.nd) ue)))) (qk (yf (uK (i:=3) (qA (qb (qt qK qL (qt yh jv (qc 4) (qc 2)) (iC (i:=0) C__law_take hr (qb (qc 2) qd))) (qb (qt qK qL (qt yh jv (qc 5) (qc 2)) (iC (i:=0) C__law_take hr (qb (qc 2) qd))) (qb (qP (qaY rfl) qbb rfl T.b_min qhK (qb (qc 6) (qb qf qd))) qd))))))))
   (qk (qR (qbj (i:=3) rfl T.b_tuple yu)))))
theorem vb:qz ["cell","k","some","stir"] ["cell","k"] (qe ub):=⟨rfl,rfl,rfl,by decide +kernel,rfl,by decide +kernel,by decide +kernel⟩
theorem q33 (F:Fun K "_law_mix" "_law_mix" ub f fd) (m:mg "_law_mix"=some (.ref f)) (T:Txt K mg) (XTt:XT K mg RN TN) (hB:K.In base):Q33 P w K mg base:=by
 refine⟨f,fd,?_,m,F.kp,F.binds λ_ _ _ _ _ _ us hl=>match us,hl with | [_,_],_=>rfl⟩
 exact zJ (N:=["cell","k","some","stir"]) (O:=[]) (body:=qaC) F vb (by decide) λcdv A outer s H E B hr=>(qh (qV (i:=2) vb.nd (jj (qb qf (qb qf (qb qf (qb qf (qb qf (qb qf (qb qf (qb qf (qb qf (qb qf (qb qf (qb qf (qb qf qd)))))))))))))))
   (qh (qV (i:=3) vb.nd (qt qK qL (qt qK qL (qt yh jv (qt qK qL (qt qdt qba (qc 0) qf) qf) (zl qF qE (qc 2) (qt qdt qba (qc 1) qf))) (qt yh jv qf (qc 1))) (qt yh jv qf (qt v0 uQ (qc 1) qf))))
   (qh (qV (i:=3) vb.nd (qt qdt qba (qc 3) qf))
   (qk (qR (qt v0 uQ (qt qdt qba (qt qK qL (qt yh jv (qc 3) (qc 3)) (qt yh jv qf (qc 1))) qf) qf))))))
theorem qep:qz ["script","k"] ["script","k"] (qe yn):=⟨rfl,rfl,rfl,by decide +kernel,rfl,by decide +kernel,by decide +kernel⟩
theorem q34 (F:Fun K "_law_cell" "_law_cell" yn f fd) (m:mg "_law_cell"=some (.ref f)) (T:Txt K mg) (XTt:XT K mg RN TN) (hB:K.In base):Q34 P w K mg base:=by
 refine⟨f,fd,?_,m,F.kp,F.binds λ_ _ _ _ _ _ us hl=>match us,hl with | [_,_],_=>rfl⟩
 exact zJ (N:=["script","k"]) (O:=[]) (body:=u4) F qep (by decide) λcdv A outer s H E B hr=>(qh (jZ (zB qhg qfj (qc 1) (qP zG zP rfl T.b_len uC (qb (qc 0) qd)) (zb _)) (qk (qR (zl qF qE (qc 0) (qc 1)))) qW)
   (qk (qR qf)))
theorem uv:qz ["script","k","cell","number","j"] ["script","k"] (qe uc):=⟨rfl,rfl,rfl,by decide +kernel,rfl,by decide +kernel,by decide +kernel⟩
theorem q35 (F:Fun K "_law_box" "_law_box" uc f fd) (m:mg "_law_box"=some (.ref f)) (T:Txt K mg) (XTt:XT K mg RN TN) (hB:K.In base) (C__law_mix:Q33 P w K mg base) (C__law_cell:Q34 P w K mg base):Q35 P w K mg base:=by
 refine⟨f,fd,?_,m,F.kp,F.binds λ_ _ _ _ _ _ us hl=>match us,hl with | [_,_],_=>rfl⟩
 exact zJ (N:=["script","k","cell","number","j"]) (O:=[]) (body:=vT) F uv (by decide) λcdv A outer s H E B hr=>(qh (qV (i:=2) uv.nd (dC C__law_cell hr (qb (qc 0) (qb (qc 1) qd))))
   (qh (jZ (zB (vg hr) yN (qt qdt qba (qc 2) qf) qf (zb _)) (qk (qR (jj (qb (qt v0 uQ (qP qja qhB rfl T.b_abs qn1 (qb (qc 2) qd)) qf) qd)))) qW)
   (qh (qV (i:=3) uv.nd qf)
   (qh (uA yaK rfl (ui rfl T.b_range (qb qf qd)) (qC (i:=4) uv.nd) (qk (qV (i:=3) uv.nd (qt qK qL (qt yh jv (qc 3) qf) (dC C__law_mix hr (qb (qc 2) (qb (qc 4) qd)))))))
   (qk (qR (jj (qb (qc 3) qd))))))))
theorem uw:qz ["script","k","box","store","odd","load","near","dear","room","asked_for","stair","whole","thing","held","due","many"] ["script"] (qe qbL):=⟨rfl,rfl,rfl,by decide +kernel,rfl,by decide +kernel,by decide +kernel⟩
theorem qoW (F:Fun K "law" "law" qbL f fd) (T:Txt K mg) (XTt:XT K mg RN TN) (hB:K.In base) (C__law_said:Q20 P w K mg base) (C__law_take:Q21 P w K mg base) (C__law_bent:Q22 P w K mg base) (C__law_truth:Q23 P w K mg base) (C_is_stair:Q19 P w K mg base) (C_stair_for:Q18 P w K mg base) (C__law_stair_gone:Q28 P w K mg base) (C__law_sum:Q26 P w K mg base) (C__law_odd_thing:Q29 P w K mg base) (C__law_single_ones:Q32 P w K mg base) (C__law_box:Q35 P w K mg base):vp P w K mg base CX0 10 f fd ["script"] (spD K qe1):=by
 exact zJ (N:=["script","k","box","store","odd","load","near","dear","room","asked_for","stair","whole","thing","held","due","many"]) (O:=[2]) (body:=qmE) F uw (by decide) λcdv A outer s H E B hr=>(qh (uA yaK rfl (ui rfl T.b_range (qb (qP (qhi rfl) qhC rfl T.b_max qn2 (qb qf (qb (qP (qaY rfl) qbb rfl T.b_min qhK (qb (qP zG zP rfl T.b_len uC (qb (qc 0) qd)) (qb qf qd))) qd))) qd)) (qC (i:=1) uw.nd) (qh (vz (i:=2) uw.nd (nC C__law_box hr (qb (qc 0) (qb (qc 1) qd))))
   (qh (qV (i:=3) uw.nd (iC (i:=2) C__law_single_ones hr (qb qf (qb (zl qF qE (jj (qb qf (qb qf (qb (qt qhc qeH qf qf) qd)))) (iC (i:=2) C__law_take hr (qb qf qd))) qd))))
   (qh (qV (i:=4) uw.nd (iC (i:=2) C__law_odd_thing hr qd))
   (qh (qV (i:=5) uw.nd (qa8 wC qeC rfl T.b_tuple yu (qb (uj (fo:=(some (1,2))) rfl (yd (qc 3)) (cs ["script","k","box","store","odd","load","near","dear","room","asked_for","stair","whole","thing","held","due","many"] ["kind","box"] 1 [2] (qe qbL)) (f1 1 [2] [2] 1 2) (λ_ _ _ _ _ _ _ _ _ _ _=>⟨(qC (i:=0) (nd ["kind","box"])),vf,(iC (i:=1) C__law_take hr (qb (qt qK qL qf (zl qF qE (qc 0) qf)) qd))⟩)) qd)))
   (qh (qdL (i:=6) (j:=7) uw.nd (qb (dC C__law_sum hr (qb (qc 3) (qb (qc 5) (qb qf qd)))) (qb (dC C__law_sum hr (qb (qc 3) (qb (qc 5) (qb qf qd)))) qd)) rfl)
   (qh (uA yaK rfl (yd (jj (qb (qA (qb (qc 6) (qb (qc 7) qd))) (qb (qA (qb (qc 6) (qb (qt qK qL (qt qK qL (qc 7) qf) (iC (i:=2) C__law_take hr (qb qf qd))) qd))) (qb (qA (qb (qt qK qL (qc 6) qf) (qb (qt qK qL (qt yh jv qf (qc 7)) qf) qd))) (qb (qA (qb qf (qb (wN qf) qd))) qd)))))) (vV (n:=2) rfl (zc (qC (i:=8) uw.nd) (zc (qC (i:=9) uw.nd) ue))) (qh (qfh (dC C__law_stair_gone hr (qb (qc 3) (qb (qc 8) (qb (qc 9) qd)))) (vV (n:=2) rfl (zc (qC (i:=10) uw.nd) (zc (qC (i:=11) uw.nd) ue))))
   (qh (jZ (zB (qbm hr) v8 (qP (yZ hr) y7 rfl T.b_repr qap (qb (pC C_stair_for hr (qb (qc 3) (qb (qc 8) (qb (qc 9) qd)))) qd)) (qP (yZ hr) y7 rfl T.b_repr qap (qb (zl qF qE (jj (qb wD (qb (qc 10) qd))) (qa8 qhj qgr rfl T.b_int qkF (qb (qc 11) qd))) qd)) (zb _)) (qk (qR vm)) qW)
   (qk (uA yaK rfl (yd (qt qK qL (jj (qb (qc 10) (qb (qc 4) (qb (qA qd) qd)))) (uj (fo:=(some (1,2))) rfl (ui rfl T.b_range (qb qf qd)) (cs ["script","k","box","store","odd","load","near","dear","room","asked_for","stair","whole","thing","held","due","many"] ["turn","box","stair","odd"] 1 [2,10,4] (qe qbL)) (f1 1 [2,10,4] [2] 1 2) (λ_ _ _ _ _ _ _ _ _ _ _=>⟨(qC (i:=0) (nd ["turn","box","stair","odd"])),vf,(iC (i:=1) C__law_bent hr (qb (qc 2) (qb (qc 3) qd)))⟩)))) (qC (i:=12) uw.nd) (qh (qV (i:=13) uw.nd (qP (yZ hr) y7 rfl T.b_repr qap (qb (qc 12) qd)))
   (qh (qV (i:=14) uw.nd (wG (qc 11) (wF (vx (vg hr) yN (qP (yZ hr) y7 rfl T.b_repr qap (qb (qc 12) qd)) (qP (yZ hr) y7 rfl T.b_repr qap (qb (qc 10) qd)) (zb _)))))
   (qk (jZ (DW.dt (qdE (vd (vc (dC C__law_truth hr (qb (pC C_is_stair hr (qb (qc 12) (qb (qc 3) (qb (qc 8) (qb (qc 9) qd))))) (qb (qc 14) qd))))) (qaH (zB (qbm hr) v8 (qP (yZ hr) y7 rfl T.b_repr qap (qb (qc 12) qd)) (qc 13) (zb _))))) (qk (qR vm)) qW)))))))))
   (qh (qV (i:=15) uw.nd (qt qK qL (qc 3) (qA (qb (qA (qb qf (qb qf (qb qf qd)))) qd))))
   (qh (jZ (DW.dt (qdE (zB (qbm hr) v8 (dC C__law_said hr (qb (qc 15) (qb qf (qb qf qd)))) jY (zb _)) (qaH (zB (qbm hr) v8 (dC C__law_said hr (qb (qc 15) (qb (wN qf) (qb qf qd)))) jY (zb _))))) (qk (qR vm)) qW)
   (qk (jZ (zB (qbm hr) v8 (dC C__law_said hr (qb (qc 15) (qb qf (qb wD qd)))) jY (zb _)) (qk (qR vm)) qW)))))))))))
   (qk (qR vm)))
end
theorem all_mk {l:yeh} {w:World} {K:yaf} {h:Heap} {mg:Str->Option Value} {fa f0 f1 f2 f3 f4 f5 f6 f7 f8 f9 f10 f11 f12 f13 f14 f15 f16 f17 f18 f19 f20 f21 f22 f23 f24 f25 f26 f27 f28 f29 f30 f31 f32 f33 f34 f35 f36:Addr} (X:K.In h) (G:h.Ns yae mg) (hfa:mg "law"=some (.ref fa))
  {od0 an0 od1 an1 od2 an2 od3 an3 od4 an4 od5 an5 od6 an6 od7 an7 od8 an8 od9 an9 od10 an10 od11 an11 od12 an12 od13 an13 od14 an14 od15 an15 od16 an16 od17 an17 od18 an18 od19 an19 od20 an20 od21 an21 od22 an22 od23 an23 od24 an24 od25 an25 od26 an26 od27 an27 od28 an28 od29 an29 od30 an30 od31 an31 od32 an32 od33 an33 od34 an34 od35 an35 od36 an36:Option Addr} {sl0 sl1 sl2 sl3 sl4 sl5 sl6 sl7 sl8 sl9 sl10 sl11 sl12 sl13 sl14 sl15 sl16 sl17 sl18 sl19 sl20 sl21 sl22 sl23 sl24 sl25 sl26 sl27 sl28 sl29 sl30 sl31 sl32 sl33 sl34 sl35 sl36:Array (Option Value)} {oc0 kV0 dc0 pm0 cd0 ct0 oc1 kV1 dc1 pm1 cd1 ct1 oc2 kV2 dc2 pm2 cd2 ct2 oc3 kV3 dc3 pm3 cd3 ct3 oc4 kV4 dc4 pm4 cd4 ct4 oc5 kV5 dc5 pm5 cd5 ct5 oc6 kV6 dc6 pm6 cd6 ct6 oc7 kV7 dc7 pm7 cd7 ct7 oc8 kV8 dc8 pm8 cd8 ct8 oc9 kV9 dc9 pm9 cd9 ct9 oc10 kV10 dc10 pm10 cd10 ct10 oc11 kV11 dc11 pm11 cd11 ct11 oc12 kV12 dc12 pm12 cd12 ct12 oc13 kV13 dc13 pm13 cd13 ct13 oc14 kV14 dc14 pm14 cd14 ct14 oc15 kV15 dc15 pm15 cd15 ct15 oc16 kV16 dc16 pm16 cd16 ct16 oc17 kV17 dc17 pm17 cd17 ct17 oc18 kV18 dc18 pm18 cd18 ct18 oc19 kV19 dc19 pm19 cd19 ct19 oc20 kV20 dc20 pm20 cd20 ct20 oc21 kV21 dc21 pm21 cd21 ct21 oc22 kV22 dc22 pm22 cd22 ct22 oc23 kV23 dc23 pm23 cd23 ct23 oc24 kV24 dc24 pm24 cd24 ct24 oc25 kV25 dc25 pm25 cd25 ct25 oc26 kV26 dc26 pm26 cd26 ct26 oc27 kV27 dc27 pm27 cd27 ct27 oc28 kV28 dc28 pm28 cd28 ct28 oc29 kV29 dc29 pm29 cd29 ct29 oc30 kV30 dc30 pm30 cd30 ct30 oc31 kV31 dc31 pm31 cd31 ct31 oc32 kV32 dc32 pm32 cd32 ct32 oc33 kV33 dc33 pm33 cd33 ct33 oc34 kV34 dc34 pm34 cd34 ct34 oc35 kV35 dc35 pm35 cd35 ct35 oc36 kV36 dc36 pm36 cd36 ct36:Value} {tk_KINDS_AT_MOST:Tok} {tk_LOAD:Tok} {tk_MOST:Tok} {tk_WEIGHT:Tok} {tk_WORTH:Tok}
  (a0:yak K yae "_law_marks"=some (some (.ref f0))) (l0:K.lookup f0=some ⟨oc0,od0,.func (yap "_law_marks" "_law_marks" (qG jm) (qy jm) (qe jm) .none kV0 dc0 pm0 an0 cd0 ct0),sl0⟩) (c0:yan K cd0 "_law_marks"=true) (k0:yaj K (.ref f0)=true)
  (a1:yak K yae "is_whole"=some (some (.ref f1))) (l1:K.lookup f1=some ⟨oc1,od1,.func (yap "is_whole" "is_whole" (qG y8) (qy y8) (qe y8) .none kV1 dc1 pm1 an1 cd1 ct1),sl1⟩) (c1:yan K cd1 "is_whole"=true) (k1:yaj K (.ref f1)=true)
  (a2:yak K yae "is_step"=some (some (.ref f2))) (l2:K.lookup f2=some ⟨oc2,od2,.func (yap "is_step" "is_step" (qG uN) (qy uN) (qe uN) .none kV2 dc2 pm2 an2 cd2 ct2),sl2⟩) (c2:yan K cd2 "is_step"=true) (k2:yaj K (.ref f2)=true)
  (a3:yak K yae "beating_order"=some (some (.ref f3))) (l3:K.lookup f3=some ⟨oc3,od3,.func (yap "beating_order" "beating_order" (qG zW) (qy zW) (qe zW) .none kV3 dc3 pm3 an3 cd3 ct3),sl3⟩) (c3:yan K cd3 "beating_order"=true) (k3:yaj K (.ref f3)=true)
  (a4:yak K yae "all_loads"=some (some (.ref f4))) (l4:K.lookup f4=some ⟨oc4,od4,.func (yap "all_loads" "all_loads" (qG jJ) (qy jJ) (qe jJ) .none kV4 dc4 pm4 an4 cd4 ct4),sl4⟩) (c4:yan K cd4 "all_loads"=true) (k4:yaj K (.ref f4)=true)
  (a5:yak K yae "taken_together"=some (some (.ref f5))) (l5:K.lookup f5=some ⟨oc5,od5,.func (yap "taken_together" "taken_together" (qG zu) (qy zu) (qe zu) .none kV5 dc5 pm5 an5 cd5 ct5),sl5⟩) (c5:yan K cd5 "taken_together"=true) (k5:yaj K (.ref f5)=true)
  (a6:yak K yae "all_weighed"=some (some (.ref f6))) (l6:K.lookup f6=some ⟨oc6,od6,.func (yap "all_weighed" "all_weighed" (qG z5) (qy z5) (qe z5) .none kV6 dc6 pm6 an6 cd6 ct6),sl6⟩) (c6:yan K cd6 "all_weighed"=true) (k6:yaj K (.ref f6)=true)
  (a7:yak K yae "not_beaten"=some (some (.ref f7))) (l7:K.lookup f7=some ⟨oc7,od7,.func (yap "not_beaten" "not_beaten" (qG jN) (qy jN) (qe jN) .none kV7 dc7 pm7 an7 cd7 ct7),sl7⟩) (c7:yan K cd7 "not_beaten"=true) (k7:yaj K (.ref f7)=true)
  (a8:yak K yae "second_half"=some (some (.ref f8))) (l8:K.lookup f8=some ⟨oc8,od8,.func (yap "second_half" "second_half" (qG jw) (qy jw) (qe jw) .none kV8 dc8 pm8 an8 cd8 ct8),sl8⟩) (c8:yan K cd8 "second_half"=true) (k8:yaj K (.ref f8)=true)
  (a9:yak K yae "first_half"=some (some (.ref f9))) (l9:K.lookup f9=some ⟨oc9,od9,.func (yap "first_half" "first_half" (qG jO) (qy jO) (qe jO) .none kV9 dc9 pm9 an9 cd9 ct9),sl9⟩) (c9:yan K cd9 "first_half"=true) (k9:yaj K (.ref f9)=true)
  (a10:yak K yae "need_single"=some (some (.ref f10))) (l10:K.lookup f10=some ⟨oc10,od10,.func (yap "need_single" "need_single" (qG zQ) (qy zQ) (qe zQ) .none kV10 dc10 pm10 an10 cd10 ct10),sl10⟩) (c10:yan K cd10 "need_single"=true) (k10:yaj K (.ref f10)=true)
  (a11:yak K yae "is_count"=some (some (.ref f11))) (l11:K.lookup f11=some ⟨oc11,od11,.func (yap "is_count" "is_count" (qG y9) (qy y9) (qe y9) .none kV11 dc11 pm11 an11 cd11 ct11),sl11⟩) (c11:yan K cd11 "is_count"=true) (k11:yaj K (.ref f11)=true)
  (a12:yak K yae "is_kind"=some (some (.ref f12))) (l12:K.lookup f12=some ⟨oc12,od12,.func (yap "is_kind" "is_kind" (qG uO) (qy uO) (qe uO) .none kV12 dc12 pm12 an12 cd12 ct12),sl12⟩) (c12:yan K cd12 "is_kind"=true) (k12:yaj K (.ref f12)=true)
  (a13:yak K yae "is_store"=some (some (.ref f13))) (l13:K.lookup f13=some ⟨oc13,od13,.func (yap "is_store" "is_store" (qG yi) (qy yi) (qe yi) .none kV13 dc13 pm13 an13 cd13 ct13),sl13⟩) (c13:yan K cd13 "is_store"=true) (k13:yaj K (.ref f13)=true)
  (a14:yak K yae "need_store"=some (some (.ref f14))) (l14:K.lookup f14=some ⟨oc14,od14,.func (yap "need_store" "need_store" (qG jn) (qy jn) (qe jn) .none kV14 dc14 pm14 an14 cd14 ct14),sl14⟩) (c14:yan K cd14 "need_store"=true) (k14:yaj K (.ref f14)=true)
  (a15:yak K yae "half_loads"=some (some (.ref f15))) (l15:K.lookup f15=some ⟨oc15,od15,.func (yap "half_loads" "half_loads" (qG jo) (qy jo) (qe jo) .none kV15 dc15 pm15 an15 cd15 ct15),sl15⟩) (c15:yan K cd15 "half_loads"=true) (k15:yaj K (.ref f15)=true)
  (a16:yak K yae "need_whole"=some (some (.ref f16))) (l16:K.lookup f16=some ⟨oc16,od16,.func (yap "need_whole" "need_whole" (qG jp) (qy jp) (qe jp) .none kV16 dc16 pm16 an16 cd16 ct16),sl16⟩) (c16:yan K cd16 "need_whole"=true) (k16:yaj K (.ref f16)=true)
  (a17:yak K yae "need_count"=some (some (.ref f17))) (l17:K.lookup f17=some ⟨oc17,od17,.func (yap "need_count" "need_count" (qG jq) (qy jq) (qe jq) .none kV17 dc17 pm17 an17 cd17 ct17),sl17⟩) (c17:yan K cd17 "need_count"=true) (k17:yaj K (.ref f17)=true)
  (a18:yak K yae "stair_for"=some (some (.ref f18))) (l18:K.lookup f18=some ⟨oc18,od18,.func (yap "stair_for" "stair_for" (qG jK) (qy jK) (qe jK) .none kV18 dc18 pm18 an18 cd18 ct18),sl18⟩) (c18:yan K cd18 "stair_for"=true) (k18:yaj K (.ref f18)=true)
  (a19:yak K yae "is_stair"=some (some (.ref f19))) (l19:K.lookup f19=some ⟨oc19,od19,.func (yap "is_stair" "is_stair" (qG jP) (qy jP) (qe jP) .none kV19 dc19 pm19 an19 cd19 ct19),sl19⟩) (c19:yan K cd19 "is_stair"=true) (k19:yaj K (.ref f19)=true)
  (a20:yak K yae "_law_said"=some (some (.ref f20))) (l20:K.lookup f20=some ⟨oc20,od20,.func (yap "_law_said" "_law_said" (qG yj) (qy yj) (qe yj) .none kV20 dc20 pm20 an20 cd20 ct20),sl20⟩) (c20:yan K cd20 "_law_said"=true) (k20:yaj K (.ref f20)=true)
  (a21:yak K yae "_law_take"=some (some (.ref f21))) (l21:K.lookup f21=some ⟨oc21,od21,.func (yap "_law_take" "_law_take" (qG yk) (qy yk) (qe yk) .none kV21 dc21 pm21 an21 cd21 ct21),sl21⟩) (c21:yan K cd21 "_law_take"=true) (k21:yaj K (.ref f21)=true)
  (a22:yak K yae "_law_bent"=some (some (.ref f22))) (l22:K.lookup f22=some ⟨oc22,od22,.func (yap "_law_bent" "_law_bent" (qG ym) (qy ym) (qe ym) .none kV22 dc22 pm22 an22 cd22 ct22),sl22⟩) (c22:yan K cd22 "_law_bent"=true) (k22:yaj K (.ref f22)=true)
  (a23:yak K yae "_law_truth"=some (some (.ref f23))) (l23:K.lookup f23=some ⟨oc23,od23,.func (yap "_law_truth" "_law_truth" (qG jQ) (qy jQ) (qe jQ) .none kV23 dc23 pm23 an23 cd23 ct23),sl23⟩) (c23:yan K cd23 "_law_truth"=true) (k23:yaj K (.ref f23)=true)
  (a24:yak K yae "_law_halves"=some (some (.ref f24))) (l24:K.lookup f24=some ⟨oc24,od24,.func (yap "_law_halves" "_law_halves" (qG jx) (qy jx) (qe jx) .none kV24 dc24 pm24 an24 cd24 ct24),sl24⟩) (c24:yan K cd24 "_law_halves"=true) (k24:yaj K (.ref f24)=true)
  (a25:yak K yae "_law_all_loads"=some (some (.ref f25))) (l25:K.lookup f25=some ⟨oc25,od25,.func (yap "_law_all_loads" "_law_all_loads" (qG zk) (qy zk) (qe zk) .none kV25 dc25 pm25 an25 cd25 ct25),sl25⟩) (c25:yan K cd25 "_law_all_loads"=true) (k25:yaj K (.ref f25)=true)
  (a26:yak K yae "_law_sum"=some (some (.ref f26))) (l26:K.lookup f26=some ⟨oc26,od26,.func (yap "_law_sum" "_law_sum" (qG ua) (qy ua) (qe ua) .none kV26 dc26 pm26 an26 cd26 ct26),sl26⟩) (c26:yan K cd26 "_law_sum"=true) (k26:yaj K (.ref f26)=true)
  (a27:yak K yae "_law_unbeaten"=some (some (.ref f27))) (l27:K.lookup f27=some ⟨oc27,od27,.func (yap "_law_unbeaten" "_law_unbeaten" (qG zq) (qy zq) (qe zq) .none kV27 dc27 pm27 an27 cd27 ct27),sl27⟩) (c27:yan K cd27 "_law_unbeaten"=true) (k27:yaj K (.ref f27)=true)
  (a28:yak K yae "_law_stair_gone"=some (some (.ref f28))) (l28:K.lookup f28=some ⟨oc28,od28,.func (yap "_law_stair_gone" "_law_stair_gone" (qG zo) (qy zo) (qe zo) .none kV28 dc28 pm28 an28 cd28 ct28),sl28⟩) (c28:yan K cd28 "_law_stair_gone"=true) (k28:yaj K (.ref f28)=true)
  (a29:yak K yae "_law_odd_thing"=some (some (.ref f29))) (l29:K.lookup f29=some ⟨oc29,od29,.func (yap "_law_odd_thing" "_law_odd_thing" (qG zN) (qy zN) (qe zN) .none kV29 dc29 pm29 an29 cd29 ct29),sl29⟩) (c29:yan K cd29 "_law_odd_thing"=true) (k29:yaj K (.ref f29)=true)
  (a30:yak K yae "_law_kind_of"=some (some (.ref f30))) (l30:K.lookup f30=some ⟨oc30,od30,.func (yap "_law_kind_of" "_law_kind_of" (qG jb) (qy jb) (qe jb) .none kV30 dc30 pm30 an30 cd30 ct30),sl30⟩) (c30:yan K cd30 "_law_kind_of"=true) (k30:yaj K (.ref f30)=true)
  (a31:yak K yae "_law_stocked"=some (some (.ref f31))) (l31:K.lookup f31=some ⟨oc31,od31,.func (yap "_law_stocked" "_law_stocked" (qG jc) (qy jc) (qe jc) .none kV31 dc31 pm31 an31 cd31 ct31),sl31⟩) (c31:yan K cd31 "_law_stocked"=true) (k31:yaj K (.ref f31)=true)
  (a32:yak K yae "_law_single_ones"=some (some (.ref f32))) (l32:K.lookup f32=some ⟨oc32,od32,.func (yap "_law_single_ones" "_law_single_ones" (qG zr) (qy zr) (qe zr) .none kV32 dc32 pm32 an32 cd32 ct32),sl32⟩) (c32:yan K cd32 "_law_single_ones"=true) (k32:yaj K (.ref f32)=true)
  (a33:yak K yae "_law_mix"=some (some (.ref f33))) (l33:K.lookup f33=some ⟨oc33,od33,.func (yap "_law_mix" "_law_mix" (qG ub) (qy ub) (qe ub) .none kV33 dc33 pm33 an33 cd33 ct33),sl33⟩) (c33:yan K cd33 "_law_mix"=true) (k33:yaj K (.ref f33)=true)
  (a34:yak K yae "_law_cell"=some (some (.ref f34))) (l34:K.lookup f34=some ⟨oc34,od34,.func (yap "_law_cell" "_law_cell" (qG yn) (qy yn) (qe yn) .none kV34 dc34 pm34 an34 cd34 ct34),sl34⟩) (c34:yan K cd34 "_law_cell"=true) (k34:yaj K (.ref f34)=true)
  (a35:yak K yae "_law_box"=some (some (.ref f35))) (l35:K.lookup f35=some ⟨oc35,od35,.func (yap "_law_box" "_law_box" (qG uc) (qy uc) (qe uc) .none kV35 dc35 pm35 an35 cd35 ct35),sl35⟩) (c35:yan K cd35 "_law_box"=true) (k35:yaj K (.ref f35)=true)
  (a36:yak K yae "law"=some (some (.ref f36))) (l36:K.lookup f36=some ⟨oc36,od36,.func (yap "law" "law" (qG qbL) (qy qbL) (qe qbL) .none kV36 dc36 pm36 an36 cd36 ct36),sl36⟩) (c36:yan K cd36 "law"=true) (k36:yaj K (.ref f36)=true)
  (zb_ValueError:yak K yae "ValueError"=some none)
  (zb_abs:yak K yae "abs"=some none)
  (zb_all:yak K yae "all"=some none)
  (zb_bool:yak K yae "bool"=some none)
  (zb_divmod:yak K yae "divmod"=some none)
  (zb_int:yak K yae "int"=some none)
  (zb_isinstance:yak K yae "isinstance"=some none)
  (zb_len:yak K yae "len"=some none)
  (zb_list:yak K yae "list"=some none)
  (zb_max:yak K yae "max"=some none)
  (zb_min:yak K yae "min"=some none)
  (zb_range:yak K yae "range"=some none)
  (zb_repr:yak K yae "repr"=some none)
  (zb_sorted:yak K yae "sorted"=some none)
  (zb_sum:yak K yae "sum"=some none)
  (zb_tuple:yak K yae "tuple"=some none)
  (zb_zip:yak K yae "zip"=some none)
  (xz:qpE K RN TN=true)
  (zg_KINDS_AT_MOST:yak K yae "KINDS_AT_MOST"=some (some (.int 12 tk_KINDS_AT_MOST)))
  (zg_LOAD:yak K yae "LOAD"=some (some (.int 2 tk_LOAD)))
  (zg_MOST:yak K yae "MOST"=some (some (.int 2 tk_MOST)))
  (zg_WEIGHT:yak K yae "WEIGHT"=some (some (.int 0 tk_WEIGHT)))
  (zg_WORTH:yak K yae "WORTH"=some (some (.int 1 tk_WORTH))) :
  ∃fd:yaS,(∀(s:yab)(v:Value),ydW s fd ⟨[v],[]⟩ [("script",v)])/\∀base:Heap,K.In base->base.Ns yae mg->vp l.prog w K mg base CX0 10 fa fd ["script"] (spD K qe1):=by
 have e:=hfa.symm.trans (yao X G a36)
 cases e
 have T:Txt K mg:=⟨yaD X G zb_ValueError,yaD X G zb_abs,yaD X G zb_all,yaD X G zb_bool,yaD X G zb_divmod,yaD X G zb_int,yaD X G zb_isinstance,yaD X G zb_len,yaD X G zb_list,yaD X G zb_max,yaD X G zb_min,yaD X G zb_range,yaD X G zb_repr,yaD X G zb_sorted,yaD X G zb_sum,yaD X G zb_tuple,yaD X G zb_zip,⟨_,yao X G zg_KINDS_AT_MOST⟩,⟨_,yao X G zg_LOAD⟩,⟨_,yao X G zg_MOST⟩,⟨_,yao X G zg_WEIGHT⟩,⟨_,yao X G zg_WORTH⟩⟩
 refine⟨yap "law" "law" (qG qbL) (qy qbL) (qe qbL) .none kV36 dc36 pm36 an36 cd36 ct36,λs v => .of_eq rfl,λbase hB _=>?_⟩
 have XTt:XT K mg RN TN:=⟨xz,qjN X G⟩
 have C__law_marks:=q0 (P:=l.prog) (w:=w) (base:=base) (zm (st:=jm) l0 c0 k0) (yao X G a0) T XTt hB
 have C_is_whole:=q1 (P:=l.prog) (w:=w) (base:=base) (zm (st:=y8) l1 c1 k1) (yao X G a1) T XTt hB
 have C_is_step:=q2 (P:=l.prog) (w:=w) (base:=base) (zm (st:=uN) l2 c2 k2) (yao X G a2) T XTt hB C_is_whole
 have C_beating_order:=q3 (P:=l.prog) (w:=w) (base:=base) (zm (st:=zW) l3 c3 k3) (yao X G a3) T XTt hB
 have C_all_loads:=q4 (P:=l.prog) (w:=w) (base:=base) (zm (st:=jJ) l4 c4 k4) (yao X G a4) T XTt hB
 have C_taken_together:=q5 (P:=l.prog) (w:=w) (base:=base) (zm (st:=zu) l5 c5 k5) (yao X G a5) T XTt hB
 have C_all_weighed:=q6 (P:=l.prog) (w:=w) (base:=base) (zm (st:=z5) l6 c6 k6) (yao X G a6) T XTt hB C_all_loads C_taken_together
 have C_not_beaten:=q7 (P:=l.prog) (w:=w) (base:=base) (zm (st:=jN) l7 c7 k7) (yao X G a7) T XTt hB C_beating_order C_all_weighed
 have C_second_half:=q8 (P:=l.prog) (w:=w) (base:=base) (zm (st:=jw) l8 c8 k8) (yao X G a8) T XTt hB
 have C_first_half:=q9 (P:=l.prog) (w:=w) (base:=base) (zm (st:=jO) l9 c9 k9) (yao X G a9) T XTt hB
 have C_need_single:=q10 (P:=l.prog) (w:=w) (base:=base) (zm (st:=zQ) l10 c10 k10) (yao X G a10) T XTt hB
 have C_is_count:=q11 (P:=l.prog) (w:=w) (base:=base) (zm (st:=y9) l11 c11 k11) (yao X G a11) T XTt hB C_is_whole
 have C_is_kind:=q12 (P:=l.prog) (w:=w) (base:=base) (zm (st:=uO) l12 c12 k12) (yao X G a12) T XTt hB C_is_count
 have C_is_store:=q13 (P:=l.prog) (w:=w) (base:=base) (zm (st:=yi) l13 c13 k13) (yao X G a13) T XTt hB C_is_kind
 have C_need_store:=q14 (P:=l.prog) (w:=w) (base:=base) (zm (st:=jn) l14 c14 k14) (yao X G a14) T XTt hB C_is_store
 have C_half_loads:=q15 (P:=l.prog) (w:=w) (base:=base) (zm (st:=jo) l15 c15 k15) (yao X G a15) T XTt hB C_not_beaten C_second_half C_first_half C_need_single C_need_store
 have C_need_whole:=q16 (P:=l.prog) (w:=w) (base:=base) (zm (st:=jp) l16 c16 k16) (yao X G a16) T XTt hB C_is_whole
 have C_need_count:=q17 (P:=l.prog) (w:=w) (base:=base) (zm (st:=jq) l17 c17 k17) (yao X G a17) T XTt hB C_is_count
 have C_stair_for:=q18 (P:=l.prog) (w:=w) (base:=base) (zm (st:=jK) l18 c18 k18) (yao X G a18) T XTt hB C_half_loads C_need_whole C_need_count C_need_store
 have C_is_stair:=q19 (P:=l.prog) (w:=w) (base:=base) (zm (st:=jP) l19 c19 k19) (yao X G a19) T XTt hB C_is_step C_stair_for
 have C__law_said:=q20 (P:=l.prog) (w:=w) (base:=base) (zm (st:=yj) l20 c20 k20) (yao X G a20) T XTt hB C__law_marks C_is_stair
 have C__law_take:=q21 (P:=l.prog) (w:=w) (base:=base) (zm (st:=yk) l21 c21 k21) (yao X G a21) T XTt hB
 have C__law_bent:=q22 (P:=l.prog) (w:=w) (base:=base) (zm (st:=ym) l22 c22 k22) (yao X G a22) T XTt hB C__law_take
 have C__law_truth:=q23 (P:=l.prog) (w:=w) (base:=base) (zm (st:=jQ) l23 c23 k23) (yao X G a23) T XTt hB
 have C__law_halves:=q24 (P:=l.prog) (w:=w) (base:=base) (zm (st:=jx) l24 c24 k24) (yao X G a24) T XTt hB
 have C__law_all_loads:=q25 (P:=l.prog) (w:=w) (base:=base) (zm (st:=zk) l25 c25 k25) (yao X G a25) T XTt hB
 have C__law_sum:=q26 (P:=l.prog) (w:=w) (base:=base) (zm (st:=ua) l26 c26 k26) (yao X G a26) T XTt hB
 have C__law_unbeaten:=q27 (P:=l.prog) (w:=w) (base:=base) (zm (st:=zq) l27 c27 k27) (yao X G a27) T XTt hB C__law_all_loads C__law_sum
 have C__law_stair_gone:=q28 (P:=l.prog) (w:=w) (base:=base) (zm (st:=zo) l28 c28 k28) (yao X G a28) T XTt hB C__law_halves C__law_unbeaten
 have C__law_odd_thing:=q29 (P:=l.prog) (w:=w) (base:=base) (zm (st:=zN) l29 c29 k29) (yao X G a29) T XTt hB C__law_take
 have C__law_kind_of:=q30 (P:=l.prog) (w:=w) (base:=base) (zm (st:=jb) l30 c30 k30) (yao X G a30) T XTt hB C__law_take
 have C__law_stocked:=q31 (P:=l.prog) (w:=w) (base:=base) (zm (st:=jc) l31 c31 k31) (yao X G a31) T XTt hB C__law_take C__law_kind_of
 have C__law_single_ones:=q32 (P:=l.prog) (w:=w) (base:=base) (zm (st:=zr) l32 c32 k32) (yao X G a32) T XTt hB C__law_stocked C__law_take
 have C__law_mix:=q33 (P:=l.prog) (w:=w) (base:=base) (zm (st:=ub) l33 c33 k33) (yao X G a33) T XTt hB
 have C__law_cell:=q34 (P:=l.prog) (w:=w) (base:=base) (zm (st:=yn) l34 c34 k34) (yao X G a34) T XTt hB
 have C__law_box:=q35 (P:=l.prog) (w:=w) (base:=base) (zm (st:=uc) l35 c35 k35) (yao X G a35) T XTt hB C__law_mix C__law_cell
 exact qoW (P:=l.prog) (w:=w) (base:=base) (zm (st:=qbL) l36 c36 k36) T XTt hB C__law_said C__law_take C__law_bent C__law_truth C_is_stair C_stair_for C__law_stair_gone C__law_sum C__law_odd_thing C__law_single_ones C__law_box
theorem qp6 {K:Fr0} {H:Hp} {a:Addr} {ns:List Int} (hO:qoY H) (hS:SqL K H a (ns.map V.int)):qnB K H a (ns.map V.int):=by
 rcases hS with(h|h)|h
 ·rcases hO a with z|z
  ·rw[h]at z;cases z
  ·rcases z with⟨_,_,z⟩|⟨_,_,z⟩<;>(rw[h]at z;cases z)
 ·exact .inl h
 ·exact .inr h
theorem walk {l:yeh} {q:yas} {loose:List Str} {XP:(Str->Option Value)->Heap->Prop} {YP:World->Heap->Prop} {d:DefRec} {K:Params->yaf} (hn:l.most=some 63) (hdf:d.params.defaults=[])
  (hY:∀(w:World)(h:Heap),YP w h->(K w.params).In h) (hlm:∀(w:World)(mean:ExcName->Option Value)(mg mb:Str->Option Value)(h:Heap)(c Pt:Addr)(pos:Pos),Top q (PySem.W.looseW q loose) mean mg mb h->(K w.params).In h->lamOf (K w.params)=some (c,Pt,pos)->yeu h c Pt/\h.get? Pt=some (yev #[])/\(K w.params).lookup Pt=none) (hlaw:∀ns:List Int,ns.length<=63->qe1 [.fz ns]=.ok (.bl true))
  (F:∀(w:World)(mg:Str->Option Value)(fa:Addr)(h:Heap),(K w.params).In h->h.Ns yae mg->mg d.name=some (.ref fa) ->
   ∃fd:yaS,(∀(s:yab)(u:Value),ydW s fd ⟨[u],[]⟩ [("script",u)])/\∀base:Heap,(K w.params).In base->base.Ns yae mg->vp l.prog w (K w.params) mg base CX0 10 fa fd ["script"] (spD (K w.params) qe1)) :
  PySem.W.WalkO q loose XP YP l.row.toRowW d [] (λf vs=>yfQ f vs) :=
 L2.walk_lam (n:=63) (k:=10) (x:="script") (CX:=λ_=>CX0) (sp:=λw=>spD (K w.params) qe1) (lm:=λw=>(lamOf (K w.params)).map λz=>(z.1,z.2.1,z.2.2,qpA)) hn (by decide) hdf ⟨rfl,by decide,by decide,rfl⟩ hY (λw mean mg mb h c Pt pos z T X e=>by
  cases el:lamOf (K w.params) with
  |none=>rw[el]at e;cases e
  |some p=>obtain⟨c',P',pos'⟩:=p;rw[el]at e;cases e;exact hlm w mean mg mb h _ _ _ T X el) F (λw H a ns hl hO hT hS=>by
  refine⟨[.fz ns],λ_=>False,⟨.ref a,[],rfl,⟨a,rfl,qp6 hO hS⟩,rfl⟩,λc P pos e=>⟨hT c P pos qpA (by rw[e];rfl),λz=>z⟩,?_⟩
  rw[hlaw ns hl]
  exact λv H' _ h=>h) λ_ _ _ _ _ z=>z
end Law
end L2.Sk
open PySem PySem.W PyProof.Rows
set_option maxRecDepth 100000 in
set_option maxHeartbeats 0 in
theorem PySem.Challenge.cw_sackloads_k18_stairs_of_loads_holds : PySem.Challenge.rw_sackloads_k18_stairs_of_loads.Holds := by
 w_on;o_law;k_head;(case hw=>w_witness2)
 k_fill
 refine L2.Sk.Law.walk (l:=PySem.Challenge.rw_sackloads_k18_stairs_of_loads) rfl rfl (λw h Y=>by first|exact PySem.W.kIn_of Y|exact PySem.W.km_in_of Y) ?hlm0 L2.Sk.Law.law_true ?F
 case hlm0=>
  intro w mean mg mb h c Pt pos T X e
  exact absurd ((show L2.Sk.lamOf _=none by kernel_rfl).symm.trans e) (by simp)
 case F=>
  intro w mg fa h KX G hmg
  refine' L2.Sk.Law.all_mk KX G hmg ?a0 ?l0 ?c0 ?k0 ?a1 ?l1 ?c1 ?k1 ?a2 ?l2 ?c2 ?k2 ?a3 ?l3 ?c3 ?k3 ?a4 ?l4 ?c4 ?k4 ?a5 ?l5 ?c5 ?k5 ?a6 ?l6 ?c6 ?k6 ?a7 ?l7 ?c7 ?k7 ?a8 ?l8 ?c8 ?k8 ?a9 ?l9 ?c9 ?k9 ?a10 ?l10 ?c10 ?k10 ?a11 ?l11 ?c11 ?k11 ?a12 ?l12 ?c12 ?k12 ?a13 ?l13 ?c13 ?k13 ?a14 ?l14 ?c14 ?k14 ?a15 ?l15 ?c15 ?k15 ?a16 ?l16 ?c16 ?k16 ?a17 ?l17 ?c17 ?k17 ?a18 ?l18 ?c18 ?k18 ?a19 ?l19 ?c19 ?k19 ?a20 ?l20 ?c20 ?k20 ?a21 ?l21 ?c21 ?k21 ?a22 ?l22 ?c22 ?k22 ?a23 ?l23 ?c23 ?k23 ?a24 ?l24 ?c24 ?k24 ?a25 ?l25 ?c25 ?k25 ?a26 ?l26 ?c26 ?k26 ?a27 ?l27 ?c27 ?k27 ?a28 ?l28 ?c28 ?k28 ?a29 ?l29 ?c29 ?k29 ?a30 ?l30 ?c30 ?k30 ?a31 ?l31 ?c31 ?k31 ?a32 ?l32 ?c32 ?k32 ?a33 ?l33 ?c33 ?k33 ?a34 ?l34 ?c34 ?k34 ?a35 ?l35 ?c35 ?k35 ?a36 ?l36 ?c36 ?k36 ?zb_ValueError ?zb_abs ?zb_all ?zb_bool ?zb_divmod ?zb_int ?zb_isinstance ?zb_len ?zb_list ?zb_max ?zb_min ?zb_range ?zb_repr ?zb_sorted ?zb_sum ?zb_tuple ?zb_zip ?xz ?zg_KINDS_AT_MOST ?zg_LOAD ?zg_MOST ?zg_WEIGHT ?zg_WORTH
  (case a0=>k_is)
  (case l0=>k_is)
  (case c0=>k_is)
  (case k0=>k_is)
  (case a1=>k_is)
  (case l1=>k_is)
  (case c1=>k_is)
  (case k1=>k_is)
  (case a2=>k_is)
  (case l2=>k_is)
  (case c2=>k_is)
  (case k2=>k_is)
  (case a3=>k_is)
  (case l3=>k_is)
  (case c3=>k_is)
  (case k3=>k_is)
  (case a4=>k_is)
  (case l4=>k_is)
  (case c4=>k_is)
  (case k4=>k_is)
  (case a5=>k_is)
  (case l5=>k_is)
  (case c5=>k_is)
  (case k5=>k_is)
  (case a6=>k_is)
  (case l6=>k_is)
  (case c6=>k_is)
  (case k6=>k_is)
  (case a7=>k_is)
  (case l7=>k_is)
  (case c7=>k_is)
  (case k7=>k_is)
  (case a8=>k_is)
  (case l8=>k_is)
  (case c8=>k_is)
  (case k8=>k_is)
  (case a9=>k_is)
  (case l9=>k_is)
  (case c9=>k_is)
  (case k9=>k_is)
  (case a10=>k_is)
  (case l10=>k_is)
  (case c10=>k_is)
  (case k10=>k_is)
  (case a11=>k_is)
  (case l11=>k_is)
  (case c11=>k_is)
  (case k11=>k_is)
  (case a12=>k_is)
  (case l12=>k_is)
  (case c12=>k_is)
  (case k12=>k_is)
  (case a13=>k_is)
  (case l13=>k_is)
  (case c13=>k_is)
  (case k13=>k_is)
  (case a14=>k_is)
  (case l14=>k_is)
  (case c14=>k_is)
  (case k14=>k_is)
  (case a15=>k_is)
  (case l15=>k_is)
  (case c15=>k_is)
  (case k15=>k_is)
  (case a16=>k_is)
  (case l16=>k_is)
  (case c16=>k_is)
  (case k16=>k_is)
  (case a17=>k_is)
  (case l17=>k_is)
  (case c17=>k_is)
  (case k17=>k_is)
  (case a18=>k_is)
  (case l18=>k_is)
  (case c18=>k_is)
  (case k18=>k_is)
  (case a19=>k_is)
  (case l19=>k_is)
  (case c19=>k_is)
  (case k19=>k_is)
  (case a20=>k_is)
  (case l20=>k_is)
  (case c20=>k_is)
  (case k20=>k_is)
  (case a21=>k_is)
  (case l21=>k_is)
  (case c21=>k_is)
  (case k21=>k_is)
  (case a22=>k_is)
  (case l22=>k_is)
  (case c22=>k_is)
  (case k22=>k_is)
  (case a23=>k_is)
  (case l23=>k_is)
  (case c23=>k_is)
  (case k23=>k_is)
  (case a24=>k_is)
  (case l24=>k_is)
  (case c24=>k_is)
  (case k24=>k_is)
  (case a25=>k_is)
  (case l25=>k_is)
  (case c25=>k_is)
  (case k25=>k_is)
  (case a26=>k_is)
  (case l26=>k_is)
  (case c26=>k_is)
  (case k26=>k_is)
  (case a27=>k_is)
  (case l27=>k_is)
  (case c27=>k_is)
  (case k27=>k_is)
  (case a28=>k_is)
  (case l28=>k_is)
  (case c28=>k_is)
  (case k28=>k_is)
  (case a29=>k_is)
  (case l29=>k_is)
  (case c29=>k_is)
  (case k29=>k_is)
  (case a30=>k_is)
  (case l30=>k_is)
  (case c30=>k_is)
  (case k30=>k_is)
  (case a31=>k_is)
  (case l31=>k_is)
  (case c31=>k_is)
  (case k31=>k_is)
  (case a32=>k_is)
  (case l32=>k_is)
  (case c32=>k_is)
  (case k32=>k_is)
  (case a33=>k_is)
  (case l33=>k_is)
  (case c33=>k_is)
  (case k33=>k_is)
  (case a34=>k_is)
  (case l34=>k_is)
  (case c34=>k_is)
  (case k34=>k_is)
  (case a35=>k_is)
  (case l35=>k_is)
  (case c35=>k_is)
  (case k35=>k_is)
  (case a36=>k_is)
  (case l36=>k_is)
  (case c36=>k_is)
  (case k36=>k_is)
  (case zb_ValueError=>k_is)
  (case zb_abs=>k_is)
  (case zb_all=>k_is)
  (case zb_bool=>k_is)
  (case zb_divmod=>k_is)
  (case zb_int=>k_is)
  (case zb_isinstance=>k_is)
  (case zb_len=>k_is)
  (case zb_list=>k_is)
  (case zb_max=>k_is)
  (case zb_min=>k_is)
  (case zb_range=>k_is)
  (case zb_repr=>k_is)
  (case zb_sorted=>k_is)
  (case zb_sum=>k_is)
  (case zb_tuple=>k_is)
  (case zb_zip=>k_is)
  (case xz=>kernel_rfl)
  (case zg_KINDS_AT_MOST=>k_is)
  (case zg_LOAD=>k_is)
  (case zg_MOST=>k_is)
  (case zg_WEIGHT=>k_is)
  (case zg_WORTH=>k_is)
