import PyProof.Rows.All
import Wide.All
import OpenK.AllK
import Wide.FinOn
import Lean
import PyProof.EqAt
import PyProof.EqKinds
import PyProof.TupleCall
import KE.KUnpack
import PySem.Challenge.RW_sackloads_k44_rest_papers
open PySem renaming wpAny_bind→yaa,Shared→yab,wpAny_pure→yac,mainGlobals→yaf,starEach→yah,sizeLine→yai,Program→yan,Around→yav,bootBuiltins→yaA,wpAny_field→yaE,wpAny_newObj_type→yaK,argBest→yaL,backTo→yaX,FuncData→yaZ,wpAny_holding→ya0,wpAny_seqItems→ya2,binaryOp→ya8,compareOp→ybg,sysModules→ybh,wpAny_mono→ybi,IsPair→ybn,wpAny_truthy_bool→ybr,foldedSetIterable→ybs,assignEach→ybw,wpAny_setField_rec→ybz,wpAny_loadPart'→ybC,behindInMarks→ybH,mem_of_lookup→ybI,wpAny_call_entry→ybL,call_meets→ybM,wpAny_passesOwn→ybQ,codeAny→ybR,wpAny_pyIter_list→ybV,wpAny_binaryOp_repeat_ref→ybW,sizeLine_eq→ybY,holding→ybZ,Builtin→yb0,getItem→yb1,assign→yb3,rawInt→ycb,builtinsNs→ycc,typeIs_int→yce,codeAny_builtin→ycg,wpAny_pyIter_tuple→ych,wpAny_updateSeq→yci,sliceBounds→ycm,wpAny_letGo→ycn,swapsWithSole→yct,swappedStores→ycu,plainId_quiet→ycw,Keyword→ycy,letOwnedTupleGo→ycF,swapsWith→ycK,wpAny_Call_Name_kw→ycL,IsPart→ycN,intItems→ycS,wpAny_pyIter_enum→ycX,not_mem_of_deeper→ycY,pyNext→yc0,wpAny_standAt→yc8,attributeBase→yc9,NameKind→ydc,Env→ydk,ofString_length→ydm,wpAny_execs_nil→ydo,wpAny_rule→ydp,wpAny_typeOf→ydq,wpAny_updateSeq_pair→yds,int_text_length_le10→ydv,recursionLimit→ydz,wpAny_tryCatch→ydD,keywordEach→ydE,tupleKind→ydG,wpAny_Constant_int→ydH,tupleKind_room_in1→ydP,wpAny_onRaise→ydW,wpAny_letOwnedTupleGo_enum→ydX,wpAny_sequenceKey→yd4,sizeLine_eq→yd7,BindsTo→yef,callerA→yeg,valueAt→yeh,wpAny_eqBool_int→yei,Result→yek,codeAny_mono→yel,noFill_tuple_add→yem,wpAny_getItem_list_slice→yen,wpAny_comprehension_free→yeo,wpAny_pyNext_enum_itemD→yeC,PassesOwn→yeJ,wpAny_specialOf→yeN,subscripted→yeR,codeAny_compStart_list→yeU,wpAny_pyNext_enum_endD→yeW,intItems_at→yeX,wpAny_isTrue_Compare1→ye1,standAt→ye2,setItem→ye3,wpAny_newTuple→ye8,builtinLookup_eq_fast→yfe,typeLookup→yfh,backToKw→yfj,codeAny_call_builtin→yfm,compEnvC→yfn,wpAny_newFunctionEnv→yfo,assignInOrder→yfw,seq_tuple_add→yfx,evalPart_none→yfz,nums_intItems→yfB,Paired→yfH,cellsFrom→yfL,Arguments→yfM,concat_meets→yfO,seqIndex_neg→yfR,slicePick→yfS,Fin→yfW,intKind→yf1,wpAny_assign_Name→yf2,richCompare→yge,seqIndex_of→ygf,bindName→ygh,compPost→ygi,ReadsAll→ygj,wpAny_Name→ygk,call→ygl,sliceRange→ygm
open Nat renaming le_refl→yad,ne_of_lt→yao,lt_of_lt_of_le→yaw,le_trans→yay,zero_le→yaF,mod_lt→yba,zero_add→ybc,lt_irrefl→ybo,lt_of_le_of_lt→ybN,ne_of_gt→yb4,mul_comm→yb8,mod_add_mod→ycj,not_lt_zero→ycJ,succ_mul→ycQ,log2_lt→yc1,add_mul→yc7,le_of_not_lt→yde,min_eq_left→ydt,reduceAdd→yd1,lt_succ_of_lt→yd8,le_of_lt→yej,min_eq_right→yep,lt_trans→yes,succ_ne_self→yet,le_max_right→yex,exists_eq_add_of_le→yeD,le_max_left→yeO,mul_le_mul_right→yfr,pow_le_pow_right→yfu,le_succ→ygg
open PySem.Heap renaming lt_size→yae,size_push→ybA,SameBut→yb2,size_update→ydg
open PySem.Value renaming ref→yag,none→yaQ,bool→ybp,type→yca,int→ycq,builtin→yda,str→yfG,isInt→ygc
open PySem.W renaming nsIn→yaj,keepIn→yak,Frag→yal,mg_of→yaq,codeIn→yar,fnOf→yat,mg_none_of→yaD,kia_one→yaT,findIn→ybJ,methodObj→yd2,kitx_list→yd3,kat_cons→yev,instObj→yeI,OpenLaw→yeL,kat_yes→yeM,cellsFrom_some→yeQ,lookIn→ye4,kitOne→ye5,CodeHd→ye6,tabObj→ye7,kat_no→yfd,kitx_tuple→yfJ,callWith_K→yfK,specialIn→yf4,kitx_dict→yf5
open Bool renaming and_eq_true→yam,false_ne_true→yas,false_eq_true→yaP,and_self→yaR,true_and→yaS,false_and→ybe,eq_iff_iff→ycd,or_eq_true→ycH,not_eq_true'→yd9,true_or→yfY
open List renaming range→yap,replicate→yau,mem_cons→yax,length_singleton→yaM,all_cons→ya3,lookup_cons→ya5,length_replicate→ybl,mem_of_getElem?→ybq,flatten_cons→ybG,length_take→ybK,set_cons_zero→ybP,append_nil→ybS,length_drop→yb6,filterMap_cons→yb9,nil_append→ycf,getElem_mem→ycr,length_reverse→ycC,mem_map_of_mem→ycE,forIn_cons→ycI,filterMap_map→ycO,map_nil→ycP,reverse_cons→ycV,drop_of_length_le→yc4,range_succ_eq_map→yc6,countP_cons→ydf,mem_append_left→ydn,mem_of_mem_drop→ydw,map_append→ydx,forIn_nil→ydC,set_cons_succ→ydQ,mem_singleton→ydR,any_cons→ydY,sum_cons→ydZ,append_assoc→yd5,all_eq_false→yea,foldl_append→yeb,mem_or_eq_of_mem_set→yed,all_map→yey,map_id'→yeA,of_mem_zip→yeK,take_of_length_le→yeY,drop_eq_nil_of_le→ye0,mem_iff_getElem?→ye9,countP_mono_left→yfc,foldl→yfl,getElem_toArray→yfq,mem_of_mem_take→yfs,zip_cons_cons→yfN,map_set→yf0,flatMap_cons→ygb
open Option.some renaming inj→yaz
open PySem.Builtin.SmallTypes renaming nextOf→yaB,ownedTupleIsFree→yaC,ownedTupleHandOut→ycR
open PySem.PyData renaming depthAll→yaG,showableAll→yaI,eqv→ya4,depth→ybd,shownAll→ybj,canLayAll0→ybt,showable→ybv,shown→ybO,canLay0→ycp,leavesShortAll→yff,leavesShort→yfZ,hasDictAll→yf9
open PySem.PassesOwn renaming never→yaH
open PySem.Obj renaming mapSeq→yaJ,data_mapFields→yfT
open Or renaming inr→yaN,inl→ya7
open Sum renaming inl→yaO,inr→yee
open PySem.Builtin.Tuple renaming tupleExact→yaU,tupleItemsOf→ycv,tupleIsExact→ydV
open PySem.AutoSeq1 renaming wpAny_loadPart'→yaV,sub_tuple_tuple→yb5,idx_int→yeq
open Int renaming toNat_natCast→yaW,emod_lt_of_pos→ybB,natCast_mul→ybF,emod_nonneg→yck,natAbs_natCast→ycl,toNat_of_nonneg→ycB,neg_mul→ydF,fdiv_eq_ediv_of_nonneg→ydT,fmod_eq_emod_of_nonneg→ydU,eq_of_mul_eq_mul_right→yd0,le_trans→yeu,mul_ediv_cancel_left→yez,eq_ofNat_of_zero_le→yeH,mul_lt_mul_right→yft,ediv_one→yfP,mul_left_comm→yga
open PyProof.Rows renaming slot_tuple_getitem→yaY,callWith_type1→ybu,IntsAre→yby,kindOf→yco,tuples'→ycs,AllBare→ycx,seqObj→ycT,envOfC→yc2,entry_tuple_getitem→ydy,slicePart_none→ydA,assignInOrder_cons→ydI,args_tuple_getitem→ydK,boot_enumerate→ydN,subscriptTail_builtinR→yeS,Subscript_→yfi,tupleItemsOf_→yfy,subscriptTail→yfA,listUpdate_at→yfC,keyLt'→yfE,assignInOrder_nil→yf3
open PySem.NameKind renaming free→ya1,cell→ydb
open PySem.Builtin.Slice renaming slicePlaces→ya6,sliceApplied→ybT,sliceAdjust→ycG,sliceFields→yec
open False renaming elim→ya9
open PySem.Str renaming ofString→ybb
open PySem.F renaming plain_min_loop→ybf,slot_int_rmul→ybD,slot_tuple_iterator_next→ybU,plain_extend_loop→ycD,args_tuple_add_2→ycM,entry_tuple_add→ycU,args_int_rmul_2→ycW,slot_tuple_add→yc3,entry_min_loop→yc5,entry_int_rmul→ydd,typeOf_object_class→ydj,slot_dict_get→ydl,fills_int_mul→ydr,slot_zip_next→ydu,args_tuple_iterator_next_1→ydB,entry_tuple_iterator_next→ydL,args_tuple_mul_2→ydM,entry_tuple_mul→yd6,slot_tuple_mul→yer,plainAttrs_list→yeB,slot_list_index→yeE,args_dict_get_3→yeG,typeCall_enumerate_1→yeV,entry_dict_get→yeZ,newCall_enumerate_1→yfa,entry_enumerate_new→yfb,args_object_init_2→yfp,entry_extend_loop→yfF,called_enumerate→yfU,args_zip_next_1→yf8
open Ne renaming symm→ybk
open ToString renaming toString→ybm
open True renaming intro→ybx
open ForInStep renaming yield→ybE
open PySem.Around renaming under_plainId→ybX
open PySem.Builtin.List renaming listTooLong→yb7,listExtendWith→ydO,listSameRef→yew,listUpdate→yeF
open Array renaming length_toList→ycz,forIn_toList→yfX
open PySem.Heap.SameBut renaming update→ycA,refl→yf7
open Function renaming comp_def→ycZ
open PyProof.Rows.IsTup renaming new→ydh
open LawfulBEq renaming eq_of_beq→ydi
open PySem.Calls renaming spliced_cons→ydJ,Name_function_global→ydS,callWith_builtin→yeT,evalArgs_plain→yfk,Constant_str→yfI,spliced_nil→yf6
open Option renaming map_some→yeP
open Prod renaming ext→yfg
open PySem.Paired renaming length→yfv
open PySem.Builtin.Int renaming intBits→yfD
open PySem.Heap.IsSliceOf renaming new→yfQ
open PySem.SeqAt renaming readOf→yfV
open PySem.Data renaming fields→ygd
def PySem.W.Fast.tw5686804452330457707 : Nat := 0
def PySem.W.Fast.tw5764673990199327741 : Nat := 0
def PySem.W.Fast.tw6404188094770027063 : Nat := 0
def PySem.W.Fast.tw15500780091545371990 : Nat := 0
def PySem.W.Fast.tw16077329033100454044 : Nat := 0
set_option linter.all false
set_option Elab.async false
set_option maxRecDepth 100000
open List renaming mem_cons_of_mem → mM, mem_cons_self → mS_, getElem?_eq_getElem → gG, length_cons → lC_, length_map → lM_, length_append → lA_, getElem?_map → gM_, map_cons → mC_, mem_append → mA_, length_range → lR_, length_nil → lN_, size_toArray → sT_, mem_range → mR_, mem_map → mP_, map_map → mm_, replicate_succ → rS_, length_set → lS_, not_mem_nil → nN_, map_congr_left → mL_, getElem?_eq_some_iff → gI_, foldl_cons → fo_, mem_append_right → mr_, filter_cons → ft_
namespace L2
open PySem PySem.Spec PyProof.Rows
abbrev Key:=Sum Int Str
def qcf:Key->Value->Bool
 |.inl k,v=>ygc k v
 |.inr x,v=>Value.isStrOf x v
def qpI (w:World):Key->Int
 |.inl k=>hashInt k
 |.inr x=>hashStr w x
theorem zr:∀{k:Key}{v:Value},qcf k v=true->(∃i t,k=yaO i/\v=ycq i t)\/(∃x t,k=yee x/\v=yfG x t)
 |.inl i,v,h=>by
  obtain⟨t,e⟩:=Value.isInt_shape (k:=i) (v:=v) h
  exact .inl ⟨i,t,rfl,e⟩
 |.inr x,v,h=>by
  obtain⟨t,e⟩:=Value.isStrOf_shape (x:=x) (v:=v) h
  exact .inr ⟨x,t,rfl,e⟩
theorem qcg(i:Int)(t:Tok):qcf (.inl i) (.int i t)=true:=by simp[qcf,ygc]
theorem qch(x:Str)(t:Tok):qcf (.inr x) (.str x t)=true:=by simp[qcf,Value.isStrOf]
theorem ql2 (a b:Int):decide ((yaO a:Key)=yaO b)=(a==b):=by
 by_cases e:a=b
 ·subst e;simp
 ·have h:¬(yaO a:Key)=yaO b:=λq=>e (Sum.inl.inj q)
  rw[decide_eq_false h]
  exact(beq_eq_false_iff_ne.mpr e).symm
theorem ql3 (a b:Str):decide ((yee a:Key)=yee b)=decide (a=b):=by
 by_cases e:a=b
 ·subst e;simp
 ·have h:¬(yee a:Key)=yee b:=λq=>e (Sum.inr.inj q)
  rw[decide_eq_false h,decide_eq_false e]
theorem ql4(a:Int)(b:Str):decide ((yaO a:Key)=yee b)=false:=decide_eq_false (λq=>nomatch q)
theorem ql5(a:Str)(b:Int):decide ((yee a:Key)=yaO b)=false:=decide_eq_false (λq=>nomatch q)
def zA (prog:yan) (w:World):PySem.KeyKind prog w Key where
 is:=qcf
 hash:=qpI w
 inj:=λv a b ha hb=>by
  rcases zr ha with⟨i,t,rfl,rfl⟩|⟨x,t,rfl,rfl⟩
  ·rcases zr hb with⟨j,u,rfl,e⟩|⟨y,u,rfl,e⟩
   ·injection e with e1 _;rw[e1]
   ·exact nomatch e
  ·rcases zr hb with⟨j,u,rfl,e⟩|⟨y,u,rfl,e⟩
   ·exact nomatch e
   ·injection e with e1 _;rw[e1]
 byValue:=λk v h=>by
  rcases zr h with⟨i,t,rfl,rfl⟩|⟨x,t,rfl,rfl⟩<;>rfl
 pyHash:=λhv h=>by
  rcases zr hv with⟨i,t,rfl,rfl⟩|⟨x,t,rfl,rfl⟩
  ·exact wpAny_pyHash_int h
  ·exact wpAny_pyHash_str h
 eqBool:=λhu hv h=>by
  rcases zr hu with⟨i,t,rfl,rfl⟩|⟨x,t,rfl,rfl⟩
  ·rcases zr hv with⟨j,u,rfl,rfl⟩|⟨y,u,rfl,rfl⟩
   ·rw[ql2]at h;exact yei h
   ·rw[ql4]at h;exact SeqAt.EqAt.int_str i t y u _ _ _ _ h
  ·rcases zr hv with⟨j,u,rfl,rfl⟩|⟨y,u,rfl,rfl⟩
   ·rw[ql5]at h;exact SeqAt.EqAt.str_int x t j u _ _ _ _ h
   ·rw[ql3]at h;exact wpAny_eqBool_str h
 «strs»:=λk x t v h=>by
  rcases zr h with⟨i,u,rfl,e⟩|⟨y,u,rfl,e⟩
  ·exact nomatch e
  ·injection e with e1 _
   subst e1
   cases v<;>rfl
theorem qdd(prog:yan)(w:World)(i:Int)(t:Tok):(zA prog w).is (.inl i) (.int i t)=true:=qcg i t
theorem qde(prog:yan)(w:World)(x:Str)(t:Tok):(zA prog w).is (.inr x) (.str x t)=true:=qch x t
end L2
namespace L2
open PySem PySem.Spec PyProof.Rows
inductive V where
 |non|bl (b:Bool)|int (i:Int)|str (x:Str)|byt (b:Array UInt8)|flt (b:UInt64)|ref (a:Addr)|ty (n:String)
 deriving DecidableEq
def zY:V->Value->Prop
 |.non,u=>u=yaQ
 |.bl b,u=>u=ybp b
 |.int i,u=>∃t,u=ycq i t
 |.str x,u=>∃t,u=yfG x t
 |.byt b,u=>∃t,u=Value.bytes b t
 |.flt b,u=>∃t,u=Value.float b t
 |.ref a,u=>u=yag a
 |.ty n,u=>u=yca n
abbrev zt:List V->List Value->Prop:=yfH zY
theorem zt.length{xs:List V}{us:List Value}(r:zt xs us):xs.length=us.length:=yfv r
theorem zt.get:∀{xs:List V}{us:List Value}{i:Nat}{x:V},zt xs us->xs[i]? = some x->∃u,us[i]? = some u/\zY x u
 |_,_,_,_,.nil,e=>by simp at e
 |_,_,0,_,.cons r _,e=>by simp at e;subst e;exact⟨_,rfl,r⟩
 |_,_,i+1,x,.cons _ t,e=>by
  obtain⟨u,h1,h2⟩:=zt.get (i:=i) (x:=x) t (by simpa using e)
  exact⟨u,by simpa using h1,h2⟩
theorem zt.set {x:V} {u:Value} (r:zY x u):∀{xs:List V}{us:List Value}(i:Nat),zt xs us->zt (xs.set i x) (us.set i u)
 |_,_,_,.nil => .nil
 |_,_,0,.cons _ t => .cons r t
 |_,_,i+1,.cons q t => .cons q (zt.set r i t)
theorem zt.append:∀{xs ys:List V}{us ws:List Value},zt xs us->zt ys ws->zt (xs++ys) (us++ws)
 |_,_,_,_,.nil,s=>s
 |_,_,_,_,.cons r t,s => .cons r (zt.append t s)
theorem zt.take:∀{xs:List V}{us:List Value}(n:Nat),zt xs us->zt (xs.take n) (us.take n)
 |_,_,0,_ => .nil
 |_,_,_+1,.nil => .nil
 |_,_,n+1,.cons r t => .cons r (zt.take n t)
theorem zt.drop:∀{xs:List V}{us:List Value}(n:Nat),zt xs us->zt (xs.drop n) (us.drop n)
 |_,_,0,r=>r
 |_,_,_+1,.nil => .nil
 |_,_,n+1,.cons _ t=>zt.drop n t
def qe5:Option V->Option Value->Prop
 |some v,some u=>zY v u
 |none,none=>True
 |_,_=>False
def KV{κ:Type}:List (κ×V)->List (κ×Value)->Prop:=yfH λ(p:κ×V) (q:κ×Value)=>p.1=q.1/\zY p.2 q.2
def kV:Key->V
 |.inl i => .int i
 |.inr x => .str x
inductive HO where
 /-- a list -/
 |lst (xs:List V)
 /-- a tuple (never changes) -/
 |tup (xs:List V)
 /-- a dict whose keys are ints and texts;one whose keys are tuples of ints and texts (the empty one is both) -/
 |dK (kvs:List (Key×V))|dT (kvs:List (List Key×V))
 /-- a set of ints: its members,its size -/
 |set (S:Int->Bool) (n:Nat)
 /-- an instance of the class at C,its dict at dx,its attributes -/
 |ins (C dx:Addr) (fs:List (Str×V))
 /-- the dict of the instance at x -/
 |own (x:Addr)
 /-- the dict of an exception -/
 |xd (fs:List (Str×V))
 /-- a bound method,f of x -/
 |met (f x:Addr)
 /-- a range object lo,lo+1,.. below hi -/
 |rng (lo hi:Int)
 /-- a thing that is known to the object (the script;a dict while a loop walks it): read,never written while it is so -/
 |frz (o:Obj) (u:HO)
 /-- a code object's table -/
 |tbl (ps:Array Value)
 /-- any other thing,by what is true of its one object (a def of one's own: SetO a S n:=HO.ext λh => ..) -/
 |ext (φ:Heap->Prop)
 /-- the table of a code object in which at most one lambda's code stands -/
 |lam (pos:Pos) (q:Str)
abbrev Hp:=Addr->Option HO
def upd(H:Hp)(a:Addr)(o:HO):Hp:=λb=>if b=a then some o else H b
theorem qu{H:Hp}{a:Addr}{o:HO}:upd H a o a=some o:=by unfold upd;rw[if_pos rfl]
theorem qv{H:Hp}{a b:Addr}{o:HO}(h:b≠a):upd H a o b=H b:=by unfold upd;rw[if_neg h]
theorem jp {H:Hp} {a b:Addr} {o u:HO} (h:H a=some o) (h':H b=some u) (d:o≠u):a≠b:=by
 intro e;subst e;rw[h]at h';exact d (yaz h')
theorem qA {H:Hp} {a b:Addr} {o:HO} (h:H a=some o) (h':H b=none):a≠b:=by
 intro e;subst e;rw[h]at h';cases h'
section
variable(P:yan)(w:World)
def jd (H:Hp) (h:Heap) (a:Addr):HO->Prop
 |.lst xs=>xs.length<=yai/\∃(its:List Value)(n:Nat),zt xs its/\h.get? a=some {cls:=.type "list",data:=.seq its.toArray n}
 |.tup xs=>xs.length<=yai/\∃its:List Value,zt xs its/\IsTup h a its.toArray
 |.dK kvs=>kvs.length<=yai/\(a==ybh)=false/\∃vs,KV kvs vs/\h.DictOf (zA P w) a vs
 | .dT kvs=>kvs.length<=yai/\(a==ybh)=false/\∃xs:List (List Key×Addr×Value),
   yfH (λ(p:List Key×V) (q:List Key×Addr×Value)=>p.1=q.1/\H q.2.1=some (.tup (p.1.map kV))/\zY p.2 q.2.2) kvs xs /\
   ∃o es ep,h.get? a=some o/\o.ExactDict/\o.data=.dict es ep/\es.toList=xs.map (entryOfKey (ydG (zA P w)))/\(xs.map (·.1)).Nodup
 |.set S n=>h.SetOf (yf1 P w) a S n
 | .ins C dx fs=>H dx=some (.own a)/\fs.length<=1000/\dx≠a/\h.get? a=some (yeI C dx) /\
   ∃mA,h.Ns1 dx mA/\(∀f,qe5 (fs.lookup f) (mA f))/\PySem.Within mA (fs.map (·.1))
 |.own _=>∃o,h.get? a=some o
 |.xd fs=>∃mA,h.Ns1 a mA/\∀f,qe5 (fs.lookup f) (mA f)
 |.rng lo hi=>∃t u v,h.get? a=some {cls:=.type "range",data:=.fields #[.int lo t,.int hi u,.int 1 v]}
 |.frz o u=>h.get? a=some o/\jd H h a u
 |.tbl ps=>h.get? a=some {cls:=.none,data:=.fields ps}
 |.met f x=>h.get? a=some (yd2 (.ref f) (.ref x))
 | .lam pos q=>h.get? a=some {cls:=.none,data:=.fields #[]}\/∃(c:Addr)(oc:Obj)(vs:Array Value)(t:Tok),H c=some (.frz oc (.own c))/\oc.data=.fields vs/\vs[1]? = some (.str q t) /\
   h.get? a=some {cls:=.none,data:=.fields #[ycb pos.line,ycb pos.col,.ref c]}
 |.ext φ=>φ h/\(∃o,h.get? a=some o)/\∀h1 h2:Heap,φ h1->(∀o,h1.get? a=some o->h2.get? a=some o)->φ h2
def HOk(H:Hp)(h:Heap):Prop:=∀a o,H a=some o->jd P w H h a o
end
section
variable{P:yan}{w:World}{H H':Hp}{h h':Heap}{a:Addr}{o:HO}
theorem jd.lt (x:jd P w H h a o):a<h.objs.size:=by
 cases o with
 |lst xs=>obtain⟨_,_,_,_,e⟩:=x;exact yae e
 |tup xs=>obtain⟨_,_,_,p⟩:=x;exact p.lt
 |dK kvs=>obtain⟨_,_,_,_,o,_,_,e,_⟩:=x;exact yae e
 |dT kvs=>obtain⟨_,_,_,_,o,_,_,e,_⟩:=x;exact yae e
 |set S n=>obtain⟨o,_,_,_,e,_⟩:=x;exact yae e
 |ins C dx fs=>obtain⟨_,_,_,e,_⟩:=x;exact yae e
 |own y=>obtain⟨_,e⟩:=x;exact yae e
 |xd fs=>obtain⟨_,⟨_,_,_,e,_⟩,_⟩:=x;exact yae e
 |rng lo hi=>obtain⟨_,_,_,e⟩:=x;exact yae e
 |frz ob u=>obtain⟨e,_⟩:=x;exact yae e
 |tbl ps=>exact yae (show h.get? a=some _ from x)
 |met f y=>exact yae (show h.get? a=some _ from x)
 |ext φ=>obtain⟨_,⟨_,e⟩,_⟩:=x;exact yae e
 |lam pos q=>
  rcases x with e|⟨_,_,_,_,_,_,_,e⟩
  ·exact yae e
  ·exact yae e
theorem Paired.mapP {α β:Type} {F G:α->β->Prop}:∀{lQ:List α}{lK:List β},yfH F lQ lK->(∀a b,F a b->G a b)->yfH G lQ lK
 |_,_,.nil,_ => .nil
 |_,_,.cons r t,f => .cons (f _ _ r) (Paired.mapP t f)
theorem jd.stay (x:jd P w H h a o) (k:∀b u,(b=a\/H b=some (.own a))->h.get? b=some u->h'.get? b=some u)
  (ho:∀b,H b=some (.own a)->H' b=some (.own a)) (ht:∀b xs,H b=some (.tup xs)->H' b=some (.tup xs)) (hz:∀b ob u,H b=some (.frz ob u)->H' b=some (.frz ob u):=by exact λ_ _ _ q=>q):jd P w H' h' a o:=by
 induction o with
 |lst xs=>obtain⟨z,its,n,r,e⟩:=x;exact⟨z,its,n,r,k _ _ (.inl rfl) e⟩
 |tup xs=>obtain⟨z,its,r,ob,e,c⟩:=x;exact⟨z,its,r,ob,k _ _ (.inl rfl) e,c⟩
 |dK kvs=>obtain⟨z,y,vs,r,ob,es,ep,e,c⟩:=x;exact⟨z,y,vs,r,ob,es,ep,k _ _ (.inl rfl) e,c⟩
 |dT kvs=>
  obtain⟨z,y,xs,r,ob,es,ep,e,c⟩:=x
  exact⟨z,y,xs,Paired.mapP r λp q z=>⟨z.1,ht _ _ z.2.1,z.2.2⟩,ob,es,ep,k _ _ (.inl rfl) e,c⟩
 |set S n=>obtain⟨ob,es,ep,t,e,c⟩:=x;exact⟨ob,es,ep,t,k _ _ (.inl rfl) e,c⟩
 |ins C dx fs=>
  obtain⟨d,z,ne,e,mA,⟨od,es,ep,e2,c⟩,r⟩:=x
  exact⟨ho _ d,z,ne,k _ _ (.inl rfl) e,mA,⟨od,es,ep,k _ _ (.inr d) e2,c⟩,r⟩
 |own y=>obtain⟨ob,e⟩:=x;exact⟨ob,k _ _ (.inl rfl) e⟩
 |xd fs=>obtain⟨mA,⟨od,es,ep,e,c⟩,r⟩:=x;exact⟨mA,⟨od,es,ep,k _ _ (.inl rfl) e,c⟩,r⟩
 |rng lo hi=>obtain⟨t,u,v,e⟩:=x;exact⟨t,u,v,k _ _ (.inl rfl) e⟩
 |frz ob u ih=>obtain⟨e,q⟩:=x;exact⟨k _ _ (.inl rfl) e,ih q⟩
 |tbl ps=>
  have e:h.get? a=some {cls:=.none,data:=.fields ps}:=x
  show h'.get? a=some {cls:=.none,data:=.fields ps}
  exact k a _ (.inl rfl) e
 |met f y=>
  have e:h.get? a=some (yd2 (.ref f) (.ref y)):=x
  show h'.get? a=some (yd2 (.ref f) (.ref y))
  exact k a _ (.inl rfl) e
 |ext φ=>obtain⟨p,⟨o,e⟩,st⟩:=x;exact⟨st _ _ p λo q=>k _ _ (.inl rfl) q,⟨o,k _ _ (.inl rfl) e⟩,st⟩
 |lam pos q=>
  rcases x with e|⟨c,oc,vs,t,h1,h2,h3,e⟩
  ·exact .inl (k _ _ (.inl rfl) e)
  ·exact .inr ⟨c,oc,vs,t,hz _ _ _ h1,h2,h3,k _ _ (.inl rfl) e⟩
theorem HOk.lt(x:HOk P w H h)(e:H a=some o):a<h.objs.size:=(x a o e).lt
theorem HOk.fresh (x:HOk P w H h) (e:h.objs.size<=a):H a=none:=by
 cases q:H a with
 |none=>rfl
 |some u=>exact absurd (yaw (x.lt q) e) (ybo _)
theorem HOk.kept (x:HOk P w H h) (k:∀b u,h.get? b=some u->h'.get? b=some u):HOk P w H h':=λa o e=>
 (x a o e).stay (λb u _ q=>k b u q) (λ_ q=>q) λ_ _ q=>q
theorem HOk.laid (x:HOk P w H h) (k:∀b u,h.get? b=some u->h'.get? b=some u) (hp:h.objs.size<=a) (new:jd P w (upd H a o) h' a o):HOk P w (upd H a o) h':=λb u e=>by
 have hn:=x.fresh hp
 by_cases hb:b=a
 ·subst hb;rw[qu]at e;cases e;exact new
 ·rw[qv hb]at e
  exact(x b u e).stay (λc v _ q=>k c v q) (λc q=>by rw[qv (qA q hn)];exact q) (λc xs q=>by rw[qv (qA q hn)];exact q) λc ob z q=>by rw[qv (qA q hn)];exact q
end
def Rd(H:Hp)(a:Addr)(u:HO):Prop:=H a=some u\/∃o,H a=some (.frz o u)
theorem Rd.ok {P:yan} {w:World} {H:Hp} {h:Heap} {a:Addr} {u:HO} (r:Rd H a u) (x:HOk P w H h):jd P w H h a u:=by
 rcases r with r|⟨o,r⟩
 ·exact x a u r
 ·obtain⟨_,q⟩:=x a _ r
  exact q
def Mut:Option HO->Prop
 |some (.lst _)=>True
 |some (.dK _)=>True
 |some (.dT _)=>True
 |some (.set _ _)=>True
 |some (.ins _ _ _)=>True
 |some (.ext _)=>True
 |_=>False
section
variable{P:yan}{w:World}{H:Hp}{h h':Heap}{x e:Addr}{o':HO}
theorem HOk.write (ok:HOk P w H h) (mu:Mut (H x)) (he:e=x\/H e=some (.own x)) (k:∀b u,b≠e->h.get? b=some u->h'.get? b=some u) (heo:∃u,h'.get? e=some u)
  (new:jd P w (upd H x o') h' x o'):HOk P w (upd H x o') h':=λb u q=>by
 have nown:∀c y,H c=some (.own y)->c≠x:=λc y r z=>by subst z;rw[r]at mu;exact mu
 have ntup:∀c xs,H c=some (.tup xs)->c≠x:=λc xs r z=>by subst z;rw[r]at mu;exact mu
 have nfrz:∀c ob y,H c=some (.frz ob y)->c≠x:=λc ob y r z=>by subst z;rw[r]at mu;exact mu
 by_cases hb:b=x
 ·subst hb;rw[qu]at q;cases q;exact new
 ·rw [qv hb]at q
  by_cases hbe:b=e
  ·have q':H b=some (.own x):=by
    rcases he with z|z
    ·exact absurd (hbe.trans z) hb
    ·rw[hbe];exact z
   rw[q]at q';cases q'
   obtain⟨v,hv⟩:=heo
   exact⟨v,by rw[hbe];exact hv⟩
  ·refine (ok b u q).stay (λc v hc r=>k c v ?_ r) (λc r=>by rw[qv (nown c b r)];exact r) (λc xs r=>by rw[qv (ntup c xs r)];exact r) λc ob z r=>by rw[qv (nfrz c ob z r)];exact r
   rcases hc with rfl|hc
   ·exact hbe
   ·rintro rfl
    rcases he with z|z
    ·exact nown c b hc z
    ·rw[hc]at z;cases z;exact hb rfl
end
structure Un (fs ex:List Addr) (H H':Hp) (h h':Heap):Prop where
 keep:∀b o,h.get? b=some o->H b=none->b ∉ fs->b ∉ ex->h'.get? b=some o
 slot:∀b o,h.get? b=some o->H b=none->b∈fs->b ∉ ex->∃sl,h'.get? b=some {o with slots:=sl}
 free:∀b o,h.get? b=some o->H b=none->b ∉ ex->H' b=none
 there:∀b o,h.get? b=some o->b ∉ ex->∃o',h'.get? b=some o'
 tups:∀b xs,H b=some (.tup xs)->H' b=some (.tup xs)
 frzs:∀b o u,H b=some (.frz o u)->H' b=some (.frz o u)
 tbls:∀b pos q,H b=some (.lam pos q)->H' b=some (.lam pos q)
section
variable{fs fs' ex ex':List Addr}{H H1 H2:Hp}{h h1 h2 h':Heap}{a x e:Addr}{o:HO}
theorem Un.any (u:Un fs ex H H1 h h1) {b:Addr} {ob:Obj} (q:h.get? b=some ob) (n:H b=none) (hx:b ∉ ex):∃sl,h1.get? b=some {ob with slots:=sl}:=by
 by_cases hb:b∈fs
 ·exact u.slot b ob q n hb hx
 ·exact⟨ob.slots,u.keep b ob q n hb hx⟩
theorem Un.trans (a:Un fs ex H H1 h h1) (b:Un fs ex H1 H2 h1 h2):Un fs ex H H2 h h2 where
 keep:=λc ob q n hc hx=>b.keep c ob (a.keep c ob q n hc hx) (a.free c ob q n hx) hc hx
 slot:=λc ob q n hc hx=>by
  obtain⟨sl,e1⟩:=a.slot c ob q n hc hx
  obtain⟨sl',e2⟩:=b.slot c _ e1 (a.free c ob q n hx) hc hx
  exact⟨sl',e2⟩
 free:=λc ob q n hx=>by
  obtain⟨o',e1⟩:=a.there c ob q hx
  exact b.free c o' e1 (a.free c ob q n hx) hx
 there:=λc ob q hx=>by
  obtain⟨o',e1⟩:=a.there c ob q hx
  exact b.there c o' e1 hx
 tups:=λc xs q=>b.tups c xs (a.tups c xs q)
 frzs:=λc ob xs q=>b.frzs c ob xs (a.frzs c ob xs q)
 tbls:=λc ps x q=>b.tbls c ps x (a.tbls c ps x q)
theorem Un.kept (k:∀b u,h.get? b=some u->h'.get? b=some u):Un fs ex H H h h' :=
 ⟨λb ob q _ _ _=>k b ob q,λb ob q _ _ _=>⟨ob.slots,k b ob q⟩,λ_ _ _ n _=>n,λb ob q _=>⟨ob,k b ob q⟩,λ_ _ q=>q,λ_ _ _ q=>q,λ_ _ _ q=>q⟩
theorem Un.refl:Un fs ex H H h h:=Un.kept λ_ _ q=>q
theorem Un.laid (k:∀b u,h.get? b=some u->h'.get? b=some u) (hp:h.objs.size<=a) (hn:H a=none):Un fs ex H (upd H a o) h h' where
 keep:=λb u q _ _ _=>k b u q
 slot:=λb u q _ _ _=>⟨u.slots,k b u q⟩
 free:=λb u q n _=>by rw[qv (yao (yaw (yae q) hp))];exact n
 there:=λb u q _=>⟨u,k b u q⟩
 tups:=λb xs q=>by rw[qv (qA q hn)];exact q
 frzs:=λb u xs q=>by rw[qv (qA q hn)];exact q
 tbls:=λb ps x q=>by rw[qv (qA q hn)];exact q
theorem Un.write (mu:Mut (H x)) (he:e=x\/H e=some (.own x)) (k:∀b u,b≠e->h.get? b=some u->h'.get? b=some u) (heo:∃u,h'.get? e=some u):Un fs ex H (upd H x o) h h':=by
 have hx:∀b,H b=none->b≠x:=λb n z=>by subst z;rw[n]at mu;exact mu
 have hb:∀b,H b=none->b≠e:=λb n z=>by
  subst z
  rcases he with r|r
  ·exact hx b n r
  ·rw[n]at r;cases r
 have hm:∀b u,H b=some u->¬Mut (some u)->b≠x:=λb u q nm z=>by subst z;rw[q]at mu;exact nm mu
 refine ⟨λb u q n _ _=>k b u (hb b n) q,λb u q n _ _=>⟨u.slots,k b u (hb b n) q⟩,λb u q n _=>by rw[qv (hx b n)];exact n,λb u q _=>?_,
  λb xs q=>by rw[qv (hm b _ q λz=>z)];exact q,λb u xs q=>by rw[qv (hm b _ q λz=>z)];exact q,λb ps x q=>by rw[qv (hm b _ q λz=>z)];exact q⟩
 by_cases hbe:b=e
 ·subst hbe;exact heo
 ·exact⟨u,k b u hbe q⟩
end
def trk(h:Heap)(H:Hp):List Addr:=(yap h.objs.size).filter λa=>(H a).isSome
def qh4(h:Heap)(H:Hp):Heap:=PySem.W.hideAll h (trk h H)
theorem qfW(h:Heap)(H:Hp):(qh4 h H).objs.size=h.objs.size:=PySem.W.hideAll_size _ _
theorem qh5 {h:Heap} {H:Hp} {b:Addr} {o:Obj} (e:h.get? b=some o) (n:H b=none):(qh4 h H).get? b=some o :=
 PySem.W.hideAll_get _ e λhm=>by
  have q:(H b).isSome=true:=(List.mem_filter.mp hm).2
  rw[n]at q;simp at q
theorem qkd {h:Heap} {H:Hp} {b:Addr} {o:Obj} (e:(qh4 h H).get? b=some o):h.get? b=some o/\H b=none:=by
 have e':h.get? b=some o:=PySem.W.of_hideAll (trk h H) e
 refine⟨e',?_⟩
 cases q:H b with
 |none=>rfl
 |some x=>
  have hm:b∈trk h H:=List.mem_filter.mpr ⟨mR_.mpr (yae e'),by simp[q]⟩
  have z:(qh4 h H).get? b=none:=PySem.W.hideAll_none (trk h H) hm
  rw[z]at e;cases e
def qke(g h:Heap)(L:Addr):List (Addr×Obj):=(yap h.objs.size).filterMap λa=>if a=L\/(g.get? a).isSome=true then none else(h.get? a).map λo=>(a,o)
def qah(g h:Heap)(L d:Addr):List (Addr×Obj):=(qke g h L).filter λp=>decide (p.1≠d)
end L2
namespace L2
open PySem PySem.Spec PyProof.Rows
structure Mod (K:yal) (mg:Str->Option Value) (base:Heap):Prop where
 kin:K.In base
 glob:base.Ns yaf mg
 blt:∃mb,base.Ns ycc mb/\∀x:Str,x≠"__name__"->mb x=yaA x
 nolimit:base.NoLimit
 bm:∃bm ob,mg "__builtins__"=some (.ref bm)/\bm≠ycc/\base.get? bm=some ob/\ob.cls=.type "module"/\ob.dict=some ycc/\ob.data=.plain
structure Cx where
 prog:yan
 w:World
 K:yal
 mg:Str->Option Value
 base:Heap
 A:yav
 N:List Str
 s₀:yab
 H₀:Hp
 env:Env
 outer:List Env
 stack:List Env
 ex:List Addr
 fn:Str->Bool
 calm:Bool
 pn:List (Addr×Obj)
 xe:Value->yab->Prop
def frs(l:List Env):List Addr:=l.filterMap (·.frame)
abbrev Cx.fs(X:Cx):List Addr:=frs X.outer
def Vis(sc:Scope)(x:Str):Prop:=sc.names.lookup x=some .local\/sc.names.lookup x=some .cell\/sc.names.lookup x=some .free
def Loc(sc:Scope)(x:Str):Prop:=sc.names.lookup x=some .local\/sc.names.lookup x=some .cell
def qpJ (env:Env) (h:Heap) (m:Str->Option Value) (x:Str) (u:Value):Prop :=
 (env.kindOf x=some .local/\m x=some u)\/((env.kindOf x=some .cell\/env.kindOf x=some .free)/\∃c,env.cells.lookup x=some c/\h.IsCell c (some u))
structure Cx.Ok (X:Cx):Prop where
 mod:Mod X.K X.mg X.base
 kind:X.env.scope.kind=.function
 glob:X.env.globals=yaf
 blt:X.env.builtins=ycc
 above:X.s₀.heap.objs.size<=X.env.locals
 inj:∀x y c,X.env.cells.lookup x=some c->X.env.cells.lookup y=some c->x=y
 has:∀x,(X.env.kindOf x=some .cell\/X.env.kindOf x=some .free)->∃c,X.env.cells.lookup x=some c
 cab:∀x c,X.fn x=true->X.env.cells.lookup x=some c->X.s₀.heap.objs.size<=c
 hd:X.calm=true->X.A.handled=none
 frames:X.A.frames=some X.stack
 stk:X.stack=X.outer\/(X.stack=X.env::X.outer/\X.env.frame=some X.env.locals)
 exf:∀b∈X.ex,b≠X.env.locals/\∀x c,X.env.cells.lookup x=some c->c≠b
 bs:∀b o,X.base.get? b=some o->X.s₀.heap.get? b=some o/\X.H₀ b=none
 bsz:X.base.objs.size<=X.s₀.heap.objs.size
 noex:∀b o,X.base.get? b=some o->b ∉ X.ex
 exfs:∀b∈X.ex,b ∉ X.fs
 funs:X.s₀.heap.FunFrames X.base X.outer
 frf:∀b∈X.fs,X.H₀ b=none
structure Inv (X:Cx) (pins:List (Addr×Obj)) (σ:List (Option V)) (H:Hp) (s:yab):Prop where
 ok:X.Ok
 os:s.os=X.s₀.os
 bare:ycx s.gens
 base:Un X.fs X.ex X.H₀ H X.s₀.heap s.heap
 loc:∃m,s.heap.Ns X.env.locals m/\∀(i:Nat)(x:Str)(v:V),X.N[i]? = some x->σ[i]? = some (some v)->Vis X.env.scope x->∃u,zY v u/\qpJ X.env s.heap m x u
 cell:∀x c,X.env.cells.lookup x=some c->∃v,s.heap.IsCell c v
 free:H X.env.locals=none
 freeC:∀x c,X.env.cells.lookup x=some c->H c=none
 pin:∀p∈X.pn++pins,s.heap.get? p.1=some p.2/\H p.1=none/\p.1≠X.env.locals/\p.1 ∉ X.fs/\∀v,p.2.data ≠ .cell v
 hok:HOk X.prog X.w H s.heap
 len:σ.length=X.N.length
section
variable{X:Cx}{pins:List (Addr×Obj)}{σ:List (Option V)}{H H':Hp}{s:yab}{h':Heap}
theorem Cx.Ok.nofr (ok:X.Ok) {b:Addr} {o:Obj} (e:X.base.get? b=some o):b ∉ X.fs:=λhb=>by
 have:=(ok.funs.mem hb).1
 rw[e]at this;cases this
theorem Inv.bs (I:Inv X pins σ H s):∀b o,X.base.get? b=some o->s.heap.get? b=some o/\H b=none:=λb o e=>
 ⟨I.base.keep b o (I.ok.bs b o e).1 (I.ok.bs b o e).2 (I.ok.nofr e) (I.ok.noex b o e),I.base.free b o (I.ok.bs b o e).1 (I.ok.bs b o e).2 (I.ok.noex b o e)⟩
theorem Inv.bk(I:Inv X pins σ H s):∀b o,X.base.get? b=some o->s.heap.get? b=some o:=λb o e=>(I.bs b o e).1
theorem Inv.mod(I:Inv X pins σ H s):Mod X.K X.mg X.base:=I.ok.mod
theorem Inv.kIn(I:Inv X pins σ H s):X.K.In s.heap:=I.ok.mod.kin.keeps I.bk
theorem Inv.lt(I:Inv X pins σ H s):X.env.locals<s.heap.objs.size:=let ⟨_,hn,_⟩:=I.loc;hn.lt
theorem Inv.sz(I:Inv X pins σ H s):X.s₀.heap.objs.size<=s.heap.objs.size:=yay I.ok.above (yej I.lt)
theorem Inv.nofs (I:Inv X pins σ H s) {a:Addr} (h:s.heap.objs.size<=a):a ∉ X.fs:=λhb=>by
 obtain⟨_,o,ho,_⟩:=I.ok.funs.mem hb
 exact absurd (yaw (yae ho) (yay I.sz h)) (ybo _)
theorem Inv.cne (I:Inv X pins σ H s):∀x c,X.env.cells.lookup x=some c->c≠X.env.locals:=λx c e z=>by
 obtain⟨v,o,ho,hd⟩:=I.cell x c e
 obtain⟨m,⟨o',es,ep,ho',hd',_⟩,_⟩:=I.loc
 rw[z,ho']at ho;cases ho;rw[hd']at hd;cases hd
theorem Inv.funs (I:Inv X pins σ H s):s.heap.FunFrames X.base X.outer:=by
 have all:∀(l:List Env),(∀b∈frs l,b∈X.fs)->X.s₀.heap.FunFrames X.base l->s.heap.FunFrames X.base l:=by
  intro l
  induction l with
  |nil=>intro _ _;trivial
  |cons env r ih=>
   intro hs hl
   obtain⟨hk,⟨L,o,hf,hn,ho,hd⟩,hr⟩:=hl
   have hL:L∈X.fs:=hs L (by unfold frs;rw[yb9,hf];exact mS_)
   obtain⟨sl,e⟩:=I.base.slot L o ho (I.ok.frf L hL) hL λz=>I.ok.exfs L z hL
   exact⟨hk,⟨L,_,hf,hn,e,hd⟩,ih (λb hb=>hs b (by unfold frs;rw[yb9,hf];exact mM _ hb)) hr⟩
 exact all X.outer (λ_ hb=>hb) I.ok.funs
theorem Inv.stack (I:Inv X pins σ H s):s.heap.FunFrames X.base X.stack:=by
 rcases I.ok.stk with e|⟨e,hf⟩
 ·rw[e];exact I.funs
 ·rw[e]
  obtain⟨m,hn,_⟩:=I.loc
  refine .cons (by rw[I.ok.kind];decide) hf hn ?_ I.funs
  exact Heap.get?_none_of_le (yay I.ok.bsz I.ok.above)
theorem Inv.stkSub (I:Inv X pins σ H s):∀b∈frs X.stack,b∈X.env.locals::X.fs:=λb hb=>by
 rcases I.ok.stk with e|⟨e,hf⟩
 ·rw[e]at hb;exact mM _ hb
 ·rw[e]at hb
  unfold frs at hb
  rw[yb9,hf]at hb
  exact hb
theorem Inv.stkFree (I:Inv X pins σ H s):∀b∈frs X.stack,H b=none:=λb hb=>by
 rcases List.mem_cons.mp (I.stkSub b hb)with e|hb
 ·rw[e];exact I.free
 ·obtain⟨_,o,ho,_⟩:=I.ok.funs.mem hb
  exact I.base.free b o ho (I.ok.frf b hb) λz=>I.ok.exfs b z hb
theorem Inv.step {g':Array GenState} {t':Nat} {d':Drawn} {ch:List Addr} (I:Inv X pins σ H s)
  (hch:∀b∈ch,(b∈X.ex\/X.s₀.heap.objs.size<=b)/\b≠X.env.locals/\(∀x c,X.env.cells.lookup x=some c->c≠b)/\∀p∈X.pn++pins,p.1≠b)
  (keep:∀b o,b≠X.env.locals->b ∉ X.fs->b ∉ ch->s.heap.get? b=some o->H b=none->h'.get? b=some o)
  (slot:∀b o,b≠X.env.locals->b∈X.fs->b ∉ ch->s.heap.get? b=some o->H b=none->∃sl,h'.get? b=some {o with slots:=sl}) (free:∀b o,b ∉ ch->s.heap.get? b=some o->H b=none->H' b=none)
  (there:∀b o,b ∉ ch->s.heap.get? b=some o->∃o',h'.get? b=some o')
  (tups:∀b xs,H b=some (.tup xs)->H' b=some (.tup xs)) (frzs:∀b o u,H b=some (.frz o u)->H' b=some (.frz o u)) (tbls:∀b pos q,H b=some (.lam pos q)->H' b=some (.lam pos q))
  (ns:∀m,s.heap.Ns X.env.locals m->h'.Ns X.env.locals m) (hok:HOk X.prog X.w H' h') (hg:ycx g') :
  Inv X pins σ H' {s with heap:=h',gens:=g',drawn:=d',toks:=t' }:=by
 have neL:∀b o,X.s₀.heap.get? b=some o->b≠X.env.locals:=λb o e=>yao (yaw (yae e) I.ok.above)
 have neC:∀b o,X.s₀.heap.get? b=some o->b ∉ X.ex->b ∉ ch:=λb o e hx hb=>by
  rcases(hch b hb).1 with z|z
  ·exact hx z
  ·exact absurd (yaw (yae e) z) (ybo _)
 have cellK:∀x c,X.env.cells.lookup x=some c->∀v,s.heap.IsCell c v->h'.IsCell c v:=λx c e v ⟨o,ho,hd⟩=>by
  have nch:c ∉ ch:=λz=>(hch c z).2.2.1 x c e rfl
  by_cases hc:c∈X.fs
  ·obtain⟨sl,q⟩:=slot c o (I.cne x c e) hc nch ho (I.freeC x c e)
   exact⟨_,q,hd⟩
  ·exact⟨o,keep c o (I.cne x c e) hc nch ho (I.freeC x c e),hd⟩
 refine⟨I.ok,I.os,hg,⟨λb o e n hb hx=>?_,λb o e n hb hx=>?_,λb o e n hx=>?_,λb o e hx=>?_,λb xs e=>tups b xs (I.base.tups b xs e),λb o xs e=>frzs b o xs (I.base.frzs b o xs e),λb ps x e=>tbls b ps x (I.base.tbls b ps x e)⟩,?_,λx c e=>?_,?_,λx c e=>?_,λp hp=>?_,hok,I.len⟩
 ·exact keep b o (neL b o e) hb (neC b o e hx) (I.base.keep b o e n hb hx) (I.base.free b o e n hx)
 ·obtain⟨sl,e1⟩:=I.base.slot b o e n hb hx
  obtain⟨sl',e2⟩:=slot b _ (neL b o e) hb (neC b o e hx) e1 (I.base.free b o e n hx)
  exact⟨sl',e2⟩
 ·obtain⟨o',e1⟩:=I.base.there b o e hx
  exact free b o' (neC b o e hx) e1 (I.base.free b o e n hx)
 ·obtain⟨o',e1⟩:=I.base.there b o e hx
  exact there b o' (neC b o e hx) e1
 ·obtain⟨m,hn,hl⟩:=I.loc
  refine⟨m,ns m hn,λi x v e1 e2 e3=>?_⟩
  obtain⟨u,r,l⟩:=hl i x v e1 e2 e3
  refine⟨u,r,?_⟩
  rcases l with l|⟨k,c,e,z⟩
  ·exact .inl l
  ·exact .inr ⟨k,c,e,cellK x c e _ z⟩
 ·obtain⟨v,z⟩:=I.cell x c e
  exact⟨v,cellK x c e v z⟩
 ·obtain⟨m,⟨o,_,_,ho,_⟩,_⟩:=I.loc
  exact free _ o (λz=>(hch _ z).2.1 rfl) ho I.free
 ·obtain⟨v,o,ho,hd⟩:=I.cell x c e
  exact free c o (λz=>(hch c z).2.2.1 x c e rfl) ho (I.freeC x c e)
 ·obtain⟨e,n,ne,nf,d⟩:=I.pin p hp
  have nch:p.1 ∉ ch:=λz=>(hch p.1 z).2.2.2 p hp rfl
  exact⟨keep p.1 p.2 ne nf nch e n,free p.1 p.2 nch e n,ne,nf,d⟩
theorem Inv.un {t':Nat} (I:Inv X pins σ H s) (u:Un X.fs [] H H' s.heap h') (hok:HOk X.prog X.w H' h'):Inv X pins σ H' {s with heap:=h',toks:=t' }:=by
 obtain⟨m,⟨o,es,ep,ho,r⟩,_⟩:=id I.loc
 obtain⟨sl,hL⟩:=u.any ho I.free (by simp)
 exact I.step (g':=s.gens) (d':=s.drawn) (ch:=[]) (λ_ z=>nomatch z) (λb o _ hb _ e n=>u.keep b o e n hb (by simp)) (λb o _ hb _ e n=>u.slot b o e n hb (by simp)) (λb o _ e n=>u.free b o e n (by simp)) (λb o _ e=>u.there b o e (by simp)) u.tups u.frzs u.tbls (λm' hm=>by
  obtain⟨o',es',ep',ho',r'⟩:=hm
  rw[ho]at ho';cases ho'
  exact⟨_,es',ep',hL,r'⟩) hok I.bare
theorem Inv.call {g':Array GenState} {t':Nat} {d':Drawn} {ch:List Addr} (I:Inv X pins σ H s) (u:Un (frs X.stack) ch H H' s.heap h') (hok:HOk X.prog X.w H' h') (hg:ycx g')
  (hch:∀b∈ch,(b∈X.ex\/X.s₀.heap.objs.size<=b)/\b≠X.env.locals/\(∀x c,X.env.cells.lookup x=some c->c≠b)/\∀p∈X.pn++pins,p.1≠b) :
  Inv X pins σ H' {s with heap:=h',gens:=g',drawn:=d',toks:=t' }:=by
 obtain⟨m,⟨o,es,ep,ho,r⟩,_⟩:=id I.loc
 obtain⟨sl,hL⟩:=u.any ho I.free λz=>(hch _ z).2.1 rfl
 exact I.step (ch:=ch) hch (λb o hL hb hc e n=>u.keep b o e n (λz=>(List.mem_cons.mp (I.stkSub b z)).elim hL hb) hc) (λb o _ _ hc e n=>u.any e n hc) (λb o hc e n=>u.free b o e n hc) (λb o hc e=>u.there b o e hc) u.tups u.frzs u.tbls (λm' hm=>by
  obtain⟨o',es',ep',ho',r'⟩:=hm
  rw[ho]at ho';cases ho'
  exact⟨_,es',ep',hL,r'⟩) hok hg
theorem Inv.turned {t':Nat} {it:Addr} (I:Inv X pins σ H s) (k:∀b o,b≠it->s.heap.get? b=some o->h'.get? b=some o) (hn:H it=none) (hL:it≠X.env.locals)
  (h1:it∈X.ex\/X.s₀.heap.objs.size<=it) (h2:∀x c,X.env.cells.lookup x=some c->c≠it) (h3:∀p∈X.pn++pins,p.1≠it):Inv X pins σ H {s with heap:=h',toks:=t' }:=by
 have nit:∀b u,H b=some u->b≠it:=λb u e z=>by rw[z,hn]at e;cases e
 refine I.step (g':=s.gens) (d':=s.drawn) (ch:=[it]) (λb hb=>?_) (λb o _ _ hc e _=>k b o (λz=>hc (by simp[z])) e) (λb o _ _ hc e _=>⟨o.slots,k b o (λz=>hc (by simp[z])) e⟩) (λ_ _ _ _ n=>n)
  (λb o hc e=>⟨o,k b o (λz=>hc (by simp[z])) e⟩) (λ_ _ e=>e) (λ_ _ _ e=>e) (λ_ _ _ e=>e) (λm hm=>?_) (λb u e=>?_) I.bare
 ·have e:b=it:=by simpa using hb
  subst e
  exact⟨h1,hL,h2,h3⟩
 ·obtain⟨o,es,ep,ho,r⟩:=hm
  exact⟨o,es,ep,k _ o (ybk hL) ho,r⟩
 ·refine(I.hok b u e).stay (λc v hc q=>k c v ?_ q) (λ_ q=>q) λ_ _ q=>q
  rcases hc with z|z
  ·rw[z];exact nit b u e
  ·exact nit c _ z
theorem Inv.tok(I:Inv X pins σ H s)(t:Nat):Inv X pins σ H {s with toks:=t}:=I.un (h':=s.heap) (t':=t) Un.refl I.hok
theorem Inv.kept{t':Nat}(I:Inv X pins σ H s)(k:∀b u,s.heap.get? b=some u->h'.get? b=some u):Inv X pins σ H {s with heap:=h',toks:=t' }:=I.un (Un.kept k) (I.hok.kept k)
theorem Inv.laid {a:Addr} {o:HO} {t':Nat} (I:Inv X pins σ H s) (k:∀b u,s.heap.get? b=some u->h'.get? b=some u) (hp:s.heap.objs.size<=a) (new:jd X.prog X.w (upd H a o) h' a o) :
  Inv X pins σ (upd H a o) {s with heap:=h',toks:=t' }:=I.un (Un.laid k hp (I.hok.fresh hp)) (I.hok.laid k hp new)
theorem Inv.write {x e:Addr} {o:HO} {t':Nat} (I:Inv X pins σ H s) (mu:Mut (H x)) (he:e=x\/H e=some (.own x)) (k:∀b u,b≠e->s.heap.get? b=some u->h'.get? b=some u) (heo:∃u,h'.get? e=some u)
  (new:jd X.prog X.w (upd H x o) h' x o):Inv X pins σ (upd H x o) {s with heap:=h',toks:=t' }:=I.un (Un.write mu he k heo) (I.hok.write mu he k heo new)
theorem Inv.pins_of {pins':List (Addr×Obj)} (I:Inv X pins σ H s) (h:∀p∈pins',s.heap.get? p.1=some p.2/\H p.1=none/\p.1≠X.env.locals/\p.1 ∉ X.fs/\∀v,p.2.data ≠ .cell v):Inv X pins' σ H s :=
 ⟨I.ok,I.os,I.bare,I.base,I.loc,I.cell,I.free,I.freeC,λp hp=>(mA_.mp hp).elim (λz=>I.pin p (ydn _ z)) (h p),I.hok,I.len⟩
theorem qdX {N:List Str} (hN:N.Nodup) {i j:Nat} {x:Str} (a:N[i]? = some x) (b:N[j]? = some x):i=j:=by
 obtain⟨h1,e1⟩:=gI_.mp a
 obtain⟨h2,e2⟩:=gI_.mp b
 exact(List.getElem_inj hN).mp (e1.trans e2.symm)
theorem qci {M:Model} {A:yav} {E:Value->yab->Prop} {i:Nat} {x:Str} {v:V} {u:Value} {Q:Unit->yab->Prop} (I:Inv X pins σ H s) (hN:X.N.Nodup) (hi:X.N[i]? = some x) (hx:Loc X.env.scope x) (r:zY v u)
  (h:∀s',Inv X pins (σ.set i (some v)) H s'->(∃a,yb2 a s.heap s'.heap/\(a=X.env.locals\/X.env.cells.lookup x=some a))->Q () s') (hf:X.fn x=true\/X.env.scope.names.lookup x=some .local:=by first|exact .inl rfl|exact .inr rfl|assumption):wpAny M A (storeName X.env x u) Q E s:=by
 obtain⟨m,hn,hl⟩:=id I.loc
 have hcls:(X.env.scope.kind == .class||(X.env.scope.kind == .module&&X.env.locals != X.env.globals))=false:=by rw[I.ok.kind];rfl
 have hiσ:i<σ.length:=by rw[I.len];exact(gI_.mp hi).1
 have cne:=I.cne
 have tracked:∀{a:Addr}{h':Heap},(∃o,s.heap.get? a=some o/\H a=none)->yb2 a s.heap h'->HOk X.prog X.w H h':=λ{a h'} ha hs b ob e=>by
  obtain⟨_,_,hfree⟩:=ha
  refine(I.hok b ob e).stay (λc w' hc q=>(hs.2 c ?_).trans q) (λ_ q=>q) λ_ _ q=>q
  rintro rfl
  rcases hc with rfl|hc
  ·rw[hfree]at e;cases e
  ·rw[hfree]at hc;cases hc
 rcases hx with hk|hk
 ·refine wpAny_storeName_local hk hn (λh' hn' hs=>?_) hcls
  obtain⟨oL,_,_,hoL,_⟩:=id hn
  refine h _ ⟨I.ok,I.os,I.bare,⟨λb o e n hb hx=>?_,λb o e n hb hx=>?_,I.base.free,λb o e hx=>?_,I.base.tups,I.base.frzs,I.base.tbls⟩,⟨_,hn',λj y v' e1 e2 e3=>?_⟩,λy c e=>?_,I.free,I.freeC,λp hp=>?_,tracked ⟨oL,hoL,I.free⟩ hs,by simpa using I.len⟩ ⟨_,hs,.inl rfl⟩
  ·exact(hs.2 b (yao (yaw (yae e) I.ok.above))).trans (I.base.keep b o e n hb hx)
  ·obtain⟨sl,e1⟩:=I.base.slot b o e n hb hx
   exact⟨sl,(hs.2 b (yao (yaw (yae e) I.ok.above))).trans e1⟩
  ·obtain⟨o',e1⟩:=I.base.there b o e hx
   exact⟨o',(hs.2 b (yao (yaw (yae e) I.ok.above))).trans e1⟩
  ·by_cases hj:j=i
   ·subst hj
    rw[hi]at e1;cases e1
    rw[List.getElem?_set_self hiσ]at e2
    cases e2
    exact⟨u,r,.inl ⟨hk,by simp⟩⟩
   ·rw [List.getElem?_set_ne (ybk hj)]at e2
    obtain⟨u',r',q⟩:=hl j y v' e1 e2 e3
    refine⟨u',r',?_⟩
    rcases q with⟨k,e⟩|⟨k,c,e,z⟩
    ·refine .inl ⟨k,?_⟩
     have:y≠x:=λe=>hj (qdX hN e1 (e▸hi))
     simp[this,e]
    ·exact .inr ⟨k,c,e,z.sameBut hs (cne y c e)⟩
  ·obtain⟨w',z⟩:=I.cell y c e
   exact⟨w',z.sameBut hs (cne y c e)⟩
  ·obtain⟨e,n,ne,nf,d⟩:=I.pin p hp
   exact⟨(hs.2 p.1 ne).trans e,n,ne,nf,d⟩
 ·have hfn:X.fn x=true:=by
   rcases hf with z|z
   ·exact z
   ·rw[z]at hk;cases hk
  obtain⟨c,hc⟩:=I.ok.has x (.inl hk)
  obtain⟨w',z⟩:=I.cell x c hc
  refine wpAny_storeName_cell I.ok.kind hk hc z (λh' hc' hs=>?_)
  obtain⟨oc,hoc,hocd⟩:=id z
  refine h {s with heap:=h' } ⟨I.ok,I.os,I.bare,⟨λb o e n hb hx=>?_,λb o e n hb hx=>?_,I.base.free,λb o e hx=>?_,I.base.tups,I.base.frzs,I.base.tbls⟩,⟨m,hn.sameBut hs (ybk (cne x c hc)),λj y v' e1 e2 e3=>?_⟩,λy c' e=>?_,I.free,I.freeC,λp hp=>?_,tracked ⟨oc,hoc,I.freeC x c hc⟩ hs,by simpa using I.len⟩ ⟨c,hs,.inr hc⟩
  ·exact(hs.2 b (yao (yaw (yae e) (I.ok.cab x c hfn hc)))).trans (I.base.keep b o e n hb hx)
  ·obtain⟨sl,e1⟩:=I.base.slot b o e n hb hx
   exact⟨sl,(hs.2 b (yao (yaw (yae e) (I.ok.cab x c hfn hc)))).trans e1⟩
  ·obtain⟨o',e1⟩:=I.base.there b o e hx
   exact⟨o',(hs.2 b (yao (yaw (yae e) (I.ok.cab x c hfn hc)))).trans e1⟩
  ·by_cases hj:j=i
   ·subst hj
    rw[hi]at e1;cases e1
    rw[List.getElem?_set_self hiσ]at e2
    cases e2
    exact⟨u,r,.inr ⟨.inl hk,c,hc,hc'⟩⟩
   ·rw [List.getElem?_set_ne (ybk hj)]at e2
    obtain⟨u',r',q⟩:=hl j y v' e1 e2 e3
    refine⟨u',r',?_⟩
    rcases q with q|⟨k,c',e,z'⟩
    ·exact .inl q
    ·refine .inr ⟨k,c',e,z'.sameBut hs ?_⟩
     rintro rfl
     exact hj (qdX hN e1 (I.ok.inj _ _ _ e hc▸hi))
  ·by_cases hcc:c'=c
   ·subst hcc;exact⟨_,hc'⟩
   ·obtain⟨w2,z2⟩:=I.cell y c' e
    exact⟨w2,z2.sameBut hs hcc⟩
  ·obtain⟨e,n,ne,nf,d⟩:=I.pin p hp
   refine⟨(hs.2 p.1 ?_).trans e,n,ne,nf,d⟩
   intro q
   rw[q,hoc]at e
   have q':oc=p.2:=yaz e
   exact d w' (by rw[<-q'];exact hocd)
theorem qai {M:Model} {A:yav} {E:Value->yab->Prop} {i:Nat} {x:Str} {v:V} {u:Value} {Q:Unit->yab->Prop} (I:Inv X pins σ H s) (hN:X.N.Nodup) (hi:X.N[i]? = some x) (hx:Loc X.env.scope x) (r:zY v u)
  (h:∀s',Inv X pins (σ.set i (some v)) H s'->Q () s') (hf:X.fn x=true\/X.env.scope.names.lookup x=some .local:=by first|exact .inl rfl|exact .inr rfl|assumption):wpAny M A (storeName X.env x u) Q E s :=
 qci I hN hi hx r (λs' I' _=>h s' I') hf
theorem Inv.call' {s':yab} {ch:List Addr} (I:Inv X pins σ H s) (ho:s'.os=s.os) (u:Un (frs X.stack) ch H H' s.heap s'.heap) (hok:HOk X.prog X.w H' s'.heap) (hg:ycx s'.gens)
  (hch:∀b∈ch,(b∈X.ex\/X.s₀.heap.objs.size<=b)/\b≠X.env.locals/\(∀x c,X.env.cells.lookup x=some c->c≠b)/\∀p∈X.pn++pins,p.1≠b):Inv X pins σ H' s':=by
 obtain⟨h',g',d',t',o'⟩:=s'
 have e:o'=s.os:=ho
 subst e
 exact I.call (g':=g') (t':=t') (d':=d') u hok hg hch
end
abbrev XK:=Value->Option Addr->Hp->Prop
abbrev St:=List (Option V)
abbrev VK:=V->Hp->Prop
abbrev TE:=St->Hp->VK->Prop
abbrev TT:=St->Hp->(Bool->Hp->Prop)->Prop
abbrev TA:=St->Hp->(List V->Hp->Prop)->Prop
structure qe6 where
 nx:St->Hp->Prop
 rt:VK
 bk:St->Hp->Prop:=λ_ _=>False
 ct:St->Hp->Prop:=λ_ _=>False
abbrev TS:=qe6->St->Hp->Prop
def EP(X:Cx)(pins:List (Addr×Obj))(σ:St)(Q:VK)(u:Value)(s':yab):Prop:=∃v H',Inv X pins σ H' s'/\zY v u/\Q v H'
def TP(X:Cx)(pins:List (Addr×Obj))(σ:St)(Q:Bool->Hp->Prop)(b:Bool)(s':yab):Prop:=∃H',Inv X pins σ H' s'/\Q b H'
def AP(X:Cx)(pins:List (Addr×Obj))(σ:St)(Q:List V->Hp->Prop)(us:List Value)(s':yab):Prop:=∃vs H',Inv X pins σ H' s'/\zt vs us/\Q vs H'
def SP (X:Cx) (pins:List (Addr×Obj)) (D:qe6) (f:Flow) (s':yab):Prop :=
 match f with
 |.next=>∃σ' H',Inv X pins σ' H' s'/\D.nx σ' H'
 |.brk=>∃σ' H',Inv X pins σ' H' s'/\D.bk σ' H'
 |.cont=>∃σ' H',Inv X pins σ' H' s'/\D.ct σ' H'
 |.ret u=>∃v σ' H',Inv X pins σ' H' s'/\zY v u/\D.rt v H'
def PE (X:Cx) (e:Expr) (t:TE):Prop :=
 ∀(pins:List (Addr×Obj))(s:yab)(σ:St)(H:Hp)(Q:VK),Inv X pins σ H s->t σ H Q->wpAny (model X.prog X.w) X.A (eval e X.env) (EP X pins σ Q) X.xe s
def PT (X:Cx) (e:Expr) (t:TT):Prop :=
 ∀(pins:List (Addr×Obj))(s:yab)(σ:St)(H:Hp)(Q:Bool->Hp->Prop),Inv X pins σ H s->t σ H Q->wpAny (model X.prog X.w) X.A (isTrue e X.env (eval e X.env)) (TP X pins σ Q) X.xe s
def PW (X:Cx) (e:Expr) (t:TT):Prop :=
 ∀(whole:Sem Value)(pins:List (Addr×Obj))(s:yab)(σ:St)(H:Hp)(Q:Bool->Hp->Prop),Inv X pins σ H s->t σ H Q->wpAny (model X.prog X.w) X.A (isTrue e X.env whole) (TP X pins σ Q) X.xe s
theorem PW.pt{X:Cx}{e:Expr}{t:TT}(h:PW X e t):PT X e t:=h _
def PA (X:Cx) (es:List Expr) (t:TA):Prop :=
 ∀(pos:Pos)(pins:List (Addr×Obj))(s:yab)(σ:St)(H:Hp)(Q:List V->Hp->Prop),Inv X pins σ H s->t σ H Q->wpAny (model X.prog X.w) X.A (spliced (yaX pos (yah es X.env))) (AP X pins σ Q) X.xe s
def PS (X:Cx) (st:Stmt) (t:TS):Prop :=
 ∀(pins:List (Addr×Obj))(s:yab)(σ:St)(H:Hp)(D:qe6),Inv X pins σ H s->t D σ H->wpAny (model X.prog X.w) X.A (exec st X.env) (SP X pins D) X.xe s
def PSs (X:Cx) (st:List Stmt) (t:TS):Prop :=
 ∀(pins:List (Addr×Obj))(s:yab)(σ:St)(H:Hp)(D:qe6),Inv X pins σ H s->t D σ H->wpAny (model X.prog X.w) X.A (execs st X.env) (SP X pins D) X.xe s
theorem thn{α:Type}{t:Sem α}{Q Q':α->yab->Prop}{M:Model}{A:yav}{E:Value->yab->Prop}{s:yab}(h:wpAny M A t Q E s)(hQ:∀a s,Q a s->Q' a s):wpAny M A t Q' E s:=ybi h hQ λ_ _ x=>x
end L2
namespace L2
open PySem PySem.Spec PyProof.Rows
section
variable{X:Cx}
theorem bin {a b:Expr} {ta tb:TE} (ha:PE X a ta) (hb:PE X b tb) {pins:List (Addr×Obj)} {s:yab} {σ:St} {H:Hp} {R:V->V->Hp->Prop} (I:Inv X pins σ H s) (h:ta σ H λx H1=>tb σ H1 λy H2=>R x y H2)
  {α:Type} {Q:α->yab->Prop} {f:Value->Value->Sem α}
  (hf:∀v u s2 x y H2,Inv X pins σ H2 s2->zY x v->zY y u->R x y H2->wpAny (model X.prog X.w) X.A (f v u) Q X.xe s2) :
  wpAny (model X.prog X.w) X.A (eval a X.env) (λv sK=>wpAny (model X.prog X.w) X.A (eval b X.env) (λu sY=>wpAny (model X.prog X.w) X.A (f v u) Q X.xe sY) X.xe sK) X.xe s:=by
 refine thn (ha pins s σ H _ I h) λv s1 ⟨x,H1,I1,r1,q1⟩=>?_
 refine thn (hb pins s1 σ H1 _ I1 q1) λu s2 ⟨y,H2,I2,r2,q2⟩=>?_
 exact hf v u s2 x y H2 I2 r1 r2 q2
def uM(i:Nat):TE:=λσ H Q=>∃v,σ[i]? = some (some v)/\Q v H
def tC(v:V):TE:=λ_ H Q=>Q v H
theorem wW {i:Nat} {x:Str} {pos:Pos} (hN:X.N[i]? = some x) (hv:Vis X.env.scope x) (hd:(x==("__debug__":Str))=false:=by decide) (hcd:(x==("__classdict__":Str))=false:=by decide):PE X (.Name x pos) (uM i):=by
 intro pins s σ H Q I h
 obtain⟨v,e,h⟩:=h
 obtain⟨m,hn,hl⟩:=I.loc
 obtain⟨u,r,l⟩:=hl i x v hN e hv
 have fin:EP X pins σ Q u s:=⟨v,H,I,r,h⟩
 rcases l with⟨hk,hm⟩|⟨hk,c,hc,hcell⟩
 ·exact ygk (wpAny_loadName_local I.ok.kind hk hn hm fin) hd
 ·rcases hk with hk|hk
  ·exact ygk (wpAny_loadName_cell I.ok.kind hk hc hcell fin) hd
  ·exact ygk (wpAny_loadName_free I.ok.kind hk hc hcell fin hcd) hd
theorem ql6{i j pos}:PE X (.Constant (.int i) j pos) (tC (.int i)):=λ_ _ _ H _ I h=>ydH ⟨.int i,H,I.tok _,⟨_,rfl⟩,h⟩
theorem qnZ{b j pos}:PE X (.Constant (.bool b) j pos) (tC (.bl b)):=λ_ _ _ H _ I h=>Constant_bool ⟨.bl b,H,I,rfl,h⟩
theorem ql7{j pos}:PE X (.Constant .none j pos) (tC .non):=λ_ _ _ H _ I h=>Constant_none ⟨.non,H,I,rfl,h⟩
theorem ql8{x j pos}:PE X (.Constant (.str x) j pos) (tC (.str x)):=λ_ _ _ H _ I h=>yfI ⟨.str x,H,I.tok _,⟨_,rfl⟩,h⟩
def Gl(X:Cx)(x:Str):Prop:=X.env.kindOf x=some .globalImplicit
theorem qdf {E:Value->yab->Prop} {pins:List (Addr×Obj)} {s:yab} {σ:St} {H:Hp} {x:Str} {u:Value} {pos:Pos} {Q:Value->yab->Prop} (I:Inv X pins σ H s) (hg:Gl X x) (hm:X.mg x=some u) (h:Q u s)
  (hd:(x==("__debug__":Str))=false:=by decide):wpAny (model X.prog X.w) X.A (eval (.Name x pos) X.env) Q E s :=
 ydS I.ok.kind hg (Calls.loadGlobal_global (by rw[I.ok.glob];exact I.mod.glob.keeps I.bk) hm h) hd
theorem qap {E:Value->yab->Prop} {pins:List (Addr×Obj)} {s:yab} {σ:St} {H:Hp} {x:Str} {u:Value} {pos:Pos} {Q:Value->yab->Prop} (I:Inv X pins σ H s) (hg:Gl X x) (hm:X.mg x=none) (hv:yaA x=some u) (h:Q u s)
  (hn:x≠"__name__":=by decide) (hd:(x==("__debug__":Str))=false:=by decide):wpAny (model X.prog X.w) X.A (eval (.Name x pos) X.env) Q E s:=by
 obtain⟨mb,h1,h2⟩:=I.mod.blt
 exact ydS I.ok.kind hg (Calls.loadGlobal_builtin (by rw[I.ok.glob];exact I.mod.glob.keeps I.bk) hm (by rw[I.ok.blt];exact h1.keeps I.bk) ((h2 x hn).trans hv) h) hd
theorem qkf {x:Str} {v:V} {u:Value} {pos:Pos} (hg:Gl X x) (hm:X.mg x=some u) (r:zY v u) (hd:(x==("__debug__":Str))=false:=by decide):PE X (.Name x pos) (tC v) :=
 λ_ _ _ H _ I h=>qdf I hg hm ⟨v,H,I,r,h⟩ hd
theorem qkg {x:Str} {v:V} {u:Value} {pos:Pos} (hg:Gl X x) (hm:X.mg x=none) (hv:yaA x=some u) (r:zY v u) (hn:x≠"__name__":=by decide) (hd:(x==("__debug__":Str))=false:=by decide):PE X (.Name x pos) (tC v) :=
 λ_ _ _ H _ I h=>qap I hg hm hv ⟨v,H,I,r,h⟩ hn hd
variable{a b:Expr}{ta tb:TE}{pos:Pos}
def PC (X:Cx) (op:CmpOp) (a b:Expr) (t:TE):Prop :=
 ∀ (pins:List (Addr×Obj)) (s:yab) (σ:St) (H:Hp) (Q:VK),Inv X pins σ H s->t σ H Q ->
  wpAny (model X.prog X.w) X.A (eval a X.env) (λv sK=>wpAny (model X.prog X.w) X.A (eval b X.env) (λu sY=>wpAny (model X.prog X.w) X.A (ybg op v u) (EP X pins σ Q) X.xe sY) X.xe sK) X.xe s
theorem qh6 (b:Expr) {op:CmpOp} (h:op ≠ .In) (h2:op ≠ .NotIn):ybH op b=false:=by
 have e1:(op==CmpOp.In)=false:=by cases op<;>first|rfl|exact absurd rfl h
 have e2:(op==CmpOp.NotIn)=false:=by cases op<;>first|rfl|exact absurd rfl h2
 cases b<;>simp[ybH,e1,e2]
def tB(t:TE):TT:=λσ H Q=>t σ H λx H1=>∃c,x=.bl c/\Q c H1
theorem qpb {op:CmpOp} {t:TE} (h:PC X op a b t) (h1:ybH op b=false:=by first|exact qh6 _ (by decide) (by decide)|rfl):PT X (.Compare a [op] [b] pos) (tB t):=by
 intro pins s σ H Q I hw
 refine ye1 (thn (h pins s σ H _ I hw) λv s1 h1=>thn h1 λu s2 h2=>thn h2 λc s3 ⟨x,H1,I1,r1,q1⟩=>?_) h1
 obtain⟨d,rfl,q⟩:=q1
 cases r1
 exact ybr ⟨H1,I1,q⟩
theorem ql9 {e:Expr} {t:TE} (h:PE X e t) (he:∀whole,isTrue e X.env whole=(do let v <-whole;ye2 e.pos;ybZ [v] (truthy v)):=by intro _;rfl):PT X e (tB t):=by
 intro pins s σ H Q I hw
 refine isTrue_plain (thn (h pins s σ H _ I hw) λv s1 ⟨x,H1,I1,r1,q1⟩=>?_) (he _)
 obtain⟨d,rfl,q⟩:=q1
 cases r1
 exact ybr ⟨H1,I1,q⟩
variable{tA tB':TT}{qah:List Expr}
def qpK(t u:TT):TT:=λσ H Q=>t σ H λc H1=>if c=true then u σ H1 Q else Q false H1
def tOr(t u:TT):TT:=λσ H Q=>t σ H λc H1=>if c=true then Q true H1 else u σ H1 Q
def qpL(t:TT):TT:=λσ H Q=>t σ H λc H1=>Q (!c) H1
theorem qkh (ha:PT X a tA):PW X (.BoolOp .And [a] pos) tA:=by
 intro wh pins s σ H Q I h
 refine isTrue_and (thn (ha pins s σ H Q I h) λc s1 e=>?_)
 cases c with
 |true=>exact isTrue_and_nil e
 |false=>exact e
theorem qma (ha:PT X a tA):PW X (.BoolOp .Or [a] pos) tA:=by
 intro wh pins s σ H Q I h
 refine isTrue_or (thn (ha pins s σ H Q I h) λc s1 e=>?_)
 cases c with
 |false=>exact isTrue_or_nil e
 |true=>exact e
theorem qmb (ha:PT X a tA) (hb:PW X (.BoolOp .And (b::qah) pos) tB'):PW X (.BoolOp .And (a::b::qah) pos) (qpK tA tB'):=by
 intro wh pins s σ H Q I h
 refine isTrue_and (thn (ha pins s σ H _ I h) λc s1 ⟨H1,I1,q1⟩=>?_)
 cases c with
 |true=>exact hb wh pins s1 σ H1 Q I1 q1
 |false=>exact⟨H1,I1,q1⟩
theorem qn0 (ha:PT X a tA) (hb:PW X (.BoolOp .Or (b::qah) pos) tB'):PW X (.BoolOp .Or (a::b::qah) pos) (tOr tA tB'):=by
 intro wh pins s σ H Q I h
 refine isTrue_or (thn (ha pins s σ H _ I h) λc s1 ⟨H1,I1,q1⟩=>?_)
 cases c with
 |true=>exact⟨H1,I1,q1⟩
 |false=>exact hb wh pins s1 σ H1 Q I1 q1
theorem qmc (ha:PT X a tA):PT X (.UnaryOp .Not a pos) (qpL tA):=by
 intro pins s σ H Q I h
 exact isTrue_not (ha pins s σ H (λc H1=>Q (!c) H1) I h)
def qn1(ta tb:TE):TE:=λσ H Q=>ta σ H λx H1=>∃c,x=.bl c/\if c=true then tb σ H1 Q else Q (.bl false) H1
def qpM(ta tb:TE):TE:=λσ H Q=>ta σ H λx H1=>∃c,x=.bl c/\if c=true then Q (.bl true) H1 else tb σ H1 Q
def qn2(ta:TE):TE:=λσ H Q=>ta σ H λx H1=>∃c,x=.bl c/\Q (.bl (!c)) H1
theorem qmd{op}{t:TE}(h:PE X a t):PE X (.BoolOp op [a] pos) t:=λpins s σ H Q I hw=>BoolOp_one (h pins s σ H Q I hw)
theorem qme (ha:PE X a ta) (hb:PE X (.BoolOp .And (b::qah) pos) tb):PE X (.BoolOp .And (a::b::qah) pos) (qn1 ta tb):=by
 intro pins s σ H Q I h
 refine BoolOp_and (thn (ha pins s σ H _ I h) λv s1 ⟨x,H1,I1,r1,q1⟩=>?_)
 obtain⟨c,rfl,q1⟩:=q1
 cases r1
 refine ybr ?_
 cases c with
 |true=>exact hb pins s1 σ H1 Q I1 q1
 |false=>exact⟨.bl false,H1,I1,rfl,q1⟩
theorem qn3 (ha:PE X a ta) (hb:PE X (.BoolOp .Or (b::qah) pos) tb):PE X (.BoolOp .Or (a::b::qah) pos) (qpM ta tb):=by
 intro pins s σ H Q I h
 refine BoolOp_or (thn (ha pins s σ H _ I h) λv s1 ⟨x,H1,I1,r1,q1⟩=>?_)
 obtain⟨c,rfl,q1⟩:=q1
 cases r1
 refine ybr ?_
 cases c with
 |false=>exact hb pins s1 σ H1 Q I1 q1
 |true=>exact⟨.bl true,H1,I1,rfl,q1⟩
theorem qmf (ha:PE X a ta):PE X (.UnaryOp .Not a pos) (qn2 ta):=by
 intro pins s σ H Q I h
 refine UnaryOp_ (thn (ha pins s σ H _ I h) λv s1 ⟨x,H1,I1,r1,q1⟩=>?_)
 obtain⟨c,rfl,q1⟩:=q1
 cases r1
 exact not_of (ybr ⟨.bl (!c),H1,I1,rfl,q1⟩)
def tIf(t:TT)(ta tb:TE):TE:=λσ H Q=>t σ H λc H1=>if c=true then ta σ H1 Q else tb σ H1 Q
theorem qh7 {c:Expr} (hc:PT X c tA) (ha:PE X a ta) (hb:PE X b tb):PE X (.IfExp c a b pos) (tIf tA ta tb):=by
 intro pins s σ H Q I h
 refine wpAny_IfExp (thn (hc pins s σ H _ I h) λd s1 ⟨H1,I1,q1⟩=>?_)
 cases d with
 |true=>exact ha pins s1 σ H1 Q I1 q1
 |false=>exact hb pins s1 σ H1 Q I1 q1
end
end L2
namespace L2
open PySem PySem.Spec PyProof.Rows
def SqL (K:yal) (H:Hp) (a:Addr) (xs:List V):Prop :=
 Rd H a (.lst xs) \/
  ∃(o:Obj)(its:Array Value)(n:Nat),K.lookup a=some o/\o.cls=.type "list"/\o.dict=none/\o.data=.seq its n/\its.size<=yai/\zt xs its.toList
def SqT (K:yal) (H:Hp) (a:Addr) (xs:List V):Prop :=
 Rd H a (.tup xs) \/
  ∃(o:Obj)(its:Array Value)(n:Nat),K.lookup a=some o/\o.cls=.type "tuple"/\o.data=.seq its n/\its.size<=yai/\zt xs its.toList
def qpN:Value->Option V
 |.none=>some .non
 |.bool b=>some (.bl b)
 |.int i _=>some (.int i)
 |.str x _=>some (.str x)
 |.bytes b _=>some (.byt b)
 |.float b _=>some (.flt b)
 |.ref a=>some (.ref a)
 |.type n=>some (.ty n)
 |_=>none
theorem zY.abs {x:V} {u:Value} (r:zY x u):qpN u=some x:=by
 cases x with
 |non=>cases r;rfl
 |bl _=>cases r;rfl
 |int _=>obtain⟨t,rfl⟩:=r;rfl
 |str _=>obtain⟨t,rfl⟩:=r;rfl
 |byt _=>obtain⟨t,rfl⟩:=r;rfl
 |flt _=>obtain⟨t,rfl⟩:=r;rfl
 |ref _=>cases r;rfl
 |ty _=>cases r;rfl
theorem zY.inj{x y:V}{u:Value}(r:zY x u)(q:zY y u):x=y:=yaz (r.abs.symm.trans q.abs)
theorem zt.inj:∀{xs ys:List V}{us:List Value},zt xs us->zt ys us->xs=ys
 |_,_,_,.nil,.nil=>rfl
 |_,_,_,.cons r t,.cons r' t'=>by rw[r.inj r',zt.inj t t']
section
variable{X:Cx}{pins:List (Addr×Obj)}{σ:St}{H:Hp}{s:yab}{a:Addr}{xs ys:List V}
theorem SqL.of{K:yal}(h:H a=some (.lst xs)):SqL K H a xs:=.inl (.inl h)
theorem Inv.list (I:Inv X pins σ H s) (h:SqL X.K H a xs):∃its:List Value,zt xs its/\PlainL s.heap a its.toArray/\xs.length<=yai:=by
 rcases h with h|⟨o,its,n,hk,hc,hd,hs,hz,r⟩
 ·obtain⟨z,its,n,r,e⟩:=h.ok I.hok
  exact⟨its,r,⟨_,n,e,rfl,rfl,rfl⟩,z⟩
 ·refine⟨its.toList,r,⟨o,n,I.kIn a o hk,hc,hd,by simpa using hs⟩,?_⟩
  have e:=r.length
  simp only[ycz]at e
  omega
theorem Inv.tuple (I:Inv X pins σ H s) (h:SqT X.K H a xs):∃its:List Value,zt xs its/\IsTup s.heap a its.toArray/\xs.length<=yai:=by
 rcases h with h|⟨o,its,n,hk,hc,hs,hz,r⟩
 ·obtain⟨z,its,r,p⟩:=h.ok I.hok
  exact⟨its,r,p,z⟩
 ·refine⟨its.toList,r,⟨o,I.kIn a o hk,hc,n,by simpa using hs⟩,?_⟩
  have e:=r.length
  simp only[ycz]at e
  omega
theorem Inv.list_inj (I:Inv X pins σ H s) (h:SqL X.K H a xs) (h':SqL X.K H a ys):xs=ys:=by
 obtain⟨its,r,⟨o,n,e,_,_,d⟩,_⟩:=I.list h
 obtain⟨its',r',⟨o',n',e',_,_,d'⟩,_⟩:=I.list h'
 rw[e]at e';cases e'
 rw[d]at d'
 injection d' with d1 _
 have:its=its':=by simpa using congrArg Array.toList d1
 subst this
 exact r.inj r'
theorem Inv.tuple_inj (I:Inv X pins σ H s) (h:SqT X.K H a xs) (h':SqT X.K H a ys):xs=ys:=by
 obtain⟨its,r,⟨o,e,_,n,d⟩,_⟩:=I.tuple h
 obtain⟨its',r',⟨o',e',_,n',d'⟩,_⟩:=I.tuple h'
 rw[e]at e';cases e'
 rw[d]at d'
 injection d' with d1 _
 have:its=its':=by simpa using congrArg Array.toList d1
 subst this
 exact r.inj r'
end
abbrev Cx.wish(X:Cx)(E:Value->yab->Prop):Cx:={X with xe:=E}
abbrev Cx.nox(X:Cx):Cx:=X.wish λ_ _=>False
theorem Cx.Ok.wish {X:Cx} (ok:X.Ok) (E:Value->yab->Prop):(X.wish E).Ok :=
 ⟨ok.mod,ok.kind,ok.glob,ok.blt,ok.above,ok.inj,ok.has,ok.cab,ok.hd,ok.frames,ok.stk,ok.exf,ok.bs,ok.bsz,ok.noex,ok.exfs,ok.funs,ok.frf⟩
theorem Cx.Ok.unwish {X:Cx} {E:Value->yab->Prop} (ok:(X.wish E).Ok):X.Ok :=
 ⟨ok.mod,ok.kind,ok.glob,ok.blt,ok.above,ok.inj,ok.has,ok.cab,ok.hd,ok.frames,ok.stk,ok.exf,ok.bs,ok.bsz,ok.noex,ok.exfs,ok.funs,ok.frf⟩
section
variable{X:Cx}{pins:List (Addr×Obj)}{σ:St}{H:Hp}{s:yab}{E:Value->yab->Prop}
theorem Inv.wish(I:Inv X pins σ H s)(E:Value->yab->Prop):Inv (X.wish E) pins σ H s:=⟨I.ok.wish E,I.os,I.bare,I.base,I.loc,I.cell,I.free,I.freeC,I.pin,I.hok,I.len⟩
theorem Inv.unwish(I:Inv (X.wish E) pins σ H s):Inv X pins σ H s:=⟨I.ok.unwish,I.os,I.bare,I.base,I.loc,I.cell,I.free,I.freeC,I.pin,I.hok,I.len⟩
theorem SP.unwish {D:qe6} {f:Flow} {s':yab} (h:SP (X.wish E) pins D f s'):SP X pins D f s':=by
 cases f with
 |next=>obtain⟨σ',H',I,q⟩:=h;exact⟨σ',H',I.unwish,q⟩
 |brk=>obtain⟨σ',H',I,q⟩:=h;exact⟨σ',H',I.unwish,q⟩
 |cont=>obtain⟨σ',H',I,q⟩:=h;exact⟨σ',H',I.unwish,q⟩
 |ret u=>obtain⟨v,σ',H',I,r,q⟩:=h;exact⟨v,σ',H',I.unwish,r,q⟩
theorem PE.nox {e:Expr} {t:TE} (h:PE X.nox e t):PE X e t:=λpins s σ H Q I hw=>
 ybi (h pins s σ H Q (I.wish _) hw) (λ_ _ ⟨v,H',I',r,q⟩=>⟨v,H',I'.unwish,r,q⟩) λ_ _ z=>ya9 z
theorem PT.nox {e:Expr} {t:TT} (h:PT X.nox e t):PT X e t:=λpins s σ H Q I hw=>
 ybi (h pins s σ H Q (I.wish _) hw) (λ_ _ ⟨H',I',q⟩=>⟨H',I'.unwish,q⟩) λ_ _ z=>ya9 z
theorem PSs.nox {st:List Stmt} {t:TS} (h:PSs X.nox st t):PSs X st t:=λpins s σ H D I hw=>
 ybi (h pins s σ H D (I.wish _) hw) (λ_ _ q=>q.unwish) λ_ _ z=>ya9 z
end
section
variable{X:Cx}{st:Stmt}{qah:List Stmt}{t u:TS}{e:Expr}{te:TE}{pos:Pos}
def qn4:TS:=λD σ H=>D.nx σ H
def qmg(t u:TS):TS:=λD σ H=>t {D with nx:=u D} σ H
theorem qki:PSs X [] qn4:=λ_ _ σ H _ I h=>ydo ⟨σ,H,I,h⟩
theorem vX (h1:PS X st t) (h2:PSs X qah u):PSs X (st::qah) (qmg t u):=by
 intro pins s σ H D I h
 refine wpAny_execs_cons (thn (h1 pins s σ H {D with nx:=u D} I h) λf s1 q=>?_)
 cases f with
 |next=>
  obtain⟨σ',H',I',q⟩:=q
  exact h2 pins s1 σ' H' D I' q
 |ret v=>exact q
 |brk=>exact q
 |cont=>exact q
theorem qbA (h1:PS X st t):PSs X [st] t:=by
 intro pins s σ H D I h
 refine wpAny_execs_cons (thn (h1 pins s σ H D I h) λf s1 q=>?_)
 cases f with
 |next=>exact ydo q
 |ret v=>exact q
 |brk=>exact q
 |cont=>exact q
theorem Inv.quiet{pins:List (Addr×Obj)}{σ:St}{H:Hp}{s:yab}(I:Inv X pins σ H s):interactive X.env=false:=by simp[interactive,I.ok.kind]
def qn5(te:TE):TS:=λD σ H=>te σ H λ_ H1=>D.nx σ H1
theorem qkj (he:PE X e te) (hs:ycK e none pos.line X.env=pure false:=by rfl):PS X (.Expr e pos) (qn5 te):=by
 intro pins s σ H D I h
 exact wpAny_Expr_any (thn (he pins s σ H _ I h) λv s1 ⟨x,H1,I1,r1,q1⟩=>⟨σ,H1,I1,q1⟩) I.quiet hs
def qpO(te:TE):TS:=λD σ H=>te σ H D.rt
theorem qjp (he:PE X e te):PS X (.Return (some e) pos) (qpO te):=by
 intro pins s σ H D I h
 exact wpAny_Return_some (thn (he pins s σ H _ I h) λv s1 ⟨x,H1,I1,r1,q1⟩=>⟨x,σ,H1,I1,r1,q1⟩)
def qpP(c:TT)(t u:TS):TS:=λD σ H=>c σ H λb H1=>if b=true then t D σ H1 else u D σ H1
theorem qn6 {c:Expr} {a b:List Stmt} {tc:TT} (hc:PT X c tc) (ha:PSs X a t) (hb:PSs X b u):PS X (.If c a b pos) (qpP tc t u):=by
 intro pins s σ H D I h
 refine wpAny_If (thn (hc pins s σ H _ I h) λd s1 ⟨H1,I1,q1⟩=>?_)
 cases d with
 |true=>exact ha pins s1 σ H1 D I1 q1
 |false=>exact hb pins s1 σ H1 D I1 q1
def qmh:TS:=λ_ _ _=>False
theorem qh8:PS X st qmh:=λ_ _ _ _ _ _ h=>h.elim
end
abbrev TG:=V->St->Hp->(St->Hp->Prop)->Prop
abbrev TGs:=List V->St->Hp->(St->Hp->Prop)->Prop
def PG (X:Cx) (target:Expr) (t:TG):Prop :=
 ∀ (pins:List (Addr×Obj)) (s:yab) (σ:St) (H:Hp) (v:V) (u:Value) (Q:St->Hp->Prop),Inv X pins σ H s->zY v u->t v σ H Q ->
  wpAny (model X.prog X.w) X.A (yb3 target X.env u) (λ_ s'=>∃σ' H',Inv X pins σ' H' s'/\Q σ' H') X.xe s
def PGs (X:Cx) (ts:List Expr) (t:TGs):Prop :=
 ∀ (pins:List (Addr×Obj)) (s:yab) (σ:St) (H:Hp) (vs:List V) (us:List Value) (Q:St->Hp->Prop),Inv X pins σ H s->zt vs us->t vs σ H Q ->
  wpAny (model X.prog X.w) X.A (yfw ((ybw ts X.env).map (·.2)) us) (λ_ s'=>∃σ' H',Inv X pins σ' H' s'/\Q σ' H') X.xe s
abbrev qn7:=V->V->V->Hp->(Hp->Prop)->Prop
def qpc (X:Cx) (t:qn7):Prop :=
 ∀ (pins:List (Addr×Obj)) (s:yab) (σ:St) (H:Hp) (o i v:V) (ov iv u:Value) (Q:Hp->Prop),Inv X pins σ H s->zY o ov->zY i iv->zY v u->t o i v H Q ->
  wpAny (model X.prog X.w) X.A (ye3 ov iv u) (λ_ s'=>∃H',Inv X pins σ H' s'/\Q H') X.xe s
section
variable{X:Cx}{pos:Pos}
def vA(i:Nat):TG:=λv σ H Q=>Q (σ.set i (some v)) H
theorem qbB {i:Nat} {x:Str} (hN:X.N.Nodup) (hi:X.N[i]? = some x) (hx:Loc X.env.scope x) (hf:X.fn x=true\/X.env.scope.names.lookup x=some .local:=by first|exact .inl rfl|exact .inr rfl|assumption):PG X (.Name x pos) (vA i):=by
 intro pins s σ H v u Q I r h
 exact yf2 (qai I hN hi hx r (λs' I'=>⟨_,H,I',h⟩) hf)
def qn8:TGs:=λvs σ H Q=>vs=[]/\Q σ H
def qfX(t:TG)(u:TGs):TGs:=λvs σ H Q=>∃v r,vs=v::r/\t v σ H λσ' H'=>u r σ' H' Q
theorem qdg:PGs X [] qn8:=by
 intro pins s σ H vs us Q I r h
 obtain⟨e,h⟩:=h
 subst e
 cases r
 exact yf3 ⟨σ,H,I,h⟩
theorem vY {e:Expr} {es:List Expr} {t:TG} {u:TGs} (h1:PG X e t) (h2:PGs X es u)
  (hs:(ybw (e::es) X.env).map (·.2)=yb3 e X.env::(ybw es X.env).map (·.2):=by rfl):PGs X (e::es) (qfX t u):=by
 intro pins s σ H vs us Q I r h
 obtain⟨v,vr,e1,h⟩:=h
 subst e1
 cases r with
 |cons r rr=>
  rw[hs]
  refine ydI (thn (h1 pins s σ H _ _ _ I r h) λ_ s1 ⟨σ1,H1,I1,q1⟩=>?_)
  exact h2 pins s1 σ1 H1 _ _ Q I1 rr q1
def qn9(K:yal)(n:Nat)(t:TGs):TG:=λv σ H Q=>∃a xs,v=.ref a/\SqT K H a xs/\xs.length=n/\t xs σ H Q
theorem qfY {es:List Expr} {k:Nat} {t:TGs} {n:Nat} (hc:X.calm=true) (h:PGs X es t)
  (hn:(ybw es X.env).length=n:=by rfl) (hst:(ybw es X.env).findIdx? (·.1)=none:=by rfl):PG X (.Tuple es k pos) (qn9 X.K n t):=by
 intro pins s σ H v u Q I r hw
 obtain⟨a,xs,e1,hq,hl,hw⟩:=hw
 subst e1
 cases r
 obtain⟨its,rv,ht,hz⟩:=I.tuple hq
 refine assign_Tuple_tuple (I.ok.hd hc) ht (by simp[hn,<-hl,rv.length]) hst λh' hx=>?_
 have I1:Inv X pins σ H {s with heap:=h' }:=I.kept (t':=s.toks) λb o e=>hx b o (yao (yae e)) e
 exact h pins _ σ H xs _ Q I1 (by simpa using rv) hw
def qpQ(to ti:TE)(t:qn7):TG:=λv σ H Q=>to σ H λo H1=>ti σ H1 λi H2=>t o i v H2 λH3=>Q σ H3
theorem qfZ {o i:Expr} {to ti:TE} {t:qn7} (ho:PE X o to) (hi:PE X i ti) (hs:qpc X t)
  (ha:∀v,yb3 (.Subscript o i pos) X.env v=(do
   let ov <-ybZ [v] (eval o X.env)
   let iv <-ybZ [v,ov] (eval i X.env)
   ye2 pos
   ybZ [v,ov,iv] (ye3 ov iv v)
   release [v,ov,iv] []):=by intro _;rfl):PG X (.Subscript o i pos) (qpQ to ti t):=by
 intro pins s σ H v u Q I r h
 rw[ha]
 refine yaa (ya0 (thn (ho pins s σ H _ I h) λov s1 ⟨x,H1,I1,r1,q1⟩=>?_))
 refine yaa (ya0 (thn (hi pins s1 σ H1 _ I1 q1) λiv s2 ⟨y,H2,I2,r2,q2⟩=>?_))
 refine yaa (yc8 (yaa (ya0 (thn (hs pins s2 σ H2 x y v ov iv u _ I2 r1 r2 r q2) λ_ s3 ⟨H3,I3,q3⟩=>?_))))
 exact wpAny_release ⟨σ,H3,I3,q3⟩
def qh2(te:TE)(g:TG):TS:=λD σ H=>te σ H λx H1=>g x σ H1 D.nx
theorem qf0 {tg e:Expr} {te:TE} {g:TG} (he:PE X e te) (hg:PG X tg g) (hs:yct [tg] e pos.line X.env=pure false:=by rfl) (hw:ycu [tg] e X.env=pure none:=by rfl)
  (h1:(ybw [tg] X.env).map (·.2)=[yb3 tg X.env]:=by rfl):PS X (.Assign [tg] e pos) (qh2 te g):=by
 intro pins s σ H D I h
 refine wpAny_Assign_stores (thn (he pins s σ H _ I h) λv s1 ⟨x,H1,I1,r1,q1⟩=>?_) hs hw
 rw[h1]
 exact thn (hg pins s1 σ H1 x v _ I1 r1 q1) λ_ s2 q=>q
theorem qbl {i:Nat} {x:Str} {e:Expr} {te:TE} {pos':Pos} (hN:X.N.Nodup) (hi:X.N[i]? = some x) (hx:Loc X.env.scope x) (he:PE X e te) (hs:ycK e (some (.Name x pos')) pos.line X.env=pure false:=by rfl) (hf:X.fn x=true\/X.env.scope.names.lookup x=some .local:=by first|exact .inl rfl|exact .inr rfl|assumption) :
  PS X (.Assign [.Name x pos'] e pos) (qh2 te (vA i)):=by
 intro pins s σ H D I h
 refine wpAny_Assign_Name (thn (he pins s σ H _ I h) λv s1 ⟨y,H1,I1,r1,q1⟩=>?_) hs
 exact qai I1 hN hi hx r1 (λs2 I2=>⟨_,H1,I2,q1⟩) hf
def qpR(i j:Nat)(ta:TA):TS:=λD σ H=>ta σ H λvs H1=>∃v w,vs=[v,w]/\D.nx ((σ.set i (some v)).set j (some w)) H1
theorem qmi {i j:Nat} {x y:Str} {a b:Expr} {ta:TA} {px py pt:Pos} {kt k2 pt2} (hc:X.calm=true) (hN:X.N.Nodup) (hi:X.N[i]? = some x) (hj:X.N[j]? = some y) (hij:i≠j)
  (hx:X.env.scope.names.lookup x=some .local) (hy:X.env.scope.names.lookup y=some .local) (ha:PA X [a,b] ta)
  (hw:ycu [.Tuple [.Name x px,.Name y py] kt pt] (.Tuple [a,b] k2 pt2) X.env=pure (some [x,y]))
  (hs:yct [.Tuple [.Name x px,.Name y py] kt pt] (.Tuple [a,b] k2 pt2) pos.line X.env=pure false:=by rfl) :
  PS X (.Assign [.Tuple [.Name x px,.Name y py] kt pt] (.Tuple [a,b] k2 pt2) pos) (qpR i j ta):=by
 intro pins s σ H D I h
 rw[exec_Assign_arm]
 refine yaa (yc8 ?_)
 rw[hs]
 refine yaa (yac ?_)
 rw[if_neg (by decide)]
 refine yaa (Tuple_ (thn (ha _ pins s σ H _ I h) λus s1 ⟨vs,H1,I1,r1,q1⟩=>?_))
 obtain⟨v,w,e1,q1⟩:=q1
 subst e1
 obtain ⟨u1,u2,rfl,rv,rw'⟩:∃u1 u2,us=[u1,u2]/\zY v u1/\zY w u2:=by
  cases r1 with
  | cons p q=>
   cases q with
   |cons p' q'=>
    cases q'
    exact⟨_,_,rfl,p,p'⟩
 refine yaK ?_ (by show 2<=yai;decide)
 have I2:Inv X pins σ H1 {s1 with heap:=s1.heap.push {cls:=.type "tuple",data:=.seq [u1,u2].toArray} }:=I1.kept (t':=s1.toks) λb o e=>Heap.get?_push_of_some _ e
 rw[hw]
 refine yaa (yac ?_)
 show wpAny (model X.prog X.w) X.A (do rule "assign.swapped-stores";let items <-unpackItems (.ref s1.heap.objs.size) 2 none;yfw [λv=>ygh X.env y v,λv=>ygh X.env x v] items.reverse;pure Flow.next) _ _ _
 refine yaa (ydp (yaa (unpackItems_tuple (items := #[u1,u2]) (I.ok.hd hc) (ydh s1.heap _) λh' hx'=>?_)))
 have I3:=I2.kept (h':=h') (t':=s1.toks) λb o e=>hx' b o (yao (yae e)) e
 show wpAny _ _ (yfw [λv=>ygh X.env y v,λv=>ygh X.env x v] [u2,u1] >>= λ_=>pure Flow.next) _ _ _
 refine yaa (ydI (wpAny_bindName (qai I3 hN hj (.inl hy) rw' (λs2 I4=>?_) (.inr hy))))
 refine ydI (wpAny_bindName (qai I4 hN hi (.inl hx) rv (λs3 I5=>yf3 (yac ?_)) (.inr hx)))
 rw[List.set_comm _ _ (ybk hij)]at I5
 exact⟨_,H1,I5,q1⟩
end
section
variable{X:Cx}{pos:Pos}
def qmj (c:TT) (tb:TS):TS:=λD σ H=>∃W:Nat->St->Hp->Prop,(∃m,W m σ H)/\∀m σ H,W m σ H ->
 c σ H λb H1=>if b=true then ∃N:St->Hp->Prop,(∀σ' H',N σ' H'->∃m',m'<m/\W m' σ' H')/\tb {D with nx:=N,ct:=N,bk:=D.nx} σ H1 else D.nx σ H1
theorem qh9 {c:Expr} {body:List Stmt} {tc:TT} {tb:TS} (hp:yeJ (model X.prog X.w) X.A X.env X.xe) (hc:PT X c tc) (hb:PSs X body tb):PS X (.While c body [] pos) (qmj tc tb):=by
 intro pins s σ H D I h
 obtain⟨W,⟨m0,w0⟩,turn⟩:=h
 refine wpAny_While (codeAny_whileLoop (λn s'=>∃σ' H',Inv X pins σ' H' s'/\W n σ' H') ?_ m0 ⟨σ,H,I,w0⟩)
 rintro n s1 ⟨σ1,H1,I1,w1⟩
 refine ybQ hp (thn (hc pins s1 σ1 H1 _ I1 (turn n σ1 H1 w1)) λb s2 ⟨H2,I2,q2⟩=>?_)
 cases b with
 | true=>
  obtain⟨N,hN,q2⟩:=q2
  rw[if_pos rfl]
  refine ybQ hp (thn (hb pins s2 σ1 H2 _ I2 q2) λf s3 q3=>?_)
  cases f with
  |next=>
   obtain⟨σ3,H3,I3,n3⟩:=q3
   obtain⟨m',hm,w3⟩:=hN σ3 H3 n3
   exact⟨m',hm,σ3,H3,I3,w3⟩
  |cont=>
   obtain⟨σ3,H3,I3,n3⟩:=q3
   obtain⟨m',hm,w3⟩:=hN σ3 H3 n3
   exact⟨m',hm,σ3,H3,I3,w3⟩
  |brk=>exact q3
  |ret v=>exact q3
 |false=>
  rw[if_neg yas]
  exact ydo ⟨σ1,H2,I2,q2⟩
end
structure It where
 go:Nat->Hp->Prop
 yld:Nat->Hp->V->Hp->Prop
 stop:Nat->Hp->Prop
def qc7 (X:Cx) (pins:List (Addr×Obj)) (H:Hp) (b:Addr):Prop :=
 H b=none/\b≠X.env.locals/\b ∉ X.fs/\(b∈X.ex\/X.s₀.heap.objs.size<=b)/\(∀x c,X.env.cells.lookup x=some c->c≠b)/\∀p∈X.pn++pins,p.1≠b
theorem Inv.fpOk {X:Cx} {pins:List (Addr×Obj)} {σ:St} {H H':Hp} {s:yab} {b:Addr} (I:Inv X pins σ H s) (hb:s.heap.objs.size<=b) (hn:H' b=none):qc7 X pins H' b:=by
 refine⟨hn,yb4 (yaw I.lt hb),I.nofs hb,.inr (yay I.sz hb),λx c e z=>?_,λp hp z=>?_⟩
 ·obtain⟨v,q⟩:=I.cell x c e
  exact absurd (yaw q.lt (by rw[z];exact hb)) (ybo _)
 ·exact absurd (yaw (yae (I.pin p hp).1) (by rw[z];exact hb)) (ybo _)
structure qkk (P:yan) (w:World) (K:yal) (tg:Expr) (J:It) (fp:List Addr) (it:Addr) (tn:Nat->Heap->Prop):Prop where
 mem:it∈fp
 obj:∀i h,tn i h->∀b∈fp,∃o,h.get? b=some o/\∀v,o.data ≠ .cell v
 keep:∀i h h',tn i h->(∀b∈fp,∀o,h.get? b=some o->h'.get? b=some o)->tn i h'
 item:∀(X:Cx),X.prog=P->X.w=w->X.K=K->X.calm=true->∀(i:Nat)(pins:List (Addr×Obj))(s:yab)(σ:St)(H:Hp)(E:Value->yab->Prop),Inv X pins σ H s->(∀b∈fp,qc7 X pins H b)->tn i s.heap->J.go i H ->
  wpAny (model P w) X.A (yc0 (.ref it)) (λr s1=>∃u,r=some u /\
   wpAny (model P w) X.A (ycF tg (.ref it) u) (λ_ s2=>∃x H',Inv X pins σ H' s2/\zY x u/\J.yld i H x H'/\tn (i+1) s2.heap/\∀b∈fp,H' b=none) E s1) E s
 done:∀(X:Cx),X.prog=P->X.w=w->X.K=K->X.calm=true->∀(i:Nat)(pins:List (Addr×Obj))(s:yab)(σ:St)(H:Hp)(E:Value->yab->Prop),Inv X pins σ H s->(∀b∈fp,qc7 X pins H b)->tn i s.heap->J.stop i H ->
  wpAny (model P w) X.A (yc0 (.ref it)) (λr s1=>r=none/\Inv X pins σ H s1) E s
 self:∀(A:yav)(i:Nat)(s:yab)(Q:Value->yab->Prop)(E:Value->yab->Prop),tn i s.heap->Q (.ref it) s->wpAny (model P w) A (pyIter (.ref it)) Q E s
abbrev TI:=St->Hp->(It->Hp->Prop)->Prop
def PIE (X:Cx) (pins:List (Addr×Obj)) (σ:St) (tg:Expr) (R:It->Hp->Prop) (itv:Value) (s2:yab):Prop :=
 ∃(it:Addr)(fp:List Addr)(tn:Nat->Heap->Prop)(J:It)(H':Hp),itv=.ref it/\Inv X pins σ H' s2/\qkk X.prog X.w X.K tg J fp it tn/\tn 0 s2.heap/\(∀b∈fp,qc7 X pins H' b)/\R J H'
def PI (X:Cx) (tg iter:Expr) (wi:TI):Prop :=
 ∀ (pins:List (Addr×Obj)) (s:yab) (σ:St) (H:Hp) (R:It->Hp->Prop),Inv X pins σ H s->wi σ H R ->
  wpAny (model X.prog X.w) X.A (eval iter X.env) (λv s1=>wpAny (model X.prog X.w) X.A (pyIter v) (PIE X pins σ tg R) X.xe s1) X.xe s
theorem qkl {M:Model} {A:yav} {E:Value->yab->Prop} {s:yab} {tg:Expr} {it:Addr} {u:Value} {o:Obj} {n:String} {vs:Array Value} {Q:Unit->yab->Prop} (ho:s.heap.get? it=some o) (hc:o.cls=.type n) (hd:o.data=.fields vs)
  (hn:["enumerate","zip","dict_itemiterator","dict_reverseitemiterator","odict_iterator","itertools.zip_longest","itertools.pairwise"].contains n=false) (hQ:Q () s):wpAny M A (ycF tg (.ref it) u) Q E s:=by
 unfold ycF
 cases tg<;>first
  |exact yac hQ
  | (cases u<;>first
    |exact yac hQ
    | (refine yaa (wpAny_load ho ?_)
       rw[hc,hd]
       show wpAny M A (if(["enumerate","zip","dict_itemiterator","dict_reverseitemiterator","odict_iterator","itertools.zip_longest","itertools.pairwise"].contains n&&vs[0]? == some (ycb _))=true then _ else _) Q E s
       rw[if_neg (by intro h;rw[hn,ybe]at h;cases h)]
       exact yac hQ))
def Itl (K:yal) (a:Addr):It :=
 ⟨λi H=>∃xs x,SqL K H a xs/\xs[i]? = some x,λi H x H'=>H'=H/\∀xs,SqL K H a xs->xs[i]? = some x,λi H=>∃xs,SqL K H a xs/\xs.length<=i⟩
def Itt (K:yal) (a:Addr):It :=
 ⟨λi H=>∃xs x,SqT K H a xs/\xs[i]? = some x,λi H x H'=>H'=H/\∀xs,SqT K H a xs->xs[i]? = some x,λi H=>∃xs,SqT K H a xs/\xs.length<=i⟩
def Itr(lo:Int)(n:Nat):It:=⟨λi _=>i<n,λi H x H'=>H'=H/\x=.int (lo+i),λi _=>n<=i⟩
theorem qf1 {P:yan} {w:World} {K:yal} {tg:Expr} (a it:Addr):qkk P w K tg (Itl K a) [it] it (λi h=>h.IsListIter it a i) where
 mem:=by simp
 obj:=λi h st b hb=>by
  have e:b=it:=by simpa using hb
  subst e
  obtain⟨o,e,c,d⟩:=st
  exact⟨o,e,λv z=>by rw[d]at z;cases z⟩
 keep:=λi h h' st k=>st.at λo e=>k it (by simp) o e
 item:=by
  intro X hP hw hK hc i pins s σ H E I hf st hg
  subst hP hw hK
  obtain⟨xs,x,hq,hx⟩:=hg
  obtain⟨its,rv,p,hz⟩:=I.list hq
  obtain⟨u,hu,ru⟩:=rv.get hx
  obtain⟨f0,f1,f2,f3,f4,f5⟩:=hf it (by simp)
  refine wpAny_pyNext_list_item st p.isList (x:=u) (by simpa using hu) λh' st' sb=>?_
  have I1:Inv X pins σ H {s with heap:=h' }:=I.turned (t':=s.toks) (λb o hb e=>(sb.2 b hb).trans e) f0 f1 f3 f4 f5
  obtain⟨o,e,c,d⟩:=id st'
  exact⟨u,rfl,qkl (s:={s with heap:=h' }) e c d (by decide) ⟨x,H,I1,ru,⟨rfl,λys hy=>by rw[I.list_inj hy hq];exact hx⟩,st',λb hb=>(hf b hb).1⟩⟩
 done:=by
  intro X hP hw hK hc i pins s σ H E I hf st hg
  subst hP hw hK
  obtain⟨xs,hq,hx⟩:=hg
  obtain⟨its,rv,p,hz⟩:=I.list hq
  obtain⟨f0,f1,f2,f3,f4,f5⟩:=hf it (by simp)
  have hl:=rv.length
  exact wpAny_pyNext_list_end (I.ok.hd hc) st p.isList (by simp;omega) λh' eb=>⟨rfl,I.turned (t':=s.toks) (λb o hb e=>eb b o hb e) f0 f1 f3 f4 f5⟩
 self:=λ_ _ _ _ _ st h=>wpAny_pyIter_listiter st h
theorem qe7 {P:yan} {w:World} {K:yal} {tg:Expr} (a it:Addr):qkk P w K tg (Itt K a) [it] it (λi h=>h.IsTupleIter it a i) where
 mem:=by simp
 obj:=λi h st b hb=>by
  have e:b=it:=by simpa using hb
  subst e
  obtain⟨o,e,c,d⟩:=st
  exact⟨o,e,λv z=>by rw[d]at z;cases z⟩
 keep:=λi h h' st k=>st.at λo e=>k it (by simp) o e
 item:=by
  intro X hP hw hK hc i pins s σ H E I hf st hg
  subst hP hw hK
  obtain⟨xs,x,hq,hx⟩:=hg
  obtain⟨its,rv,p,hz⟩:=I.tuple hq
  obtain⟨u,hu,ru⟩:=rv.get hx
  obtain⟨f0,f1,f2,f3,f4,f5⟩:=hf it (by simp)
  refine wpAny_pyNext_tuple_item st (show s.heap.IsTuple a its.toArray from p) (x:=u) (by simpa using hu) λh' st' sb=>?_
  have I1:Inv X pins σ H {s with heap:=h' }:=I.turned (t':=s.toks) (λb o hb e=>(sb.2 b hb).trans e) f0 f1 f3 f4 f5
  obtain⟨o,e,c,d⟩:=id st'
  exact⟨u,rfl,qkl (s:={s with heap:=h' }) e c d (by decide) ⟨x,H,I1,ru,⟨rfl,λys hy=>by rw[I.tuple_inj hy hq];exact hx⟩,st',λb hb=>(hf b hb).1⟩⟩
 done:=by
  intro X hP hw hK hc i pins s σ H E I hf st hg
  subst hP hw hK
  obtain⟨xs,hq,hx⟩:=hg
  obtain⟨its,rv,p,hz⟩:=I.tuple hq
  obtain⟨f0,f1,f2,f3,f4,f5⟩:=hf it (by simp)
  have hl:=rv.length
  exact wpAny_pyNext_tuple_end (I.ok.hd hc) st (show s.heap.IsTuple a its.toArray from p) (by simp;omega) λh' eb=>⟨rfl,I.turned (t':=s.toks) (λb o hb e=>eb b o hb e) f0 f1 f3 f4 f5⟩
 self:=λ_ _ _ _ _ st h=>wpAny_pyIter_tupleiter st h
theorem qe8 {P:yan} {w:World} {K:yal} {tg:Expr} (it:Addr) (lo:Int) (n:Nat):qkk P w K tg (Itr lo n) [it] it (λi h=>IsRangeIter h it (lo+(i:Nat)*1) ((n:Int)-(i:Nat)) 1) where
 mem:=by simp
 obj:=λi h st b hb=>by
  have e:b=it:=by simpa using hb
  subst e
  exact ⟨_,st,λv z=>by
   have z':ygd _=Data.cell v:=z
   cases z'⟩
 keep:=λi h h' st k=>k it (by simp) _ st
 item:=by
  intro X hP hw hK hc i pins s σ H E I hf st hg
  subst hP hw hK
  obtain⟨f0,f1,f2,f3,f4,f5⟩:=hf it (by simp)
  have W:=Walks.range (prog:=X.prog) (w:=X.w) (I.ok.hd hc) it lo 1 n
  refine W.item i s _ _ hg st λv h' tk hv st' kk=>?_
  obtain⟨t,rfl⟩:=hv
  have I1:Inv X pins σ H {s with heap:=h',toks:=tk}:=I.turned (λb o hb e=>kk b o (by simpa using hb) e) f0 f1 f3 f4 f5
  refine⟨_,rfl,qkl (s:={s with heap:=h',toks:=tk}) (n:="range_iterator") st' rfl rfl (by decide) ⟨.int (lo+i),H,I1,⟨t,?_⟩,⟨rfl,rfl⟩,st',λb hb=>(hf b hb).1⟩⟩
  rw[Int.mul_one]
 done:=by
  intro X hP hw hK hc i pins s σ H E I hf st hg
  subst hP hw hK
  obtain⟨f0,f1,f2,f3,f4,f5⟩:=hf it (by simp)
  exact wpAny_pyNext_range_end (I.ok.hd hc) st (by have:n<=i:=hg;omega) λh' eb=>⟨rfl,I.turned (t':=s.toks) (λb o hb e=>eb b o hb e) f0 f1 f3 f4 f5⟩
 self:=λ_ _ _ _ _ st h=>wpAny_pyIter_rangeiter st h
end L2
namespace L2
open PySem PySem.Spec PyProof.Rows
section
variable{X:Cx}{tg:Expr}
theorem qdY {pins:List (Addr×Obj)} {σ:St} {H:Hp} {s:yab} {R:It->Hp->Prop} {E:Value->yab->Prop} {lo hi:Int} {t u v:Tok} {tk:Nat} (I:Inv X pins σ H s) (h1 : -(2 ^ 62)<=lo) (h2:lo<2 ^ 62) (h3 : -(2 ^ 62)<=hi) (h4:hi<2 ^ 62)
  (q:R (Itr lo (hi-lo).toNat) H):wpAny (model X.prog X.w) X.A (pyIter (.ref s.heap.objs.size)) (PIE X pins σ tg R) E {s with heap:=s.heap.push {cls:=.type "range",data:=.fields #[.int lo t,.int hi u,.int 1 v]},toks:=tk}:=by
 refine wpAny_pyIter_range (IsRange.new ..) (small_one h1 h2 h3 h4) ?_
 have I1:Inv X pins σ H {s with heap:=s.heap.push {cls:=.type "range",data:=.fields #[.int lo t,.int hi u,.int 1 v]},toks:=tk}:=I.kept λb o e=>Heap.get?_push_of_some _ e
 refine ⟨(s.heap.push {cls:=.type "range",data:=.fields #[.int lo t,.int hi u,.int 1 v]}).objs.size,[(s.heap.push {cls:=.type "range",data:=.fields #[.int lo t,.int hi u,.int 1 v]}).objs.size],_,_,H,rfl,
  I1.kept (t':=tk) λb o e=>Heap.get?_push_of_some _ e,qe8 _ lo (hi-lo).toNat,?_,λb hb=>?_,q⟩
 ·have e1:lo+((0:Nat):Int)*1=lo:=by simp
  have e2:(((hi-lo).toNat:Nat):Int)-((0:Nat):Int)=Builtin.Range.rangeSize lo hi 1:=by rw[rangeSize_one];split<;>omega
  show IsRangeIter _ _ (lo+((0:Nat):Int)*1) ((((hi-lo).toNat:Nat):Int)-((0:Nat):Int)) 1
  rw[e1,e2]
  exact Heap.get?_push_size _ rfl
 ·have e:b=(s.heap.push {cls:=.type "range",data:=.fields #[.int lo t,.int hi u,.int 1 v]}).objs.size:=by simpa using hb
  subst e
  exact I1.fpOk (yad _) (I1.hok.fresh (yad _))
def qoa(ta:TA):TI:=λσ H R=>ta σ H λvs H1=>∃j:Int,vs=[.int j] /\ -(2 ^ 62)<=j/\j<2 ^ 62/\R (Itr 0 j.toNat) H1
def qob(ta:TA):TI:=λσ H R=>ta σ H λvs H1=>∃i j:Int,vs=[.int i,.int j]/\(-(2 ^ 62)<=i/\i<2 ^ 62 /\ -(2 ^ 62)<=j/\j<2 ^ 62)/\R (Itr i (j-i).toNat) H1
theorem qf2 {a:Expr} {ta:TA} {p pos:Pos} (hg:Gl X "range") (hm:X.mg "range"=none) (ha:PA X [a] ta) (hs:yah [a] X.env=[(false,eval a X.env)]:=by rfl):PI X tg (.Call (.Name "range" p) [a] [] pos) (qoa ta):=by
 intro pins s σ H R I h
 refine Call_ (qap I hg hm boot_range (ybu (thn (ha pos pins s σ H _ I h) λus s1 ⟨vs,H1,I1,r1,q1⟩=>?_) hs rfl))
 obtain⟨j,e,q1,q2,q⟩:=q1
 subst e
 cases r1 with
 |cons r rr=>
  cases rr
  obtain⟨t,rfl⟩:=r
  exact call_range_1 (qdY I1 (by omega) (by omega) q1 q2 (by simpa using q))
theorem qf3 {a b:Expr} {ta:TA} {p pos:Pos} (hg:Gl X "range") (hm:X.mg "range"=none) (ha:PA X [a,b] ta) (hs:yah [a,b] X.env=[(false,eval a X.env),(false,eval b X.env)]:=by rfl) (hs2:yah [b] X.env=[(false,eval b X.env)]:=by rfl) :
  PI X tg (.Call (.Name "range" p) [a,b] [] pos) (qob ta):=by
 intro pins s σ H R I h
 refine Call_ (qap I hg hm boot_range (ybu (thn (ha pos pins s σ H _ I h) λus s1 ⟨vs,H1,I1,r1,q1⟩=>?_) (by rw[hs,hs2]) (by rw[hs2];rfl)))
 obtain⟨i,j,e,⟨q1,q2,q3,q4⟩,q⟩:=q1
 subst e
 cases r1 with
 | cons r rr=>
  cases rr with
  |cons r' rr=>
   cases rr
   obtain⟨t,rfl⟩:=r
   obtain⟨t',rfl⟩:=r'
   exact call_range_2 (qdY I1 q1 q2 q3 q4 q)
def qpd (wi:TI) (g:TG) (tb:TS):TS:=λD σ H=>wi σ H λJ H1=>∃W:Nat->Nat->St->Hp->Prop,(∃m,W 0 m σ H1)/\∀i m σ H,W i m σ H ->
 (J.stop i H/\D.nx σ H)\/(J.go i H/\∃N:St->Hp->Prop,(∀σ' H',N σ' H'->∃m',m'<m/\W (i+1) m' σ' H')/\∀x H',J.yld i H x H'->g x σ H' λσ2 H2=>tb {D with nx:=N,ct:=N,bk:=D.nx} σ2 H2)
def qbm(fp:List Addr)(h:Heap):List (Addr×Obj):=fp.filterMap λb=>(h.get? b).map λo=>(b,o)
theorem yu{fp:List Addr}{h:Heap}{b:Addr}{o:Obj}(hb:b∈fp)(e:h.get? b=some o):(b,o)∈qbm fp h:=List.mem_filterMap.mpr ⟨b,hb,by rw[e];rfl⟩
theorem qf4 {fp:List Addr} {h:Heap} {p:Addr×Obj} (hp:p∈qbm fp h):p.1∈fp/\h.get? p.1=some p.2:=by
 obtain⟨b,hb,e⟩:=List.mem_filterMap.mp hp
 cases q:h.get? b with
 |none=>rw[q]at e;cases e
 |some o=>
  rw[q]at e
  have e':(b,o)=p:=yaz e
  subst e'
  exact⟨hb,q⟩
theorem Inv.pinned {pins:List (Addr×Obj)} {σ:St} {H:Hp} {s:yab} {fp:List Addr} (I:Inv X pins σ H s) (hf:∀b∈fp,qc7 X pins H b) (ho:∀b∈fp,∃o,s.heap.get? b=some o/\∀v,o.data ≠ .cell v):Inv X (pins++qbm fp s.heap) σ H s :=
 I.pins_of λp hp=>(mA_.mp hp).elim (λz=>I.pin p (mr_ _ z)) λz=>by
  obtain⟨hb,e⟩:=qf4 z
  obtain⟨f0,f1,f2,_⟩:=hf p.1 hb
  obtain⟨o,e',d⟩:=ho p.1 hb
  rw[e]at e';cases e'
  exact⟨e,f0,f1,f2,d⟩
theorem Inv.unpinned{pins pl:List (Addr×Obj)}{σ:St}{H:Hp}{s:yab}(I:Inv X (pins++pl) σ H s):Inv X pins σ H s:=I.pins_of λp hp=>I.pin p (mr_ _ (ydn _ hp))
theorem qf5 {iter:Expr} {body:List Stmt} {wi:TI} {g:TG} {tb:TS} {pos:Pos} (hp:yeJ (model X.prog X.w) X.A X.env X.xe) (hc:X.calm=true) (hi:PI X tg iter wi) (hg:PG X tg g) (hb:PSs X body tb)
  (hs:∀x,ybs iter X.env x=pure x:=by intro _;rfl):PS X (.For tg iter body [] pos) (qpd wi g tb):=by
 intro pins s σ H D I h
 refine wpAny_For (thn (hi pins s σ H _ I h) λv s1 h1=>thn h1 λitv s2 h2=>?_) hs
 obtain⟨it,fp,tn,J,H2,e,I2,T,st2,f2,W,⟨m0,w0⟩,turn⟩:=h2
 subst e
 have stat:∀{H':Hp},(∀b∈fp,H' b=none)->∀b∈fp,qc7 X pins H' b:=λhn b hb=>⟨hn b hb,(f2 b hb).2⟩
 refine codeAny_forLoop_any (λn s'=>∃i σ' H',Inv X pins σ' H' s'/\tn i s'.heap/\(∀b∈fp,H' b=none)/\W i n σ' H') ?_ m0 ⟨0,σ,H2,I2,st2,λb hb=>(f2 b hb).1,w0⟩
 rintro n s3 ⟨i,σ3,H3,I3,st3,fr3,w3⟩
 rcases turn i n σ3 H3 w3 with⟨stop,qn⟩|⟨go,N,hN,step⟩
 ·refine ybQ hp (thn (T.done X rfl rfl rfl hc i pins s3 σ3 H3 X.xe I3 (stat fr3) st3 stop) λr s4 ⟨hr,I4⟩=>?_)
  subst hr
  exact ydo ⟨σ3,H3,I4,qn⟩
 ·refine ybQ hp (thn (T.item X rfl rfl rfl hc i pins s3 σ3 H3 X.xe I3 (stat fr3) st3 go) λr s4 ⟨u,hr,h4⟩=>?_)
  subst hr
  refine ybQ hp (thn h4 λ_ s5 ⟨x,H5,I5,r5,y5,st5,fr5⟩=>?_)
  have I5':=I5.pinned (stat fr5) (T.obj _ _ st5)
  refine ybQ hp (thn (hg _ s5 σ3 H5 x u _ I5' r5 (step x H5 y5)) λ_ s6 ⟨σ6,H6,I6,q6⟩=>?_)
  refine ybQ hp (thn (hb _ s6 σ6 H6 _ I6 q6) λf s7 q7=>?_)
  have again:∀{σ7:St}{H7:Hp},Inv X (pins++qbm fp s5.heap) σ7 H7 s7->N σ7 H7->∃m,m<n/\∃i σ' H',Inv X pins σ' H' s7/\tn i s7.heap/\(∀b∈fp,H' b=none)/\W i m σ' H':=λ{σ7 H7} I7 n7=>by
   obtain⟨m',hm,w7⟩:=hN σ7 H7 n7
   refine⟨m',hm,i+1,σ7,H7,I7.unpinned,T.keep _ _ _ st5 λb hb o e=>(I7.pin (b,o) (mr_ _ (mr_ _ (yu hb e)))).1,λb hb=>?_,w7⟩
   obtain⟨o,e,d⟩:=T.obj _ _ st5 b hb
   exact(I7.pin (b,o) (mr_ _ (mr_ _ (yu hb e)))).2.1
  cases f with
  |next=>obtain⟨σ7,H7,I7,n7⟩:=q7;exact again I7 n7
  |cont=>obtain⟨σ7,H7,I7,n7⟩:=q7;exact again I7 n7
  |brk=>obtain⟨σ7,H7,I7,q7⟩:=q7;exact⟨σ7,H7,I7.unpinned,q7⟩
  |ret v=>obtain⟨x7,σ7,H7,I7,r7,q7⟩:=q7;exact⟨x7,σ7,H7,I7.unpinned,r7,q7⟩
end
end L2
namespace L2
open PySem PySem.Spec PyProof.Rows
abbrev R2:=V->V->Hp->VK->Prop
def OpR (X:Cx) (f:Value->Value->Sem Value) (r:R2):Prop :=
 ∀ (pins:List (Addr×Obj)) (s:yab) (σ:St) (H:Hp) (x y:V) (v u:Value) (Q:VK),Inv X pins σ H s->zY x v->zY y u->r x y H Q ->
  wpAny (model X.prog X.w) X.A (f v u) (EP X pins σ Q) X.xe s
def UnR (X:Cx) (f:Value->Sem Value) (r:V->Hp->VK->Prop):Prop :=
 ∀ (pins:List (Addr×Obj)) (s:yab) (σ:St) (H:Hp) (x:V) (v:Value) (Q:VK),Inv X pins σ H s->zY x v->r x H Q ->
  wpAny (model X.prog X.w) X.A (f v) (EP X pins σ Q) X.xe s
def jN (X:Cx) (f:Value) (r:List V->Hp->VK->Prop):Prop :=
 ∀ (pins:List (Addr×Obj)) (s:yab) (σ:St) (H:Hp) (xs:List V) (us:List Value) (Q:VK),Inv X pins σ H s->zt xs us->r xs H Q ->
  wpAny (model X.prog X.w) X.A (call f us) (EP X pins σ Q) X.xe s
def tOp(r:R2)(ta tb:TE):TE:=λσ H Q=>ta σ H λx H1=>tb σ H1 λy H2=>r x y H2 Q
def tUn(r:V->Hp->VK->Prop)(ta:TE):TE:=λσ H Q=>ta σ H λx H1=>r x H1 Q
def rI(C:Int->Int->Prop)(g:Int->Int->V):R2:=λx y H Q=>∃i j,x=.int i/\y=.int j/\C i j/\Q (g i j) H
def rI0(g:Int->Int->V):R2:=λx y H Q=>∃i j,x=.int i/\y=.int j/\Q (g i j) H
def rU(g:Int->V):V->Hp->VK->Prop:=λx H Q=>∃i,x=.int i/\Q (g i) H
section
variable{X:Cx}{a b c:Expr}{ta tb tc:TE}{pos:Pos}
theorem qoc (ha:PE X a ta) (hb:PE X b tb) {pins:List (Addr×Obj)} {s:yab} {σ:St} {H:Hp} {R:V->V->Hp->Prop} (I:Inv X pins σ H s)
  (h:ta σ H λx H1=>tb σ H1 λy H2=>R x y H2) {Q:Value->yab->Prop} {f:Value->Value->Sem Value}
  (hf:∀v u s2 x y H2,Inv X pins σ H2 s2->zY x v->zY y u->R x y H2->wpAny (model X.prog X.w) X.A (f v u) Q X.xe s2) :
  wpAny (model X.prog X.w) X.A (eval a X.env) (λv sK=>wpAny (model X.prog X.w) X.A (eval b X.env) (λu sY=>wpAny (model X.prog X.w) X.A (f v u) Q X.xe sY) X.xe sK) X.xe s:=by
 refine thn (ha pins s σ H _ I h) λv s1 ⟨x,H1,I1,r1,q1⟩=>?_
 refine thn (hb pins s1 σ H1 _ I1 q1) λu s2 ⟨y,H2,I2,r2,q2⟩=>?_
 exact hf v u s2 x y H2 I2 r1 r2 q2
theorem qmk {op:Operator} {r:R2} (ho:OpR X (ya8 op) r) (ha:PE X a ta) (hb:PE X b tb):PE X (.BinOp a op b pos) (tOp r ta tb):=by
 intro pins s σ H Q I h
 exact wpAny_BinOp (qoc ha hb I h λv u s2 x y H2 I2 rx ry q=>ho pins s2 σ H2 x y v u Q I2 rx ry q)
theorem qod {op:UnaryOp} {r:V->Hp->VK->Prop} (ho:UnR X (unaryOp op) r) (ha:PE X a ta):PE X (.UnaryOp op a pos) (tUn r ta):=by
 intro pins s σ H Q I h
 exact UnaryOp_ (thn (ha pins s σ H _ I h) λv s1 ⟨x,H1,I1,r1,q1⟩=>ho pins s1 σ H1 x v Q I1 r1 q1)
theorem opI {f:Value->Value->Sem Value} {C:Int->Int->Prop} {g:Int->Int->Int}
  (rule:∀(i j:Int)(t u:Tok)(s:yab)(Q:Value->yab->Prop)(E:Value->yab->Prop),C i j->Q (.int (g i j) s.toks) {s with toks:=s.toks+1}->wpAny (model X.prog X.w) X.A (f (.int i t) (.int j u)) Q E s) :
  OpR X f (rI C λi j => .int (g i j)):=by
 intro pins s σ H x y v u Q I rx ry h
 obtain⟨i,j,rfl,rfl,hc,q⟩:=h
 obtain⟨t,rfl⟩:=rx
 obtain⟨t',rfl⟩:=ry
 exact rule i j t t' s _ _ hc ⟨.int (g i j),H,I.tok _,⟨_,rfl⟩,q⟩
theorem qpe {f:Value->Value->Sem Value} {g:Int->Int->Int}
  (rule:∀(i j:Int)(t u:Tok)(s:yab)(Q:Value->yab->Prop)(E:Value->yab->Prop),Q (.int (g i j) s.toks) {s with toks:=s.toks+1}->wpAny (model X.prog X.w) X.A (f (.int i t) (.int j u)) Q E s) :
  OpR X f (rI0 λi j => .int (g i j)):=by
 intro pins s σ H x y v u Q I rx ry h
 obtain⟨i,j,rfl,rfl,q⟩:=h
 obtain⟨t,rfl⟩:=rx
 obtain⟨t',rfl⟩:=ry
 exact rule i j t t' s _ _ ⟨.int (g i j),H,I.tok _,⟨_,rfl⟩,q⟩
theorem qoe {f:Value->Value->Sem Value} {g:Int->Int->Bool}
  (rule:∀(i j:Int)(t u:Tok)(s:yab)(Q:Value->yab->Prop)(E:Value->yab->Prop),Q (.bool (g i j)) s->wpAny (model X.prog X.w) X.A (f (.int i t) (.int j u)) Q E s) :
  OpR X f (rI0 λi j => .bl (g i j)):=by
 intro pins s σ H x y v u Q I rx ry h
 obtain⟨i,j,rfl,rfl,q⟩:=h
 obtain⟨t,rfl⟩:=rx
 obtain⟨t',rfl⟩:=ry
 exact rule i j t t' s _ _ ⟨.bl (g i j),H,I,rfl,q⟩
def qml(i j:Int):Prop:=0<j/\j<1606938044258990275541962092341162602522202993782792835301376
theorem qpf {i j:Int} (h1:0<j) (h2:j<1606938044258990275541962092341162602522202993782792835301376):Builtin.divisionGoesByPylong i j=false:=by
 refine PyProof.noPylong_of_log2 ?_
 have h0:j.natAbs≠0:=by omega
 have h3:j.natAbs<2 ^ 200:=by
   have:(2:Nat) ^ 200=1606938044258990275541962092341162602522202993782792835301376:=by decide +kernel
   omega
 have:=(yc1 h0).mpr h3
 omega
def qpg(i j:Int):Prop:=0<=j/\j<=1000000/\i.natAbs<2 ^ 64
def qmm(i j:Int):Prop:=(-(2 ^ 64)<i/\i<2 ^ 64)\/(-(2 ^ 64)<j/\j<2 ^ 64)
theorem qmm.ok {i j:Int} (h:qmm i j):IntMulOk i j:=by
 rcases h with⟨h1,h2⟩|⟨h1,h2⟩
 ·exact .of_left (intBits_le_64 h1 h2)
 ·exact .of_right (intBits_le_64 h1 h2)
theorem qjq:OpR X (ya8 .Add) (rI0 λi j => .int (i+j)):=qpe λ_ _ _ _ _ _ _ q=>add_int q
theorem qcj:OpR X (ya8 .Sub) (rI0 λi j => .int (i-j)):=qpe λ_ _ _ _ _ _ _ q=>sub_int q
theorem qmn:OpR X (ya8 .Mult) (rI qmm λi j => .int (i*j)):=opI λ_ _ _ _ _ _ _ hc q=>mul_int q hc.ok
theorem wC:OpR X (ya8 .FloorDiv) (rI qml λi j => .int (i/j)):=opI λi j _ _ _ _ _ hc q=>by
 have h1:(0:Int)<j:=hc.1
 have h2:j<1606938044258990275541962092341162602522202993782792835301376:=hc.2
 exact floordiv_int (by omega) (by rw[ydT i (by omega)];exact q) (.inl (qpf h1 h2))
theorem uD:OpR X (ya8 .Mod) (rI (λ_ j=>0<j) λi j => .int (i%j)):=opI λi j _ _ _ _ _ hc q=>by
 have h1:(0:Int)<j:=hc
 exact mod_int' (by omega) (by rw[ydU i (by omega)];exact q)
theorem qf6:OpR X (ya8 .Pow) (rI qpg λi j => .int (i ^ j.toNat)):=opI λ_ _ _ _ _ _ _ hc q=>pow_int_small hc.1 hc.2.1 hc.2.2 q
theorem unI {f:Value->Sem Value} {g:Int->Int}
  (rule:∀(i:Int)(t:Tok)(s:yab)(Q:Value->yab->Prop)(E:Value->yab->Prop),Q (.int (g i) s.toks) {s with toks:=s.toks+1}->wpAny (model X.prog X.w) X.A (f (.int i t)) Q E s) :
  UnR X f (rU λi => .int (g i)):=by
 intro pins s σ H x v Q I rx h
 obtain⟨i,rfl,q⟩:=h
 obtain⟨t,rfl⟩:=rx
 exact rule i t s _ _ ⟨.int (g i),H,I.tok _,⟨_,rfl⟩,q⟩
theorem qmo:UnR X (unaryOp .USub) (rU λi => .int (-i)):=unI λ_ _ _ _ _ q=>neg_int q
end
def qof:V->V->Bool
 |.non,.non=>true|.non,.int _=>true|.int _,.non=>true|.non,.bl _=>true|.bl _,.non=>true|.non,.str _=>true|.str _,.non=>true
 |.int _,.int _=>true|.bl _,.bl _=>true|.str _,.str _=>true|.byt _,.byt _=>true
 |.int _,.str _=>true|.str _,.int _=>true|.bl _,.str _=>true|.str _,.bl _=>true
 |_,_=>false
def rEq:R2:=λx y H Q=>qof x y=true/\Q (.bl (decide (x=y))) H
def rNe:R2:=λx y H Q=>qof x y=true/\Q (.bl (!decide (x=y))) H
theorem qf7 {i j:Int}:decide (V.int i=V.int j)=(i==j):=by
 rw[ycd]
 simp
theorem qjr {i j:Bool}:decide (V.bl i=V.bl j)=(i==j):=by
 rw[ycd]
 simp
theorem qf8 {i j:Str}:decide (V.str i=V.str j)=(i==j):=by
 rw[ycd]
 simp
theorem qf9 {i j:Array UInt8}:decide (V.byt i=V.byt j)=(i.toList==j.toList):=by
 rw[ycd]
 cases i
 cases j
 simp
section
variable{X:Cx}{a b c:Expr}{ta tb tc:TE}{pos:Pos}
theorem zu {pins:List (Addr×Obj)} {σ:St} {H:Hp} {s:yab} {Q:VK} {k k':Bool} (I:Inv X pins σ H s) (q:Q (.bl k) H) (e:k=k'):EP X pins σ Q (.bool k') s:=by
 subst e
 exact⟨.bl k,H,I,rfl,q⟩
theorem qog:OpR X (ybg .Eq) rEq:=by
 intro pins s σ H x y v u Q I rx ry h
 obtain⟨hs,q⟩:=h
 cases x with
 |non=>
  cases rx
  cases y with
  |non=>cases ry;exact PySem.EqNone.eq_none_none (zu I q (by simp))
  |bl j=>cases ry;exact PySem.EqNone.eq_none_bool (zu I q (by simp))
  |int j=>obtain⟨t',rfl⟩:=ry;exact PySem.EqNone.eq_none_int (zu I q (by simp))
  |str j=>obtain⟨t',rfl⟩:=ry;exact PySem.EqNone.eq_none_str (zu I q (by simp))
  |_=>exact absurd (show false=true from hs) yas
 |bl i=>
  cases rx
  cases y with
  |non=>cases ry;exact PySem.EqNone.eq_bool_none (zu I q (by simp))
  |bl j=>cases ry;exact eq_bool (zu I q qjr)
  |str j=>obtain⟨t',rfl⟩:=ry;exact PySem.EqMixed.eq_bool_str (zu I q (by simp))
  |_=>exact absurd (show false=true from hs) yas
 |int i=>
  obtain⟨t,rfl⟩:=rx
  cases y with
  |non=>cases ry;exact PySem.EqNone.eq_int_none (zu I q (by simp))
  |int j=>obtain⟨t',rfl⟩:=ry;exact eq_int (zu I q qf7)
  |str j=>obtain⟨t',rfl⟩:=ry;exact PySem.EqMixed.eq_int_str (zu I q (by simp))
  |_=>exact absurd (show false=true from hs) yas
 |str i=>
  obtain⟨t,rfl⟩:=rx
  cases y with
  |non=>cases ry;exact PySem.EqNone.eq_str_none (zu I q (by simp))
  |bl j=>cases ry;exact PySem.EqMixed.eq_str_bool (zu I q (by simp))
  |int j=>obtain⟨t',rfl⟩:=ry;exact PySem.EqMixed.eq_str_int (zu I q (by simp))
  |str j=>obtain⟨t',rfl⟩:=ry;exact eq_str (zu I q qf8)
  |_=>exact absurd (show false=true from hs) yas
 |byt i=>
  obtain⟨t,rfl⟩:=rx
  cases y with
  |byt j=>obtain⟨t',rfl⟩:=ry;exact PySem.W.eq_bytes (zu I q qf9)
  |_=>exact absurd (show false=true from hs) yas
 |_=>cases y<;>exact absurd (show false=true from hs) yas
theorem qoh:OpR X (ybg .NotEq) rNe:=by
 intro pins s σ H x y v u Q I rx ry h
 obtain⟨hs,q⟩:=h
 cases x with
 |non=>
  cases rx
  cases y with
  |non=>cases ry;exact PySem.EqNone.ne_none_none (zu I q (by simp))
  |bl j=>cases ry;exact PySem.EqNone.ne_none_bool (zu I q (by simp))
  |int j=>obtain⟨t',rfl⟩:=ry;exact PySem.EqNone.ne_none_int (zu I q (by simp))
  |str j=>obtain⟨t',rfl⟩:=ry;exact PySem.EqNone.ne_none_str (zu I q (by simp))
  |_=>exact absurd (show false=true from hs) yas
 |bl i=>
  cases rx
  cases y with
  |non=>cases ry;exact PySem.EqNone.ne_bool_none (zu I q (by simp))
  |bl j=>cases ry;exact ne_bool (zu I q (congrArg not qjr))
  |str j=>obtain⟨t',rfl⟩:=ry;exact PySem.EqMixed.ne_bool_str (zu I q (by simp))
  |_=>exact absurd (show false=true from hs) yas
 |int i=>
  obtain⟨t,rfl⟩:=rx
  cases y with
  |non=>cases ry;exact PySem.EqNone.ne_int_none (zu I q (by simp))
  |int j=>obtain⟨t',rfl⟩:=ry;exact ne_int (zu I q (congrArg not qf7))
  |str j=>obtain⟨t',rfl⟩:=ry;exact PySem.EqMixed.ne_int_str (zu I q (by simp))
  |_=>exact absurd (show false=true from hs) yas
 |str i=>
  obtain⟨t,rfl⟩:=rx
  cases y with
  |non=>cases ry;exact PySem.EqNone.ne_str_none (zu I q (by simp))
  |bl j=>cases ry;exact PySem.EqMixed.ne_str_bool (zu I q (by simp))
  |int j=>obtain⟨t',rfl⟩:=ry;exact PySem.EqMixed.ne_str_int (zu I q (by simp))
  |str j=>obtain⟨t',rfl⟩:=ry;exact ne_str (zu I q (congrArg not qf8))
  |_=>exact absurd (show false=true from hs) yas
 |byt i=>
  obtain⟨t,rfl⟩:=rx
  cases y with
  |byt j=>obtain⟨t',rfl⟩:=ry;exact PySem.W.ne_bytes (zu I q (congrArg not qf9))
  |_=>exact absurd (show false=true from hs) yas
 |_=>cases y<;>exact absurd (show false=true from hs) yas
theorem qkm:OpR X (ybg .Lt) (rI0 λi j => .bl (decide (i<j))):=qoe λ_ _ _ _ _ _ _ q=>lt_int q
theorem qga:OpR X (ybg .Gt) (rI0 λi j => .bl (decide (j<i))):=qoe λ_ _ _ _ _ _ _ q=>gt_int q
theorem qoi:OpR X (ybg .GtE) (rI0 λi j => .bl (decide (j<=i))):=qoe λ_ _ _ _ _ _ _ q=>ge_int q
theorem qjs:OpR X (ybg .Is) (λx y H Q=>y=.non/\Q (.bl (decide (x=.non))) H):=by
 intro pins s σ H x y v u Q I rx ry h
 obtain⟨rfl,q⟩:=h
 cases ry
 refine is_none_gen (zu I q ?_)
 cases x<;>first
  |(cases rx;rfl)
  |(obtain⟨t,rfl⟩:=rx;rfl)
theorem OpR.or {f:Value->Value->Sem Value} {r r':R2} (h:OpR X f r) (h':OpR X f r'):OpR X f (λx y H Q=>r x y H Q\/r' x y H Q):=by
 intro pins s σ H x y v u Q I rx ry q
 rcases q with q|q
 ·exact h pins s σ H x y v u Q I rx ry q
 ·exact h' pins s σ H x y v u Q I rx ry q
theorem zZ (b:Expr) {op:CmpOp} (h:op ≠ .In:=by decide) (h2:op ≠ .NotIn:=by decide):ybH op b=false:=by
 have e1:(op==CmpOp.In)=false:=by cases op<;>first|rfl|exact absurd rfl h
 have e2:(op==CmpOp.NotIn)=false:=by cases op<;>first|rfl|exact absurd rfl h2
 cases b<;>simp[ybH,e1,e2]
theorem qkn {op:CmpOp} {r:R2} (ho:OpR X (ybg op) r) (ha:PE X a ta) (hb:PE X b tb) (hm:ybH op b=false):PE X (.Compare a [op] [b] pos) (tOp r ta tb):=by
 intro pins s σ H Q I h
 exact wpAny_Compare1 (qoc ha hb I h λv u s2 x y H2 I2 rx ry q=>ho pins s2 σ H2 x y v u Q I2 rx ry q) hm
def qoj(t:TE):TT:=λσ H Q=>t σ H λx H'=>∃k,x=.bl k/\Q k H'
theorem qko {op:CmpOp} {r:R2} (ho:OpR X (ybg op) r) (ha:PE X a ta) (hb:PE X b tb) (hm:ybH op b=false):PT X (.Compare a [op] [b] pos) (qoj (tOp r ta tb)):=by
 intro pins s σ H Q I h
 refine ye1 (thn (ha pins s σ H _ I h) λv s1 ⟨x,H1,I1,r1,q1⟩=>thn (hb pins s1 σ H1 _ I1 q1) λu s2 ⟨y,H2,I2,r2,q2⟩=>
  thn (ho pins s2 σ H2 x y v u _ I2 r1 r2 q2) λc s3 ⟨z,H3,I3,r3,k,e,q3⟩=>?_) hm
 subst e
 cases r3
 exact ybr ⟨H3,I3,q3⟩
theorem qck:(yai:Nat)<2 ^ 63:=by rw[ybY];decide
theorem qe9:OpR X (ya8 .Add) (λx y H Q=>∃i j,x=.str i/\y=.str j/\i.length+j.length<=yai/\Q (.str (i++j)) H):=by
 intro pins s σ H x y v u Q I rx ry h
 obtain⟨i,j,rfl,rfl,hz,q⟩:=h
 obtain⟨t,rfl⟩:=rx
 obtain⟨t',rfl⟩:=ry
 exact add_str (λt' tk=>⟨.str (i++j),H,I.tok _,⟨_,rfl⟩,q⟩) hz
theorem qgb {x:V} {us:List Value} (r:zt [x] us):∃u,us=[u]/\zY x u:=by
 cases r with
 |cons r1 r2=>cases r2;exact⟨_,rfl,r1⟩
theorem qkp {x y:V} {us:List Value} (r:zt [x,y] us):∃u w',us=[u,w']/\zY x u/\zY y w':=by
 cases r with
 |cons r1 r2=>
  cases r2 with
  |cons r3 r4=>cases r4;exact⟨_,_,rfl,r1,r3⟩
theorem qgc (hc:X.calm=true):jN X (.builtin "max") (λxs H Q=>∃i j,xs=[.int i,.int j]/\Q (.int (if j>i then j else i)) H):=by
 intro pins s σ H xs us Q I r h
 obtain⟨i,j,rfl,q⟩:=h
 obtain⟨u,w',rfl,⟨t,rfl⟩,⟨t',rfl⟩⟩:=qkp r
 refine max_two_ints (I.ok.hd hc) λh' tk k=>⟨_,H,I.kept k,?_,q⟩
 by_cases hj:j>i
 ·rw[if_pos hj,if_pos hj];exact⟨_,rfl⟩
 ·rw[if_neg hj,if_neg hj];exact⟨_,rfl⟩
theorem qaq (hc:X.calm=true):jN X (.builtin "min") (λxs H Q=>∃i j,xs=[.int i,.int j]/\Q (.int (if j<i then j else i)) H):=by
 intro pins s σ H xs us Q I r h
 obtain⟨i,j,rfl,q⟩:=h
 obtain⟨u,w',rfl,⟨t,rfl⟩,⟨t',rfl⟩⟩:=qkp r
 refine min_two_ints (I.ok.hd hc) λh' tk k=>⟨_,H,I.kept k,?_,q⟩
 by_cases hj:j<i
 ·rw[if_pos hj,if_pos hj];exact⟨_,rfl⟩
 ·rw[if_neg hj,if_neg hj];exact⟨_,rfl⟩
theorem qcl:jN X (.type "str") (λxs H Q=>∃i,xs=[.int i]/\i.natAbs.log2<1920/\Q (.str (ybm i)) H):=by
 intro pins s σ H xs us Q I r h
 obtain⟨i,rfl,hz,q⟩:=h
 obtain⟨u,rfl,t,rfl⟩:=qgb r
 exact PySem.P.str_of_int hz ⟨.str _,H,I.tok _,⟨_,rfl⟩,q⟩
theorem qdh:jN X (.builtin "divmod") (λxs H Q=>∃i j,xs=[.int i,.int j]/\qml i j/\∀p,H p=none->Q (.ref p) (upd H p (.tup [.int (i/j),.int (i%j)]))):=by
 intro pins s σ H xs us Q I r h
 obtain⟨i,j,rfl,⟨h1,h2⟩,q⟩:=h
 obtain⟨u,w',rfl,⟨t,rfl⟩,⟨t',rfl⟩⟩:=qkp r
 refine divmod_int (by omega) ?_ (.inl (qpf h1 h2))
 rw[ydT i (by omega),ydU i (by omega)]
 have hn:H s.heap.objs.size=none:=I.hok.fresh (yad _)
 refine⟨.ref s.heap.objs.size,_,?_,rfl,q _ hn⟩
 refine I.laid (λb o e=>Heap.get?_push_of_some _ e) (yad _) ⟨by simp only[lC_,lN_];rw[ybY];decide,[.int (i/j) s.toks,.int (i%j) (s.toks+1)],.cons ⟨_,rfl⟩ (.cons ⟨_,rfl⟩ .nil),?_⟩
 exact⟨_,Heap.get?_push_size s.heap rfl,rfl,0,rfl⟩
end
end L2
namespace L2
open PySem PySem.Spec PyProof.Rows
structure qok (h:Heap) (x dx C:Addr) (mA:Str->Option Value):Prop where
 obj:h.get? x=some (yeI C dx)
 ns:h.Ns1 dx mA
 ne:dx≠x
theorem qgd {h:Heap} {dx:Addr} {mA:Str->Option Value} (n:h.Ns1 dx mA):∃od,h.get? dx=some od/\∀name,ye4 name od=some (mA name):=by
 obtain⟨o,es,ep,ho,hd,hk,_,hm⟩:=n
 refine⟨o,ho,λname=>?_⟩
 have e:=hm name
 unfold nsFind findBy at e
 rw[<-Array.find?_toList]at e
 unfold ye4
 rw[hd]
 dsimp only
 split
 ·rename_i y q
  rw[q]at e
  exact congrArg some e
 ·rename_i q
  rw[q]at e
  have a:es.toList.any (·.refKey)=false:=by
   rw[List.any_eq_false]
   intro y hy
   obtain⟨z,t,hkey⟩:=hk y (Array.mem_toList_iff.mp hy)
   simp[DictEntry.refKey,hkey]
  have a':¬es.toList.any (·.refKey)=true:=by rw[a];exact yas
  rw[if_neg a']
  exact congrArg some e
theorem qok.look {h:Heap} {x dx C:Addr} {mA:Str->Option Value} (I:qok h x dx C mA):∃od,PySem.W.InstAt h x (yeI C dx) C (some od)/\∀name,ye4 name od=some (mA name) :=
 let ⟨od,ho,hl⟩:=qgd I.ns
 ⟨od,⟨I.obj,rfl,rfl,ho⟩,hl⟩
section
variable{prog:yan}{w:World}{A:yav}{E:Value->yab->Prop}{s:yab}{K:yal}{x dx C f:Addr}{mA:Str->Option Value}{name:Str}{v:Value}
end
def qpS (f:Str) (v:V):List (Str×V)->List (Str×V)
 | []=>[(f,v)]
 |(g,x)::r=>if g=f then(g,v)::r else(g,x)::qpS f v r
theorem qe5.some_of {v:V} {o:Option Value} (r:qe5 (some v) o):∃u,o=some u/\zY v u:=by
 cases o with
 |none=>exact(show False from r).elim
 |some u=>exact⟨u,rfl,r⟩
section
variable{P:yan}{w:World}{H H':Hp}{h h':Heap}{a C dx:Addr}{fs fs':List (Str×V)}
theorem qkq (hok:HOk P w H h) (e:H a=some (.ins C dx fs)):∃mA,qok h a dx C mA/\(∀f,qe5 (fs.lookup f) (mA f))/\PySem.Within mA (fs.map (·.1))/\fs.length<=1000/\H dx=some (.own a):=by
 obtain⟨d,z,ne,ob,mA,n,r,q⟩:=(show jd P w H h a (.ins C dx fs)from hok a _ e)
 exact⟨mA,⟨ob,n,ne⟩,r,q,z,d⟩
end
structure Cls (K:yal) (C:Addr):Prop where
 pg:PySem.W.plainGet K C Str.empty=true
 hd:PySem.W.hasDictIn K C=true
 po:PySem.W.plainOver K C=true
 sa:ybJ K (.ref C) "__setattr__"=some (some (.builtin "object.__setattr__"))
theorem Cls.get{K:yal}{C:Addr}(c:Cls K C)(f:Str):PySem.W.plainGet K C f=true:=c.pg
structure Con (K:yal) (C:Addr) (f:Str) (v:V) (u:Value):Prop where
 at_:ybJ K (.ref C) f=some (some u)
 rel:zY v u
 get:yf4 K u "__get__"=some none
 cp:PySem.W.copiedNames.contains f=false
structure qqd (K:yal) (C:Addr) (m:Str) (f:Addr):Prop where
 at_:ybJ K (.ref C) m=some (some (.ref f))
 fn:PySem.W.isFn K (.ref f)=true
 kp:yak K (.ref f)=true
section
variable{X:Cx}{pins:List (Addr×Obj)}{σ:St}{H:Hp}{s:yab}{a C dx:Addr}{fs:List (Str×V)}{f:Str}{v:V}{A:yav}{E:Value->yab->Prop}
end
section
variable{X:Cx}{o e value:Expr}{f:Str}{pos pos' tpos:Pos}{ta tv:TE}
def rAdd:V->V->Hp->VK->Prop:=λx y H Q=>∃i j,x=.int i/\y=.int j/\Q (.int (i+j)) H
end
section
variable{X:Cx}{pins:List (Addr×Obj)}{σ:St}{H:Hp}{s:yab}{A:yav}{E:Value->yab->Prop}{Q:Value->yab->Prop}{c:Value}{b:Bool}
inductive qfQ (K:yal) (H:Hp):V->Value->Prop where
 |non:qfQ K H .non (.type "NoneType")
 |bl (x:Bool):qfQ K H (.bl x) (.type "bool")
 |int (i:Int):qfQ K H (.int i) (.type "int")
 |str (x:Str):qfQ K H (.str x) (.type "str")
 |flt (x:UInt64):qfQ K H (.flt x) (.type "float")
 |lst {a:Addr} {xs:List V} (e:H a=some (.lst xs)):qfQ K H (.ref a) (.type "list")
 |frz {a:Addr} {o:Obj} {xs:List V} (e:H a=some (.frz o (.lst xs))):qfQ K H (.ref a) (.type "list")
 |tup {a:Addr} {xs:List V} (e:H a=some (.tup xs)):qfQ K H (.ref a) (.type "tuple")
 |dK {a:Addr} {kvs:List (Key×V)} (e:H a=some (.dK kvs)):qfQ K H (.ref a) (.type "dict")
 |dT {a:Addr} {kvs:List (List Key×V)} (e:H a=some (.dT kvs)):qfQ K H (.ref a) (.type "dict")
 | ins {a C dx:Addr} {fs:List (Str×V)} (e:H a=some (.ins C dx fs)) (cl:Cls K C) (ha:ybJ K (.ref C) "__class__"=some (some (.builtin "object.__class__")))
   (hn:yf4 K (.builtin "object.__class__") "__get__"=some (some (.builtin "getset_descriptor.__get__"))) (htk:PySem.W.takesIn K (.builtin "object.__class__")=some true)
   (hm:PySem.W.mroIn K C (.type "object")=some true):qfQ K H (.ref a) (.ref C)
theorem yY {x:V} {u t:Value} (I:Inv X pins σ H s) (rx:zY x u) (ty:qfQ X.K H x t) (e:ye5 X.K t c=some b) (h:∀tk,Q (.bool b) {s with toks:=tk}) :
  wpAny (model X.prog X.w) A (call (.builtin "isinstance") [u,c]) Q E s:=by
 cases ty with
 |non=>cases (show u=yaQ from rx);exact yaT PySem.W.kitx_none I.kIn ybx e (λz=>nomatch z) h
 |bl y=>cases (show u=ybp y from rx);exact yaT PySem.W.kitx_bool I.kIn ybx e (λz=>nomatch z) h
 |int i=>obtain⟨t,q⟩:=(show ∃t,u=ycq i t from rx);cases q;exact yaT PySem.W.kitx_int I.kIn ybx e (λz=>nomatch z) h
 |str y=>obtain⟨t,q⟩:=(show ∃t,u=yfG y t from rx);cases q;exact yaT PySem.W.kitx_str I.kIn ybx e (λz=>nomatch z) h
 |flt y=>obtain⟨t,q⟩:=(show ∃t,u=Value.float y t from rx);cases q;exact yaT PySem.W.kitx_float I.kIn ybx e (λz=>nomatch z) h
 | @lst a xs ea=>
  cases (show u=yag a from rx)
  obtain⟨_,_,n,_,h1⟩:=(show jd X.prog X.w H s.heap a (.lst xs)from I.hok a _ ea)
  exact yaT yd3 I.kIn ⟨_,h1,rfl⟩ e (λz=>nomatch z) h
 | @frz a ob xs ea=>
  cases (show u=yag a from rx)
  obtain⟨_,_,_,n,_,h1⟩:=(show jd X.prog X.w H s.heap a (.frz ob (.lst xs))from I.hok a _ ea)
  exact yaT yd3 I.kIn ⟨_,h1,rfl⟩ e (λz=>nomatch z) h
 | @tup a xs ea=>
  cases (show u=yag a from rx)
  obtain⟨_,_,_,p⟩:=(show jd X.prog X.w H s.heap a (.tup xs)from I.hok a _ ea)
  obtain⟨o,h1,h2,_⟩:=p
  exact yaT yfJ I.kIn ⟨o,h1,h2⟩ e (λz=>nomatch z) h
 | @dK a kvs ea=>
  cases (show u=yag a from rx)
  obtain⟨_,_,vs,_,p⟩:=(show jd X.prog X.w H s.heap a (.dK kvs)from I.hok a _ ea)
  obtain⟨o,es,ep,h1,h2,_⟩:=p
  exact yaT yf5 I.kIn ⟨o,h1,h2.1⟩ e (λz=>nomatch z) h
 | @dT a kvs ea=>
  cases (show u=yag a from rx)
  obtain⟨_,_,xs,_,o,es,ep,h1,h2,_⟩:=(show jd X.prog X.w H s.heap a (.dT kvs)from I.hok a _ ea)
  exact yaT yf5 I.kIn ⟨o,h1,h2.1⟩ e (λz=>nomatch z) h
 | @ins a C dx fs ea cl ha hn htk hm=>
  cases (show u=yag a from rx)
  obtain⟨mA,O,_⟩:=qkq I.hok ea
  obtain⟨od,J,_⟩:=O.look
  exact yaT (PySem.W.kitx_own (cl.get _) cl.hd ha hn htk hm) I.kIn J e (λz=>nomatch z) h
end
end L2
namespace L2
open PySem PySem.Spec PyProof.Rows
structure uE (k:Nat) (A:yav):Prop where
 hd:A.handled=none
 dp:A.depth+3*k+5<ydz
 un:A.units+16*k+200<cLine
 gd:A.guards=some []
theorem uE.mono{j k:Nat}{A:yav}(r:uE k A)(h:j<=k):uE j A:=⟨r.hd,by have:=r.dp;omega,by have:=r.un;omega,r.gd⟩
theorem uE.deeper {k:Nat} {A:yav} (r:uE (k+1) A) (env:Env):uE k (A.deeper env) :=
 ⟨r.hd,by have:=r.dp;show A.depth+1+3*k+5<_;omega,by have:=r.un;show A.units+3+16*k+200<_;omega,r.gd⟩
theorem uE.depth{k:Nat}{A:yav}(r:uE k A):A.depth<ydz:=by have:=r.dp;omega
theorem uE.units{k:Nat}{A:yav}(r:uE k A):A.units+64<cLine:=by have:=r.un;omega
def qmp:TA:=λ_ H Q=>Q [] H
def qcm(ta:TE)(tr:TA):TA:=λσ H Q=>ta σ H λx H1=>tr σ H1 λxs H2=>Q (x::xs) H2
section
variable{X:Cx}{e:Expr}{es:List Expr}{te:TE}{t:TA}{pos:Pos}
theorem qar:PA X [] qmp:=λ_ _ _ _ H Q I h=>yf6 ⟨[],H,I,.nil,h⟩
theorem yS (ha:PE X e te) (hr:PA X es t) (hs:yah (e::es) X.env=(false,eval e X.env)::yah es X.env:=by rfl):PA X (e::es) (qcm te t):=by
 intro pos pins s σ H Q I h
 rw[hs]
 show wpAny _ _ (spliced ((false,eval e X.env)::yaX pos (yah es X.env))) _ _ s
 refine ydJ (thn (ha pins s σ H _ I h) λu s1 ⟨x,H1,I1,r1,q1⟩=>?_)
 exact thn (hr pos pins s1 σ H1 _ I1 q1) λus s2 ⟨xs,H2,I2,r2,q2⟩=>⟨x::xs,H2,I2,.cons r1 r2,q2⟩
def qpT(t:TA):TE:=λσ H Q=>t σ H λxs H1=>xs.length<=yai/\∀p,H1 p=none->Q (.ref p) (upd H1 p (.tup xs))
def qpU(t:TA):TE:=λσ H Q=>t σ H λxs H1=>xs.length<=yai/\∀p,H1 p=none->Q (.ref p) (upd H1 p (.lst xs))
theorem qmq {x1} (h:PA X es t):PE X (.Tuple es x1 pos) (qpT t):=by
 intro pins s σ H Q I hq
 refine wpAny_Tuple_spliced (thn (h pos pins s σ H _ I hq) λus s1 ⟨xs,H1,I1,r,z,q⟩=>⟨by rw[<-r.length];exact z,?_⟩)
 have hf:H1 s1.heap.objs.size=none:=I1.hok.fresh (yad _)
 refine⟨.ref s1.heap.objs.size,upd H1 s1.heap.objs.size (.tup xs),I1.laid (t':=s1.toks) (λb u e=>Heap.get?_push_of_some _ e) (yad _) ?_,rfl,q _ hf⟩
 exact⟨z,us,r,⟨_,Heap.get?_push_size _ rfl,rfl,_,rfl⟩⟩
theorem qjt (h:PA X es t):PE X (.List es pos) (qpU t):=by
 intro pins s σ H Q I hq
 refine wpAny_List_spliced (thn (h pos pins s σ H _ I hq) λus s1 ⟨xs,H1,I1,r,z,q⟩=>⟨by rw[<-r.length];exact z,?_⟩)
 have hf:H1 s1.heap.objs.size=none:=I1.hok.fresh (yad _)
 refine⟨.ref s1.heap.objs.size,upd H1 s1.heap.objs.size (.lst xs),I1.laid (t':=s1.toks) (λb u e=>Heap.get?_push_of_some _ e) (yad _) ?_,rfl,q _ hf⟩
 exact⟨z,us,0,r,Heap.get?_push_size _ rfl⟩
end
abbrev Sp:=List V->Hp->VK->XK->Prop
abbrev CXT:=List Env->Hp->yab->XK->Value->yab->Prop
structure qmr (P:yan) (w:World) (K:yal) (mg:Str->Option Value) (base:Heap) (A:yav) (outer:List Env) (s:yab) (H:Hp):Prop where
 frames:A.frames=some outer
 mod:Mod K mg base
 bs:∀b o,base.get? b=some o->s.heap.get? b=some o/\H b=none
 bsz:base.objs.size<=s.heap.objs.size
 funs:s.heap.FunFrames base outer
 frf:∀b∈frs outer,H b=none
 hok:HOk P w H s.heap
 bare:ycx s.gens
def CE (outer:List Env) (P:yan) (w:World) (H:Hp) (s:yab) (Q:VK) (u:Value) (s':yab):Prop :=
 ∃v H',s'.os=s.os/\ycx s'.gens/\Un (frs outer) [] H H' s.heap s'.heap/\HOk P w H' s'.heap/\zY v u/\Q v H'
def CR (CX:CXT) (outer:List Env) (P:yan) (w:World) (H:Hp) (s:yab) (Q:VK) (E:XK) (r:yek) (s':yab):Prop :=
 match r with
 |.ok (.ret u)=>CE outer P w H s Q u s'
 |.ok _=>False
 |.error e=>CX outer H s E e s'
structure qbd (P:yan) (w:World) (K:yal) (mg:Str->Option Value) (base:Heap) (CX:CXT) (k:Nat) (f:Addr) (fd:yaZ) (ps:List Str) (sp:Sp):Prop where
 len:∀vs H Q E,sp vs H Q E->vs.length=ps.length
 run:∀(A:yav)(outer:List Env)(s:yab)(H:Hp)(args:Args)(us:List Value)(vs:List V)(Q:VK)(E:XK),uE k A->qmr P w K mg base A outer s H->yef s fd args (ps.zip us)->zt vs us->sp vs H Q E ->
  ybR (model P w) A (.call (.ref f) args) (CR CX outer P w H s Q E) s
section
variable{X:Cx}{pins:List (Addr×Obj)}{σ:St}{H:Hp}{s s':yab}
theorem Inv.env0 (I:Inv X pins σ H s):qmr X.prog X.w X.K X.mg X.base X.A X.stack s H :=
 ⟨I.ok.frames,I.ok.mod,I.bs,yay I.ok.bsz I.sz,I.stack,I.stkFree,I.hok,I.bare⟩
theorem Inv.after {Q:VK} {u:Value} (I:Inv X pins σ H s) (h:CE X.stack X.prog X.w H s Q u s'):EP X pins σ Q u s':=by
 obtain⟨v,H',os,bare,un,hok,r,q⟩:=h
 obtain⟨hh,g,d,t,os'⟩:=s'
 obtain rfl:os'=s.os:=os
 exact⟨v,H',I.call (h':=hh) (g':=g) (d':=d) (t':=t) (ch:=[]) un hok bare (λb z=>absurd z (by simp)),r,q⟩
end
def qol(sp:Sp)(dvs:List V)(E:XK)(t:TA):TE:=λσ H Q=>t σ H λvs H1=>sp (vs++dvs) H1 Q E
def vI (K:yal) (fd:yaZ) (ps:List Str) (ds:List Value):Prop :=
 ∀(s:yab)(us:List Value),K.In s.heap->(us++ds).length=ps.length->yef s fd ⟨us,[]⟩ (ps.zip (us++ds))
theorem vI.all {K:yal} {fd:yaZ} {ps:List Str} (h:∀us:List Value,us.length=ps.length->bindArgs fd ⟨us,[]⟩=pure (ps.zip us)):vI K fd ps []:=λs us _ hl=>by
 rw[ybS]at hl |-
 exact .of_eq (h us hl)
def qbn(CX:CXT)(X:Cx)(E:XK):Prop:=∀(pins:List (Addr×Obj))(σ:St)(H:Hp)(s:yab)(e:Value)(s':yab),Inv X pins σ H s->CX X.stack H s E e s'->X.xe e s'
section
variable{X:Cx}{CX:CXT}{k:Nat}{f C:Addr}{fd:yaZ}{ps:List Str}{sp:Sp}{dvs:List V}{ds:List Value}{E:XK}{x m:Str}{p pos apos:Pos}{e o:Expr}{es:List Expr}{ta:TE}{t:TA}
theorem qms {pins:List (Addr×Obj)} {σ:St} {H:Hp} {s:yab} {Q:VK} {us:List Value} {vs:List V} (F:qbd X.prog X.w X.K X.mg X.base CX k f fd ps sp) (hr:uE k X.A) (hb:vI X.K fd ps ds) (hd:zt dvs ds) (hx:qbn CX X E)
  (I:Inv X pins σ H s) (r:zt vs us) (h:sp (vs++dvs) H Q E):wpAny (model X.prog X.w) X.A (call (.ref f) us) (EP X pins σ Q) X.xe s:=by
 have r2:zt (vs++dvs) (us++ds):=r.append hd
 have hl:(us++ds).length=ps.length:=by rw[<-r2.length];exact F.len _ _ _ _ h
 refine wpAny_call (yel (F.run X.A X.stack s H ⟨us,[]⟩ (us++ds) (vs++dvs) Q E hr I.env0 (hb s us I.kIn hl) r2 h) λr s' hq=>?_)
 cases r with
 |error e=>exact hx pins σ H s e s' I hq
 |ok fl=>
  cases fl with
  |ret u=>exact I.after hq
  |next=>exact ya9 hq
  |brk=>exact ya9 hq
  |cont=>exact ya9 hq
theorem qbC (F:qbd X.prog X.w X.K X.mg X.base CX k f fd ps sp) (hr:uE k X.A) (hg:Gl X x) (hm:X.mg x=some (.ref f)) (hk:yak X.K (.ref f)=true) (hb:vI X.K fd ps ds) (hd:zt dvs ds) (hx:qbn CX X E)
  (ha:PA X (e::es) t) (hdb:(x==("__debug__":Str))=false:=by decide) (he:yah (e::es) X.env=(false,eval e X.env)::yah es X.env:=by rfl) (hpl:(yaX pos (yah es X.env)).any (·.1)=false:=by rfl) :
  PE X (.Call (.Name x p) (e::es) [] pos) (qol sp dvs E t):=by
 intro pins s σ H Q I h
 refine ycL (qdf I hg hm ?_ hdb)
 refine yfK (h₀:=X.base) I.ok.mod.kin hk (thn (ha pos pins s σ H _ I h) λus s1 ⟨vs,H1,I1,r,q⟩=>⟨I1.kIn,?_⟩) he hpl
 exact qms F hr hb hd hx I1 r q
structure Mk (K:yal) (C f:Addr):Prop where
 makes:PySem.W.makesIn K C=true
 init:ybJ K (.ref C) "__init__"=some (some (.ref f))
 fn:PySem.W.isFn K (.ref f)=true
 kp:yak K (.ref C)=true
end
section
variable{X:Cx}{CX:CXT}{k:Nat}{f C:Addr}{fd:yaZ}{ps ks:List Str}{sp:Sp}{E:XK}{x m:Str}{p pos apos kpos:Pos}{e o:Expr}{es:List Expr}{kws:List ycy}{te ta:TE}{t tk:TA}{nm:Option Str}
variable{g:List Value->List Value->List Value}{gV:List V->List V->List V}
end
structure qH (N P:List Str) (sc:Scope):Prop where
 kind:sc.kind=.function
 co:sc.isCoroutine=false
 gen:sc.isGenerator=false
 nd:N.Nodup
 pre:N.take P.length=P
 par:∀x∈P,sc.names.lookup x=some .local\/sc.names.lookup x=some .cell
 nofree:∀y∈sc.names,y.2 ≠ .free
theorem qcn {yco:Str->Option ydc} {x:Str}:∀{binds:List (Str×Value)}{m:Str->Option Value},(∀v,(x,v) ∉ binds)->bindL yco binds m x=m x
 | [],_,_=>rfl
 | (n,v)::r,m,h=>by
  unfold bindL
  rw[qcn λw hw=>h w (mM _ hw)]
  split
  ·have:x≠n:=by rintro rfl;exact h v mS_
   simp[this]
  ·rfl
theorem qco {yco:Str->Option ydc} {x:Str}:∀{binds:List (Str×Value)}{m:Str->Option Value},(∀v,(x,v) ∉ binds)->bindC yco binds m x=m x
 | [],_,_=>rfl
 | (n,v)::r,m,h=>by
  unfold bindC
  rw[qco λw hw=>h w (mM _ hw)]
  split
  ·rfl
  ·have:x≠n:=by rintro rfl;exact h v mS_
   simp[this]
theorem qcp {yco:Str->Option ydc} {x:Str} {v:Value}:∀{P:List Str}{vs:List Value}{i:Nat}{m:Str->Option Value},P.Nodup->P[i]? = some x->vs[i]? = some v->yco x=some .local ->
  bindL yco (P.zip vs) m x=some v
 | [],_,_,_,_,h,_,_=>by simp at h
 |_::_,[],_,_,_,_,h,_=>by simp at h
 |p::P,w::vs,0,m,nd,h1,h2,hk=>by
  simp at h1 h2;subst h1;subst h2
  show bindL yco ((p,w)::P.zip vs) m p=_
  unfold bindL
  rw[qcn λv hv=>(List.nodup_cons.mp nd).1 (yeK hv).1,if_pos hk]
  simp
 |p::P,w::vs,i+1,m,nd,h1,h2,hk=>by
  show bindL yco ((p,w)::P.zip vs) m x=_
  unfold bindL
  exact qcp (i:=i) (List.nodup_cons.mp nd).2 (by simpa using h1) (by simpa using h2) hk
theorem qcq {yco:Str->Option ydc} {x:Str} {v:Value}:∀{P:List Str}{vs:List Value}{i:Nat}{m:Str->Option Value},P.Nodup->P[i]? = some x->vs[i]? = some v->yco x≠some .local ->
  bindC yco (P.zip vs) m x=some v
 | [],_,_,_,_,h,_,_=>by simp at h
 |_::_,[],_,_,_,_,h,_=>by simp at h
 |p::P,w::vs,0,m,nd,h1,h2,hk=>by
  simp at h1 h2;subst h1;subst h2
  show bindC yco ((p,w)::P.zip vs) m p=_
  unfold bindC
  rw[qco λv hv=>(List.nodup_cons.mp nd).1 (yeK hv).1,if_neg hk]
  simp
 |p::P,w::vs,i+1,m,nd,h1,h2,hk=>by
  show bindC yco ((p,w)::P.zip vs) m x=_
  unfold bindC
  exact qcq (i:=i) (List.nodup_cons.mp nd).2 (by simpa using h1) (by simpa using h2) hk
def start(N:List Str)(vs:List V):St:=vs.map some++yau (N.length-vs.length) none
def qju (CX:CXT) (P:yan) (w:World) (K:yal) (mg:Str->Option Value) (base:Heap) (N:List Str) (qual:Str) (scope:Scope) (f:Addr) (cd:Value) (A:yav) (outer:List Env) (s:yab) (H:Hp) (E:XK):Cx where
 prog:=P
 w:=w
 K:=K
 mg:=mg
 base:=base
 A:=A.deeper (yc2 qual scope s.heap.objs.size f cd)
 N:=N
 s₀:=s
 H₀:=H
 env:=yc2 qual scope s.heap.objs.size f cd
 outer:=outer
 stack:=yc2 qual scope s.heap.objs.size f cd::outer
 ex:=[]
 calm:=true
 fn:=λ_=>true
 pn:=[]
 xe:=λe s'=>wpAny (model P w) (A.deeper (yc2 qual scope s.heap.objs.size f cd)) (leaving (yc2 qual scope s.heap.objs.size f cd) e) (λ_ s''=>CX outer H s E e s'') (λe' s''=>CX outer H s E e' s'') s'
theorem qdZ {sc:Scope} {n:Nat} {x:Str} (h:sc.names.lookup x=some .cell):∃c,(yfL n sc.names []).lookup x=some c:=by
 have q:=yeQ sc.names n [] (.inl h)
 exact Option.isSome_iff_exists.mp q
theorem qge {CX:CXT} {P:yan} {w:World} {K:yal} {mg:Str->Option Value} {base:Heap} {N ps:List Str} {qual:Str} {scope:Scope} {f:Addr} {cd:Value} {A:yav} {outer:List Env} {s s1:yab} {H:Hp} {E:XK} {us:List Value} {vs:List V}
  (S:qH N ps scope) (hd:A.handled=none) (e0:qmr P w K mg base A outer s H) (hl:vs.length=ps.length) (r:zt vs us)
  (x:InCallC s s.heap.objs.size (bindL (yc2 qual scope s.heap.objs.size f cd).kindOf (ps.zip us) λ_=>none) (yfL (s.heap.objs.size+1) scope.names []) (bindC (yc2 qual scope s.heap.objs.size f cd).kindOf (ps.zip us) λ_=>none) s1) :
  Inv (qju CX P w K mg base N qual scope f cd A outer s H E) [] (start N vs) H s1:=by
 have hpl:ps.length<=N.length:=by have:=congrArg List.length S.pre;rw[ybK]at this;omega
 obtain⟨h1,tk,rfl,hk⟩:=x.done
 have noA:∀b:Addr,b ∉ (qju CX P w K mg base N qual scope f cd A outer s H E).ex:=λb z=>absurd (show b∈([]:List Addr)from z) (by simp)
 refine ⟨⟨e0.mod,S.kind,rfl,rfl,yad _,λy z c h1 h2=>?_,λy hy=>?_,λy c _ h=>?_,λ_=>hd,Around.frames_deeper e0.frames,.inr ⟨rfl,rfl⟩,λb z=>absurd z (noA b),e0.bs,e0.bsz,λb _ _=>noA b,λb z=>absurd z (noA b),e0.funs,e0.frf⟩,
  rfl,e0.bare,Un.kept hk,⟨_,x.toInCall.ns,λi y v h1 h2 h3=>?_⟩,λy c h=>⟨_,x.cell y c h⟩,e0.hok.fresh (yad _),λy c h=>?_,λp hp=>absurd (show p∈([]:List (Addr×Obj))from hp) (by simp),e0.hok.kept hk,?_⟩
 ·exact name_of_addr x.apart (ybI h1) (ybI h2)
 ·have hy:scope.names.lookup y=some .cell\/scope.names.lookup y=some .free:=hy
  rcases hy with hy|hy
  ·exact qdZ hy
  ·exact absurd rfl (S.nofree _ (ybI hy))
 ·exact yej (x.above y c (ybI h))
 ·have hi:i<vs.length:=by
   unfold start at h2
   by_cases hi:i<vs.length
   ·exact hi
   ·rw[List.getElem?_append_right (by simpa using hi)]at h2
    rw[List.getElem?_replicate]at h2
    split at h2<;>cases h2
  have ha:vs[i]? = some v:=by
   unfold start at h2
   rw[List.getElem?_append_left (by simpa using hi),gM_]at h2
   cases e:vs[i]? with
   |none=>rw[e]at h2;cases h2
   |some a=>rw[e]at h2;cases h2;rfl
  obtain⟨u,hu,rv⟩:=r.get ha
  have hp:ps[i]? = some y:=by
   rw[<-S.pre,List.getElem?_take_of_lt (by omega)];exact h1
  have ndP:ps.Nodup:=by rw[<-S.pre];exact S.nd.sublist (List.take_sublist _ _)
  refine⟨u,rv,?_⟩
  rcases S.par y (ybq hp)with k|k
  ·exact .inl ⟨k,qcp ndP hp hu k⟩
  ·obtain⟨c,e⟩:=qdZ (n:=s.heap.objs.size+1) k
   refine .inr ⟨.inl k,c,e,?_⟩
   have q:=x.cell y c e
   rw[qcq ndP hp hu (by show scope.names.lookup y≠_;rw[k];decide)]at q
   exact q
 ·exact e0.hok.fresh (yej (x.above y c (ybI h)))
 ·unfold start
  show _=N.length
  rw[lA_,lM_,ybl]
  omega
theorem qom {CX:CXT} {P:yan} {w:World} {K:yal} {mg:Str->Option Value} {base:Heap} {k:Nat} {f:Addr} {name qual:Str} {params:yfM} {body:List Stmt} {scope:Scope} {dV kV doc pm cdv ct oc:Value} {an od:Option Addr}
  {osl:Array (Option Value)} {N ps:List Str} {sp:Sp} (lk:K.lookup f=some ⟨oc,od,.func (yat name qual params body scope dV kV doc pm an cdv ct),osl⟩) (hcd:yar K cdv qual=true) (S:qH N ps scope)
  (len:∀vs H Q E,sp vs H Q E->vs.length=ps.length)
  (hbody:∀(A:yav)(outer:List Env)(s:yab)(H:Hp)(vs:List V)(Q:VK)(E:XK),uE k (A.deeper (yc2 qual scope s.heap.objs.size f cdv))->sp vs H Q E ->
   ∃t,PSs (qju CX P w K mg base N qual scope f cdv A outer s H E) body t/\t {nx:=λ_ H'=>Q .non H',rt:=Q} (start N vs) H) :
  qbd P w K mg base CX (k+1) f (yat name qual params body scope dV kV doc pm an cdv ct) ps sp:=by
 refine⟨len,λA outer s H args us vs Q E hr e0 hb r hsp=>?_⟩
 have hl:=len _ _ _ _ hsp
 have KX:K.In s.heap:=e0.mod.kin.keeps λb o e=>(e0.bs b o e).1
 have lim:s.heap.NoLimit:=e0.mod.nolimit.keeps λb o e=>(e0.bs b o e).1
 have hkind:∀y∈ps.zip us,scope.names.lookup y.1=some .local\/(scope.names.lookup y.1=some .cell/\((yfL (s.heap.objs.size+1) scope.names []).lookup y.1).isSome=true):=λ⟨n,v⟩ hy=>by
  rcases S.par n (yeK hy).1 with q|q
  ·exact .inl q
  ·exact .inr ⟨q,yeQ _ _ _ (.inl q)⟩
 refine codeAny_call_function hr.depth (KX _ _ lk) rfl S.co S.gen rfl (PySem.W.codeRec_of KX hcd) (hb _ _ _ _ ?_)
 refine wpAny_newFunctionEnv_cells S.kind hkind λenv he s1 x=>?_
 subst he
 refine⟨lim.keeps x.toInCall.keep,codeAny_func ?_⟩
 obtain⟨t,ht,hq⟩:=hbody A outer s H vs Q E (hr.deeper _) hsp
 have I:Inv (qju CX P w K mg base N qual scope f cdv A outer s H E) [] (start N vs) H s1:=qge S hr.hd e0 hl r x
 refine ybi (ht [] s1 (start N vs) H _ I hq) (λfl s' hs=>?_) λe s' hs=>hs
 have fin:∀{σ':St}{H':Hp}{v:V}{u:Value},Inv (qju CX P w K mg base N qual scope f cdv A outer s H E) [] σ' H' s'->zY v u->Q v H'->CE outer P w H s Q u s' :=
  λ{σ' H' v u} J rv q=>⟨v,H',J.os,J.bare,J.base,J.hok,rv,q⟩
 cases fl with
 |ret u=>
  obtain⟨v,σ',H',J,rv,q⟩:=hs
  exact fin J rv q
 |next=>
  obtain⟨σ',H',J,q⟩:=hs
  exact fin (v:=V.non) (u:=yaQ) J rfl q
 |brk=>
  obtain⟨_,_,_,q⟩:=hs
  exact ya9 q
 |cont=>
  obtain⟨_,_,_,q⟩:=hs
  exact ya9 q
end L2
namespace L2
open PySem PySem.Spec PyProof.Rows
section
variable{X:Cx}{x:Str}{p pos:Pos}{e:Expr}{es:List Expr}{t:TA}{id T:String}{r:List V->Hp->VK->Prop}
def tCB(r:List V->Hp->VK->Prop)(t:TA):TE:=λσ H Q=>t σ H λvs H1=>r vs H1 Q
theorem qbD (hc:jN X (.builtin id) r) (hg:Gl X x) (hm:X.mg x=none) (hv:yaA x=some (.builtin id)) (ha:PA X (e::es) t) (hn:x≠"__name__":=by decide) (hdb:(x==("__debug__":Str))=false:=by decide)
  (he:yah (e::es) X.env=(false,eval e X.env)::yah es X.env:=by rfl) (hpl:(yaX pos (yah es X.env)).any (·.1)=false:=by rfl):PE X (.Call (.Name x p) (e::es) [] pos) (tCB r t):=by
 intro pins s σ H Q I h
 refine ycL (qap I hg hm hv ?_ hn hdb)
 exact PyProof.Rows.callWith_builtin1 (thn (ha pos pins s σ H _ I h) λus s1 ⟨vs,H1,I1,r1,q1⟩=>hc pins s1 σ H1 vs us Q I1 r1 q1) he hpl
theorem vZ (hc:jN X (.type T) r) (hg:Gl X x) (hm:X.mg x=none) (hv:yaA x=some (.type T)) (ha:PA X (e::es) t) (hn:x≠"__name__":=by decide) (hdb:(x==("__debug__":Str))=false:=by decide)
  (he:yah (e::es) X.env=(false,eval e X.env)::yah es X.env:=by rfl) (hpl:(yaX pos (yah es X.env)).any (·.1)=false:=by rfl):PE X (.Call (.Name x p) (e::es) [] pos) (tCB r t):=by
 intro pins s σ H Q I h
 refine ycL (qap I hg hm hv ?_ hn hdb)
 exact ybu (thn (ha pos pins s σ H _ I h) λus s1 ⟨vs,H1,I1,r1,q1⟩=>hc pins s1 σ H1 vs us Q I1 r1 q1) he hpl
end
end L2
namespace HT
open PySem PyProof.Rows
def lexLt:List Int->List Int->Bool
 | [],[]=>false
 | [],_::_=>true
 |_::_,[]=>false
 |x::xs,y::ys=>if x=y then lexLt xs ys else decide (x<y)
theorem lexLt_cons(x y:Int)(xs ys:List Int):lexLt (x::xs) (y::ys)=if x=y then lexLt xs ys else decide (x<y):=rfl
theorem qbE:lexLt [] []=false:=rfl
theorem qbe(y:Int)(ys:List Int):lexLt [] (y::ys)=true:=rfl
theorem qbf(x:Int)(xs:List Int):lexLt (x::xs) []=false:=rfl
theorem qia (A:yav) (s:yab) (a:Int) (t:Tok) (c:Int) (u:Tok):∃e,SeqAt.EqAt A s (.int a t) (.int c u) e/\(e=true ↔ a=c) :=
 ⟨(a==c),SeqAt.EqAt.int_int a t c u,by simp⟩
theorem qib (A:yav) (s:yab) (a:Int) (t:Tok) (c:Int) (u:Tok) (prog:yan) (w:World) (E:Value->yab->Prop) (Q:Value->yab->Prop) (h:Q (.bool (decide (a<c))) s) :
  wpAny (model prog w) A (yge .Lt (.int a t) (.int c u)) Q E s :=
 (PyProof.Rows.lt_int h:wpAny (model prog w) A (ybg .Lt (.int a t) (.int c u)) Q E s)
section
open PySem.SeqAt
open PySem.AutoSeq1 (wpAny_loadPart')
open PySem.MeetsSeq PySem.MeetsSeq2 PySem.MeetsSeq3
theorem qbF (l b:Addr) (items items2:Array Value) (n n2:Nat) (dd dd2:Option Addr) (sl sl2:Array (Option Value)) (ns ms:List Int) (hi:yby items.toList ns) (hj:yby items2.toList ms) :
  Meets (yb0.«tuple.__lt__» ⟨[.ref l,.ref b],[]⟩)
   (λ_ R s=>s.heap.get? l=some {cls:=.type "tuple",dict:=dd,data:=.seq items n,slots:=sl}/\s.heap.get? b=some {cls:=.type "tuple",dict:=dd2,data:=.seq items2 n2,slots:=sl2} /\
    R (.ok (.ret (.bool (lexLt ns ms)))) s) :=
 .of_wp λprog w A R s h=>by
  obtain⟨hp,g,d,tk,os⟩:=s;obtain⟨hl,hb,h⟩:=h
  have f2:=yb5
  have z1:items.size=ns.length:=by rw[<-hi.length];simp
  have z2:items2.size=ms.length:=by rw[<-hj.length];simp
  wp_walk using ybC hl,ybC hb,wpAny_forIn_list _ (λqah b s'=>b.1=none/\s'=⟨hp,g,d,tk,os⟩/\∃(vs ws:List Value)(ns' ms':List Int),qah=vs.zip ws /\
   yby vs ns'/\yby ws ms'/\ns'.length+items2.size=ms'.length+items.size/\R (.ok (.ret (.bool (lexLt ns' ms')))) ⟨hp,g,d,tk,os⟩) _
  case turn=>
   rintro⟨y,x⟩ qah b s' ⟨hb',rfl,vs,ws,ns',ms',hz,hvi,hwi,hlen,hR⟩
   cases hvi with
   |nil=>rw[List.zip_nil_left]at hz;cases hz
   | cons a t hvi'=>
    cases hwi with
    |nil=>rw[List.zip_nil_right]at hz;cases hz
    | cons c u hwi'=>
     rw[yfN]at hz
     injection hz with hyx hrest
     injection hyx with hy hx
     subst hy hx
     rw[lexLt_cons]at hR
     simp only[lC_]at hlen
     obtain⟨e,he,hiff⟩:=qia A.in1 ⟨hp,g,d,tk,os⟩ a t c u
     refine yaa (he prog w _ _ ?_)
     cases e with
     |true=>
      rw[if_pos (hiff.mp rfl)]at hR
      wp_walk
      exact⟨rfl,rfl,_,_,_,_,hrest,hvi',hwi',by omega,hR⟩
     |false=>
      rw[if_neg (λq=>absurd (hiff.mpr q) yas)]at hR
      have hri:=qib A.in1 ⟨hp,g,d,tk,os⟩ a t c u prog w
      wp_walk using hri
      exact⟨_,rfl,by simpa using hR⟩
  case fin=>
   rintro⟨b1,b2⟩ s' ⟨hb',rfl,vs,ws,ns',ms',hz,hvi,hwi,hlen,hR⟩
   simp only at hb'
   subst hb'
   have hv:lexLt ns' ms'=decide (items.size<items2.size):=by
    cases hvi with
    | nil=>
     cases hwi with
     |nil=>
      simp only[lN_]at hlen
      rw[qbE]
      exact(decide_eq_false (by omega)).symm
     |cons c u hw=>
      simp only[lN_,lC_]at hlen
      rw[qbe]
      exact(decide_eq_true (by omega)).symm
    | cons a t hv=>
     cases hwi with
     |nil=>
      simp only[lN_,lC_]at hlen
      rw[qbf]
      exact(decide_eq_false (by omega)).symm
     |cons c u hw=>
      rw[yfN]at hz
      cases hz
   rw[hv]at hR
   wp_walk
   exact⟨_,rfl,by simpa [Builtin.Tuple.tupleCompareSizes] using hR⟩
  case h=>
   exact⟨rfl,rfl,items.toList,items2.toList,ns,ms,rfl,hi,hj,by omega,h⟩
end
section
variable{prog:yan}{w:World}{A:yav}{E:Value->yab->Prop}{s:yab}
theorem lt_tupInts {l b:Addr} {items items2:Array Value} {ns ms:List Int} {Q:Value->yab->Prop} (hl:IsTup s.heap l items) (hb:IsTup s.heap b items2) (hi:yby items.toList ns) (hj:yby items2.toList ms)
  (hu:A.units<cLine) (h:Q (.bool (lexLt ns ms)) s):wpAny (model prog w) A (ybg .Lt (.ref l) (.ref b)) Q E s:=by
 obtain⟨⟨cls,dd,data,sl⟩,ho,hc,n,hd⟩:=id hl
 obtain⟨⟨cls2,dd2,data2,sl2⟩,ho2,hc2,n2,hd2⟩:=id hb
 simp only at hc hd hc2 hd2
 subst hc hd hc2 hd2
 exact richCompare_meets_room (op := .Lt) ⟨_,ho,rfl⟩ ⟨_,ho2,rfl⟩ PySem.F.slot_tuple_lt PySem.F.entry_tuple_lt (PySem.F.args_tuple_lt_2 _ _) (qbF l b items items2 n n2 dd dd2 sl sl2 ns ms hi hj)
  ⟨ho,ho2,show ybp (lexLt ns ms)≠Value.notImplemented/\Q (.bool (lexLt ns ms)) s from⟨(λx=>nomatch x),h⟩⟩ hu
theorem cat_tup {t b:Addr} {vs ws:List Value} {Q:Value->yab->Prop} (ht:IsTup s.heap t vs.toArray) (hb:IsTup s.heap b ws.toArray) (hv:vs≠[])
  (h1:ws=[]->Q (.ref t) s) (h2:ws≠[]->Q (.ref s.heap.objs.size) {s with heap:=s.heap.push {cls:=.type "tuple",data:=.seq (vs++ws).toArray} })
  (hsz:vs.length+ws.length<=yai):wpAny (model prog w) A (ya8 .Add (.ref t) (.ref b)) Q E s:=by
 obtain⟨⟨cls,dd,data,sl⟩,ho,hc,n,hd⟩:=id ht
 obtain⟨⟨cls2,dd2,data2,sl2⟩,ho2,hc2,n2,hd2⟩:=id hb
 simp only at hc hd hc2 hd2
 subst hc hd hc2 hd2
 have e:vs.toArray++ws.toArray=(vs++ws).toArray:=by simp
 by_cases hw:ws=[]
 ·exact yfO ⟨_,ho,rfl⟩ ⟨_,ho2,rfl⟩ yem yfx yc3 ycU (ycM _ _)
   (tuple_addW1 t b vs.toArray ws.toArray n n2 dd dd2 sl sl2 (by simpa using hv) (by simp[hw])) ⟨ho,ho2,h1 hw⟩
 ·refine yfO ⟨_,ho,rfl⟩ ⟨_,ho2,rfl⟩ yem yfx yc3 ycU (ycM _ _)
   (tuple_addW2 t b vs.toArray ws.toArray n n2 dd dd2 sl sl2 (by simpa using hv) (by simpa using hw) (by rw[sT_,sT_];exact hsz)) ⟨ho,ho2,?_⟩
  rw[e]
  exact h2 hw
def sIx (n d:Nat):Option Int->Nat
 |none=>d
 |some v=>if v<0 then(v+(n:Int)).toNat else min v.toNat n
theorem sIx_none(n d:Nat):sIx n d none=d:=rfl
theorem sIx_nat (n d k:Nat):sIx n d (some (k:Int))=min k n:=by
 show(if(k:Int)<0 then((k:Int)+(n:Int)).toNat else min (k:Int).toNat n)=min k n
 rw[if_neg (by omega),yaW]
theorem qmt (n d:Nat) (hd:d<=n) (o:Option Int):sIx n d o<=n:=by
 cases o with
 |none=>exact hd
 |some v=>
  show(if v<0 then(v+(n:Int)).toNat else min v.toNat n)<=n
  by_cases hv:v<0
  ·rw[if_pos hv];omega
  ·rw[if_neg hv];exact Nat.min_le_right _ _
theorem qgf (v:Int) (n d:Nat):(if v<0 then max (v+(n:Int)) 0 else min v (n:Int))=((sIx n d (some v):Nat):Int):=by
 show(if v<0 then max (v+(n:Int)) 0 else min v (n:Int))=(((if v<0 then(v+(n:Int)).toNat else min v.toNat n):Nat):Int)
 by_cases hv:v<0
 ·simp only[if_pos hv];omega
 ·simp only[if_neg hv];omega
theorem qfa (lo hi:Option Int) (n:Nat):ycG lo hi 1 (n:Int)=(((sIx n 0 lo:Nat):Int),((sIx n n hi:Nat):Int)):=by
 have h1:¬((1:Int)<0):=by omega
 unfold ycG
 simp only[h1,if_false]
 refine yfg ?_ ?_
 ·cases lo with
  |none=>rfl
  |some v=>exact qgf v n 0
 ·cases hi with
  |none=>rfl
  |some v=>exact qgf v n n
theorem qfb (i j:Nat):ya6 (i:Int) (j:Int) 1=j-i:=by
 unfold ya6
 have h1:(1:Int)>0:=by omega
 simp only[h1,if_true,yfP]
 split<;>omega
theorem wD {v:Value} {o:Option Int} {Q:Option Int->yab->Prop} (p:ycN v o) (h:Q o s):wpAny (model prog w) A (Builtin.Slice.slicePartIndex v) Q E s:=by
 cases p with
 |none=>exact ydA h
 |int i t=>exact slicePart_int h
theorem sliceApplied_gen {sl:Addr} {vl vu:Value} {lo hi:Option Int} {n:Nat} {Q:Int×Int×Nat->yab->Prop} (hs:s.heap.IsSliceOf sl vl vu .none) (pl:ycN vl lo) (pu:ycN vu hi)
  (h:Q (((sIx n 0 lo:Nat):Int),1,sIx n n hi-sIx n 0 lo) s):wpAny (model prog w) A (ybT (.ref sl) (pure (n:Int))) Q E s:=by
 obtain⟨os,hos,hcs,hds⟩:=id hs
 unfold ybT yec
 refine yaa (yaa (yaE hos hds (x:=vl) rfl (yaa (yaE hos hds (x:=vu) rfl (yaa (yaE hos hds (x:=.none) rfl (yac ?_)))))))
 refine yaa (ydA ?_)
 show wpAny _ _ (if((1:Int)==0)=true then _ else _) _ _ s
 rw[if_neg (by decide)]
 refine yaa (wD pl (yaa (wD pu (yaa (yac ?_)))))
 show wpAny _ _ (match ycG lo hi 1 (n:Int) with|(lo,hi)=>pure (lo,(1:Int),ya6 lo hi 1)) _ _ s
 rw[qfa lo hi n]
 show wpAny _ _ (pure (((sIx n 0 lo:Nat):Int),(1:Int),ya6 ((sIx n 0 lo:Nat):Int) ((sIx n n hi:Nat):Int) 1)) _ _ s
 rw[qfb]
 exact yac h
theorem qic (xs:Array Value) (i k:Nat):((yap k).filterMap λ(m:Nat)=>xs[((i:Int)+(m:Int)*1).toNat]?).toArray=((xs.toList.drop i).take k).toArray:=by
 have e:(λ(m:Nat)=>xs[((i:Int)+(m:Int)*1).toNat]?)=λm=>xs[i+m]? := by
  funext m
  have:((i:Int)+(m:Int)*1).toNat=i+m:=by omega
  rw[this]
 rw[e]
 have:=pick_run xs i k
 rw[ycO]at this
 have e2:((λx=>xs[x]?)∘λx=>i+x)=λm=>xs[i+m]? := rfl
 rw[e2]at this
 rw[this]
theorem getItem_tuple_cut {t sl:Addr} {items:Array Value} {vl vu:Value} {lo hi:Option Int} {Q:Value->yab->Prop} (ht:IsTup s.heap t items) (hs:s.heap.IsSliceOf sl vl vu .none) (pl:ycN vl lo) (pu:ycN vu hi)
  (hw:¬(sIx items.size 0 lo=0/\sIx items.size items.size hi=items.size))
  (h:Q (.ref s.heap.objs.size) {s with heap:=s.heap.push {cls:=.type "tuple",data:=.seq ((items.toList.drop (sIx items.size 0 lo)).take (sIx items.size items.size hi-sIx items.size 0 lo)).toArray} })
  (hsz:items.size<=yai):wpAny (model prog w) A (yb1 (.ref t) (.ref sl)) Q E s:=by
 have htake:sizeOk (.seq ((items.toList.drop (sIx items.size 0 lo)).take (sIx items.size items.size hi-sIx items.size 0 lo)).toArray):=by
  show((items.toList.drop (sIx items.size 0 lo)).take (sIx items.size items.size hi-sIx items.size 0 lo)).toArray.size<=yai
  rw[sT_,ybK,yb6,ycz]
  omega
 have hj:sIx items.size items.size hi<=items.size:=qmt _ _ (yad _) hi
 obtain⟨os,hos,hcs,hds⟩:=id hs
 have hTs:s.TypeIs (.ref sl) "slice":=⟨os,hos,hcs⟩
 unfold yb1
 try with_reducible refine ya0 ?_
 first|refine yaa (yac ?_)|skip
 refine yaa (yd4 ht.typeIs (by decide) ?_)
 refine yaa (wpAny_callSpecial?_slot (name:=ybb "__getitem__") ht.typeIs yaY
  (ybL yaY ht.typeIs ydy ?_ (ydK _ _)))
 show wpAny _ _ (ycv (.ref t) >>= _) _ _ s
 refine yaa (yfy ht ?_)
 refine yaa (ydq hTs ?_)
 rw[if_pos (by decide)]
 refine yaa (sliceApplied_gen hs pl pu ?_)
 have hno:¬((((sIx items.size 0 lo:Nat):Int)==0&&(1:Int)==1&&(sIx items.size items.size hi-sIx items.size 0 lo)==items.size)=true):=by
  intro q
  rw[yam,yam]at q
  have q1:((sIx items.size 0 lo:Nat):Int)=0:=ydi q.1.1
  have q2:sIx items.size items.size hi-sIx items.size 0 lo=items.size:=ydi q.2
  exact hw ⟨by omega,by omega⟩
 show wpAny _ _ (if(((sIx items.size 0 lo:Nat):Int)==0&&(1:Int)==1&&(sIx items.size items.size hi-sIx items.size 0 lo)==items.size)=true then _ else _) _ _ s
 rw[if_neg hno,qic]
 first
  |exact yaa (m:=yaU _) (yaK (yac ⟨_,rfl,yac h⟩) htake)
  |exact yaa (m:=yaU _) (yaK (yaa (yac (yac ⟨_,rfl,yac h⟩))) htake)
  |exact yaa (yaa (m:=yaU _) (yaK (yac (yac ⟨_,rfl,yac h⟩)) htake))
  |exact yaa (yaa (m:=yaU _) (yaK (yac ⟨_,rfl,yac h⟩) htake))
end
end HT
namespace L2
open PySem PySem.Spec PyProof.Rows
abbrev TO:=St->Hp->(Option Int->Hp->Prop)->Prop
def PO (X:Cx) (e:Option Expr) (t:TO):Prop :=
 ∀ (pins:List (Addr×Obj)) (s:yab) (σ:St) (H:Hp) (Q:Option Int->Hp->Prop),Inv X pins σ H s->t σ H Q ->
  wpAny (model X.prog X.w) X.A (evalPart e X.env) (λu s'=>∃o H',Inv X pins σ H' s'/\ycN u o/\Q o H') X.xe s
def qkr:TO:=λ_ H Q=>Q none H
def qon(t:TE):TO:=λσ H Q=>t σ H λx H1=>∃i,x=.int i/\Q (some i) H1
theorem vn {ns:List Int}:∀{us:List Value},zt (ns.map V.int) us->yby us ns:=by
 induction ns with
 |nil=>intro us r;rw[ycP]at r;cases r;exact .nil
 | cons n ns ih=>
  intro us r
  rw[mC_]at r
  cases r with
  |cons r1 r2=>
   obtain⟨t,e⟩:=r1
   subst e
   exact .cons n t (ih r2)
section
variable{X:Cx}{e:Expr}{te:TE}{lo hi:Option Expr}{tl th:TO}{pos p2:Pos}
theorem qks:PO X none qkr:=by
 intro pins s σ H Q I h
 rw[yfz]
 exact yac ⟨none,H,I,.none,h⟩
theorem qgg (h:PE X e te):PO X (some e) (qon te):=by
 intro pins s σ H Q I hw
 rw[evalPart_some]
 refine thn (h pins s σ H _ I hw) λu s1 ⟨x,H1,I1,r1,q1⟩=>?_
 obtain⟨i,rfl,q⟩:=q1
 obtain⟨t,rfl⟩:=r1
 exact⟨some i,H1,I1,.int i t,q⟩
def SlR (X:Cx) (r:V->Option Int->Option Int->Hp->VK->Prop):Prop :=
 ∀ (pins:List (Addr×Obj)) (s:yab) (σ:St) (H:Hp) (x:V) (v vl vu:Value) (lo hi:Option Int) (sl:Addr) (Q:VK),Inv X pins σ H s->zY x v->s.heap.IsSliceOf sl vl vu .none->ycN vl lo->ycN vu hi->r x lo hi H Q ->
  ∃T id,yfh (.type T) "__getitem__"=pure (some (.builtin id))/\s.TypeIs v T/\wpAny (model X.prog X.w) X.A (yb1 v (.ref sl)) (EP X pins σ Q) X.xe s
theorem SlR.or {r r':V->Option Int->Option Int->Hp->VK->Prop} (h:SlR X r) (h':SlR X r'):SlR X (λx lo hi H Q=>r x lo hi H Q\/r' x lo hi H Q):=by
 intro pins s σ H x v vl vu lo hi sl Q I rx hs pl pu q
 rcases q with q|q
 ·exact h pins s σ H x v vl vu lo hi sl Q I rx hs pl pu q
 ·exact h' pins s σ H x v vl vu lo hi sl Q I rx hs pl pu q
def tSl(r:V->Option Int->Option Int->Hp->VK->Prop)(te:TE)(tl th:TO):TE:=λσ H Q=>te σ H λx H1=>tl σ H1 λl H2=>th σ H2 λu H3=>r x l u H3 Q
theorem qid {r:V->Option Int->Option Int->Hp->VK->Prop} (hr:SlR X r) (he:PE X e te) (hl:PO X lo tl) (hu:PO X hi th):PE X (.Subscript e (.Slice lo hi none p2) pos) (tSl r te tl th):=by
 intro pins s σ H Q I h
 refine yfi (thn (he pins s σ H _ I h) λv s1 ⟨x,H1,I1,r1,q1⟩=>?_)
 refine wpAny_Slice (thn (hl pins s1 σ H1 _ I1 q1) λvl s2 ⟨l,H2,I2,pl,q2⟩=>thn (hu pins s2 σ H2 _ I2 q2) λvu s3 ⟨u,H3,I3,pu,q3⟩=>?_)
 rw[yfz]
 refine yac ?_
 have I4:Inv X pins σ H3 {s3 with heap:=s3.heap.push {cls:=.type "slice",data:=.fields #[vl,vu,.none]} }:=I3.kept (t':=s3.toks) λb ob q=>Heap.get?_push_of_some _ q
 obtain⟨T,id,hT,ht,hg⟩:=hr pins {s3 with heap:=s3.heap.push {cls:=.type "slice",data:=.fields #[vl,vu,.none]} } σ H3 x v vl vu l u s3.heap.objs.size Q I4 r1 (yfQ ..) pl pu q3
 show wpAny (model X.prog X.w) X.A (yfA e (.Slice lo hi none p2) v (.ref s3.heap.objs.size)) (EP X pins σ Q) X.xe {s3 with heap:=s3.heap.push {cls:=.type "slice",data:=.fields #[vl,vu,.none]} }
 exact tail_any (ops:=[.ref s3.heap.objs.size,v]) ht hT hg (by with_unfolding_all rfl)
def qh3(xs:List V)(lo hi:Option Int):List V:=(xs.drop (HT.sIx xs.length 0 lo)).take (HT.sIx xs.length xs.length hi-HT.sIx xs.length 0 lo)
theorem qas (xs:List V) (lo hi:Option Int):(qh3 xs lo hi).length<=xs.length:=by
 unfold qh3
 rw[ybK,yb6]
 omega
def qph (K:yal):V->Option Int->Option Int->Hp->VK->Prop:=λx lo hi H Q=>∃a xs,x=.ref a/\SqT K H a xs /\
 ¬(HT.sIx xs.length 0 lo=0/\HT.sIx xs.length xs.length hi=xs.length)/\∀p,H p=none->Q (.ref p) (upd H p (.tup (qh3 xs lo hi)))
theorem sl_tup:SlR X (qph X.K):=by
 intro pins s σ H x v vl vu lo hi sl Q I rx hs pl pu h
 obtain⟨a,xs,rfl,hx,hw,q⟩:=h
 cases rx
 obtain⟨its,r,ht,hz⟩:=I.tuple hx
 have hlen:its.toArray.size=xs.length:=by rw[sT_];exact r.length.symm
 refine⟨"tuple",_,PyProof.Rows.slot_tuple_getitem.lookup,ht.typeIs,?_⟩
 refine HT.getItem_tuple_cut ht hs pl pu (by rw[hlen];exact hw) ?_ (by rw[hlen];exact hz)
 rw[hlen]
 refine⟨.ref s.heap.objs.size,_,I.laid (t':=s.toks) (o:=.tup (qh3 xs lo hi)) (λb ob q=>Heap.get?_push_of_some _ q) (yad _) ?_,rfl,q _ (I.hok.fresh (yad _))⟩
 exact⟨yay (qas xs lo hi) hz,_,(r.drop (HT.sIx xs.length 0 lo)).take (HT.sIx xs.length xs.length hi-HT.sIx xs.length 0 lo),ydh _ _⟩
def qmu (K:yal):R2:=λx y H Q=>∃a b xs ys,x=.ref a/\y=.ref b/\SqT K H a xs/\SqT K H b ys/\xs≠[]/\xs.length+ys.length<=yai /\
 (ys=[]->Q (.ref a) H)/\(ys≠[]->∀p,H p=none->Q (.ref p) (upd H p (.tup (xs++ys))))
theorem zt.nil_iff {xs:List V} {us:List Value} (r:zt xs us):us=[] ↔ xs=[]:=by
 cases r with
 |nil=>simp
 |cons _ _=>simp
theorem qkt:OpR X (ya8 .Add) (qmu X.K):=by
 intro pins s σ H x y v u Q I rx ry h
 obtain⟨a,b,xs,ys,rfl,rfl,ha,hb,hx,hz,q1,q2⟩:=h
 cases rx
 cases ry
 obtain⟨its,r1,p1,_⟩:=I.tuple ha
 obtain⟨its2,r2,p2,_⟩:=I.tuple hb
 refine HT.cat_tup p1 p2 (λz=>hx (r1.nil_iff.mp z)) (λz=>⟨.ref a,H,I,rfl,q1 (r2.nil_iff.mp z)⟩) (λz=>?_) (by rw[<-r1.length,<-r2.length];exact hz)
 refine⟨.ref s.heap.objs.size,_,I.laid (t':=s.toks) (o:=.tup (xs++ys)) (λb ob q=>Heap.get?_push_of_some _ q) (yad _) ?_,rfl,q2 (λw=>z (r2.nil_iff.mpr w)) _ (I.hok.fresh (yad _))⟩
 exact⟨by rw[lA_];exact hz,_,r1.append r2,ydh _ _⟩
end
end L2
namespace L2
open PySem PySem.Spec PyProof.Rows
def ixN(n:Nat)(i:Int):Option Nat:=if 0<=i then(if i<n then some i.toNat else none)else if -(n:Int)<=i then some (i+n).toNat else none
def atI{α:Type}(xs:List α)(i:Int):Option α:=(ixN xs.length i).bind λj=>xs[j]?
theorem qgh {n:Nat} {i:Int} {j:Nat} (h:ixN n i=some j):seqIndex? i n=some j/\j<n /\ -(n:Int)<=i/\i<n:=by
 unfold ixN at h
 by_cases h0:0<=i
 ·rw [if_pos h0]at h
  by_cases h1:i<n
  ·rw[if_pos h1]at h
   have e:i.toNat=j:=yaz h
   exact⟨by rw[ygf h0 h1,e],by omega,by omega,h1⟩
  ·rw[if_neg h1]at h;cases h
 ·rw [if_neg h0]at h
  by_cases h1 : -(n:Int)<=i
  ·rw[if_pos h1]at h
   have e:(i+n).toNat=j:=yaz h
   exact⟨by rw[yfR (by omega) h1,e],by omega,h1,by omega⟩
  ·rw[if_neg h1]at h;cases h
theorem qgi {α:Type} {xs:List α} {i:Int} {v:α} (h:atI xs i=some v):∃j,seqIndex? i xs.length=some j/\xs[j]? = some v/\j<xs.length /\ -(xs.length:Int)<=i/\i<xs.length:=by
 unfold atI at h
 cases e:ixN xs.length i with
 |none=>rw[e]at h;cases h
 |some j=>
  rw[e]at h
  obtain⟨h1,h2,h3,h4⟩:=qgh e
  exact⟨j,h1,h,h2,h3,h4⟩
def qdi(b:Expr):Prop:=∀o i,yeR b false o i=operate [o,i] (yb1 o i)
def IxR (X:Cx) (r:R2):Prop :=
 ∀ (value slice:Expr) (pins:List (Addr×Obj)) (s:yab) (σ:St) (H:Hp) (x y:V) (v u:Value) (Q:VK),Inv X pins σ H s->zY x v->zY y u->r x y H Q ->
  yeR slice false v u=operate [v,u] (yb1 v u)->wpAny (model X.prog X.w) X.A (yfA value slice v u) (EP X pins σ Q) X.xe s
def MtR (X:Cx) (id:String) (r:V->List V->Hp->VK->Prop):Prop :=
 ∀ (pins:List (Addr×Obj)) (s:yab) (σ:St) (H:Hp) (x:V) (xs:List V) (v:Value) (us:List Value) (Q:VK),Inv X pins σ H s->zY x v->zt xs us->r x xs H Q ->
  wpAny (model X.prog X.w) X.A (call (.builtin id) (v::us)) (EP X pins σ Q) X.xe s
section
variable{X:Cx}{a b:Expr}{ta tb:TE}{pos:Pos}
theorem IxR.or {r r':R2} (h:IxR X r) (h':IxR X r'):IxR X (λx y H Q=>r x y H Q\/r' x y H Q):=by
 intro value slice pins s σ H x y v u Q I rx ry q hs
 rcases q with q|q
 ·exact h value slice pins s σ H x y v u Q I rx ry q hs
 ·exact h' value slice pins s σ H x y v u Q I rx ry q hs
theorem MtR.or {id:String} {r r':V->List V->Hp->VK->Prop} (h:MtR X id r) (h':MtR X id r'):MtR X id (λx xs H Q=>r x xs H Q\/r' x xs H Q):=by
 intro pins s σ H x xs v us Q I rx rs q
 rcases q with q|q
 ·exact h pins s σ H x xs v us Q I rx rs q
 ·exact h' pins s σ H x xs v us Q I rx rs q
theorem qmv {r:R2} (hr:IxR X r) (ha:PE X a ta) (hb:PE X b tb) (hs:qdi b):PE X (.Subscript a b pos) (tOp r ta tb):=by
 intro pins s σ H Q I h
 exact yfi (qoc ha hb I h λv u s2 x y H2 I2 rx ry q=>hr a b pins s2 σ H2 x y v u Q I2 rx ry q (hs _ _))
def qoo(K:yal):R2:=λx y H Q=>∃p xs i v,x=.ref p/\y=.int i/\SqL K H p xs/\atI xs i=some v/\Q v H
def qop(K:yal):R2:=λx y H Q=>∃p xs i v,x=.ref p/\y=.int i/\SqT K H p xs/\atI xs i=some v/\Q v H
theorem qgj:IxR X (qoo X.K):=by
 intro value slice pins s σ H x y v u Q I rx ry h hs
 obtain⟨p,xs,i,z,rfl,rfl,hq,he,q⟩:=h
 cases rx
 obtain⟨t,rfl⟩:=ry
 obtain⟨its,r,pl,hz⟩:=I.list hq
 obtain⟨j,h1,h2,h3,h4,h5⟩:=qgi he
 obtain⟨w,ew,rw'⟩:=r.get h2
 have hl:=r.length
 have hn:=qck
 have fin:EP X pins σ Q w s:=⟨z,H,I,rw',q⟩
 by_cases h0:0<=i
 ·have hj:i.toNat=j:=by
   rw[ygf h0 h5]at h1
   exact yaz h1
  exact item_listR pl.isList h0 (by omega) (by rw[hj];simpa using ew) fin hs
 ·have hj:(i+(its.toArray.size:Int)).toNat=j:=by
   rw[yfR (by omega) h4]at h1
   rw[sT_,<-hl]
   exact yaz h1
  exact yeS (x:=w) pl.isList.typeIs slot_list_getitem.lookup
   (wpAny_getItem_list_neg (Q:=λr s'=>r=w/\EP X pins σ Q r s') pl.isList (by omega) (by rw[sT_]<;>omega) (by omega) (by rw[hj];simpa using ew) ⟨rfl,fin⟩) hs
theorem qmw:IxR X (qop X.K):=by
 intro value slice pins s σ H x y v u Q I rx ry h hs
 obtain⟨p,xs,i,z,rfl,rfl,hq,he,q⟩:=h
 cases rx
 obtain⟨t,rfl⟩:=ry
 obtain⟨its,r,pl,hz⟩:=I.tuple hq
 obtain⟨j,h1,h2,h3,h4,h5⟩:=qgi he
 obtain⟨w,ew,rw'⟩:=r.get h2
 have hl:=r.length
 have hn:=qck
 have fin:EP X pins σ Q w s:=⟨z,H,I,rw',q⟩
 exact yeS (x:=w) pl.typeIs slot_tuple_getitem.lookup
  (getItem_tuple (j:=j) (Q:=λr s'=>r=w/\EP X pins σ Q r s') pl (by omega) (by omega) (by rw[sT_,<-hl];exact h1) (by simpa using ew) ⟨rfl,fin⟩) hs
theorem qfc (its:List Value) (n j:Nat) (u:Value):yaJ (·.setIfInBounds j u) {cls:=.type "list",data:=.seq its.toArray n}={cls:=.type "list",data:=.seq (its.set j u).toArray n}:=by
 simp[yaJ]
theorem Inv.lst {pins:List (Addr×Obj)} {σ:St} {H:Hp} {s:yab} {p:Addr} {xs:List V} (I:Inv X pins σ H s) (h:H p=some (.lst xs)) :
  ∃(its:List Value)(n:Nat),zt xs its/\s.heap.get? p=some {cls:=.type "list",data:=.seq its.toArray n}/\xs.length<=yai:=by
 obtain⟨z,its,n,r,e⟩:=I.hok p _ h
 exact⟨its,n,r,e,z⟩
theorem Inv.lstUpd {pins:List (Addr×Obj)} {σ:St} {H:Hp} {s:yab} {p:Addr} {xs ys:List V} {its its':List Value} {n n':Nat} {f:Obj->Obj} (I:Inv X pins σ H s) (h:H p=some (.lst xs))
  (ho:s.heap.get? p=some {cls:=.type "list",data:=.seq its.toArray n}) (hf:f {cls:=.type "list",data:=.seq its.toArray n}={cls:=.type "list",data:=.seq its'.toArray n' }) (r:zt ys its') (hz:ys.length<=yai) (t:Nat) :
  Inv X pins σ (upd H p (.lst ys)) {s with heap:=s.heap.update p f,toks:=t}:=by
 have e:(s.heap.update p f).get? p=some {cls:=.type "list",data:=.seq its'.toArray n' }:=by
  rw[Heap.get?_update_self f ho (by rw[hf]<;>rfl),hf]
 refine I.write (x:=p) (e:=p) (by rw[h];trivial) (.inl rfl) (λb u hb q=>(Heap.get?_update_other _ _ (ybk hb)).trans q) ⟨_,e⟩ ?_
 exact⟨hz,its',n',r,e⟩
def qoq:V->V->V->Hp->(Hp->Prop)->Prop:=λo i v H Q=>∃p xs k j,o=.ref p/\i=.int k/\H p=some (.lst xs)/\ixN xs.length k=some j/\Q (upd H p (.lst (xs.set j v)))
theorem qbG:qpc X qoq:=by
 intro pins s σ H o i v ov iv u Q I ro ri rv h
 obtain⟨p,xs,k,j,rfl,rfl,hp,hj,q⟩:=h
 cases ro
 obtain⟨t,rfl⟩:=ri
 obtain⟨its,n,r,ho,hz⟩:=I.lst hp
 obtain⟨h1,h2,h3,h4⟩:=qgh hj
 have hl:=r.length
 have hn:=qck
 have I':Inv X pins σ (upd H p (.lst (xs.set j v))) {s with heap:=s.heap.update p (yaJ (·.setIfInBounds j u))} :=
  I.lstUpd hp ho (qfc its n j u) (r.set rv j) (by rw[lS_];exact hz) s.toks
 by_cases h0:0<=k
 ·have hk:k.toNat=j:=by
   rw[ygf h0 h4]at h1
   exact yaz h1
  exact PySem.W.ki_setAt ho h0 (by omega) (by rw[sT_,<-hl];exact h4) (by rw[hk];exact⟨_,I',q⟩)
 ·have hk:(k+(its.toArray.size:Int)).toNat=j:=by
   rw[yfR (by omega) h3]at h1
   rw[sT_,<-hl]
   exact yaz h1
  exact PySem.W.ki_setBack ho (by omega) (by rw[sT_,<-hl];exact h3) (by omega) (by rw[hk];exact⟨_,I',q⟩)
theorem qcr (lo hi:Option Int) (n:Nat):(ycm lo hi none n).1=((HT.sIx n 0 lo:Nat):Int)/\(ycm lo hi none n).2.1=((HT.sIx n n hi:Nat):Int)/\(ycm lo hi none n).2.2=1:=by
 refine⟨?_,?_,rfl⟩
 ·cases lo with
  |none=>simp[ycm,HT.sIx]
  |some i=>
   simp only[ycm,HT.sIx,Option.getD_none,show(1:Int)>0 by decide,if_true]
   by_cases h:i<0
   ·simp only[h,if_true]<;>omega
   ·simp only[h,if_false]<;>omega
 ·cases hi with
  |none=>simp[ycm,HT.sIx]
  |some i=>
   simp only[ycm,HT.sIx,Option.getD_none,show(1:Int)>0 by decide,if_true]
   by_cases h:i<0
   ·simp only[h,if_true]<;>omega
   ·simp only[h,if_false]<;>omega
theorem qbH (its:List Value) (lo hi:Option Int):yfS its.toArray lo hi none=((its.drop (HT.sIx its.length 0 lo)).take (HT.sIx its.length its.length hi-HT.sIx its.length 0 lo)).toArray:=by
 obtain⟨h1,h2,h3⟩:=qcr lo hi its.toArray.size
 unfold yfS
 rw[h1,h2,h3]
 simp only[sliceRange_one,pick_run,sT_]<;>rfl
def qpV(K:yal):V->Option Int->Option Int->Hp->VK->Prop:=λx lo hi H Q=>∃a xs,x=.ref a/\SqL K H a xs/\∀p,H p=none->Q (.ref p) (upd H p (.lst (qh3 xs lo hi)))
theorem qku:SlR X (qpV X.K):=by
 intro pins s σ H x v vl vu lo hi sl Q I rx hs pl pu h
 obtain⟨a,xs,rfl,hx,q⟩:=h
 cases rx
 obtain⟨its,r,ht,hz⟩:=I.list hx
 have hlen:=r.length
 refine⟨"list",_,slot_list_getitem.lookup,ht.isList.typeIs,?_⟩
 refine yen ht.isList hs pl pu .none (by simp) ?_ (by rw[sT_]<;>omega)
 rw[qbH,<-hlen]
 refine⟨.ref s.heap.objs.size,_,I.laid (t':=s.toks) (o:=.lst (qh3 xs lo hi)) (λb ob q=>Heap.get?_push_of_some _ q) (yad _) ?_,rfl,q _ (I.hok.fresh (yad _))⟩
 exact⟨yay (qas xs lo hi) hz,_,0,(r.drop (HT.sIx xs.length 0 lo)).take (HT.sIx xs.length xs.length hi-HT.sIx xs.length 0 lo),Heap.get?_push_size _ rfl⟩
def qpW:V->Bool
 |.non=>true
 |.bl _=>true
 |.int _=>true
 |.str _=>true
 |_=>false
def eqV:V->V->Bool
 |.non,.non=>true
 |.bl a,.bl b=>a==b
 |.bl a,.int b=>(if a then 1 else 0)==b
 |.int a,.bl b=>a==(if b then 1 else 0)
 |.int a,.int b=>a==b
 |.str a,.str b=>a==b
 |_,_=>false
theorem qcs:jN X (.builtin "len") (λxs H Q=>∃p ys,xs=[.ref p]/\(SqL X.K H p ys\/SqT X.K H p ys)/\Q (.int ys.length) H):=by
 intro pins s σ H xs us Q I r h
 obtain⟨p,ys,rfl,hq,q⟩:=h
 obtain⟨u,rfl,rx⟩:=qgb r
 cases rx
 have hn:=qck
 rcases hq with hq|hq
 ·obtain⟨its,r',pl,hz⟩:=I.list hq
  have hlen:=r'.length
  exact Calls.call_len_list pl.isList (by simp only[sT_]<;>omega) ⟨.int ys.length,H,I.tok _,⟨s.toks+1,by rw[sT_,hlen]⟩,q⟩
 ·obtain⟨its,r',pl,hz⟩:=I.tuple hq
  have hlen:=r'.length
  exact len_tuple pl (by simp only[sT_]<;>omega) ⟨.int ys.length,H,I.tok _,⟨s.toks+1,by rw[sT_,hlen]⟩,q⟩
theorem qct:jN X (.builtin "len") (λxs H Q=>∃z,xs=[.str z]/\z.length<=yai/\Q (.int z.length) H):=by
 intro pins s σ H xs us Q I r h
 obtain⟨z,rfl,hz,q⟩:=h
 obtain⟨u,rfl,t,rfl⟩:=qgb r
 have hn:=qck
 exact len_str (by omega) ⟨.int z.length,H,I.tok _,⟨_,rfl⟩,q⟩
theorem jN.or {f:Value} {r r':List V->Hp->VK->Prop} (h:jN X f r) (h':jN X f r'):jN X f (λxs H Q=>r xs H Q\/r' xs H Q):=by
 intro pins s σ H xs us Q I rs q
 rcases q with q|q
 ·exact h pins s σ H xs us Q I rs q
 ·exact h' pins s σ H xs us Q I rs q
theorem wX:jN X (.type "list") (λxs H Q=>∃p ys,xs=[.ref p]/\(SqL X.K H p ys\/SqT X.K H p ys)/\∀l,H l=none->Q (.ref l) (upd H l (.lst ys))):=by
 intro pins s σ H xs us Q I r h
 obtain⟨p,ys,rfl,hq,q⟩:=h
 obtain⟨u,rfl,rx⟩:=qgb r
 cases rx
 have fin:∀(its:List Value),zt ys its->ys.length<=yai->∀(h':Heap)(c':Nat),(∀b o',s.heap.get? b=some o'->h'.get? b=some o') ->
   h'.get? s.heap.objs.size=some {cls:=.type "list",dict:=none,data:=.seq its.toArray c',slots := #[]}->EP X pins σ Q (.ref s.heap.objs.size) {s with heap:=h' }:=λits r' hz h' c' kp e=>
  ⟨.ref s.heap.objs.size,_,I.laid (t':=s.toks) kp (yad _) (show jd X.prog X.w _ h' _ (.lst ys) from⟨hz,its,c',r',e⟩),rfl,q _ (I.hok.fresh (yad _))⟩
 rcases hq with hq|hq
 ·obtain⟨its,r',pl,hz⟩:=I.list hq
  have hlen:=r'.length
  obtain⟨o,ho,hc,n,hd⟩:=pl.isList
  exact call_list_seq p (.inl rfl) ho hc hd (λh' c' kp e=>fin its r' hz h' c' kp e) (by simp only[sT_]<;>omega)
 ·obtain⟨its,r',pl,hz⟩:=I.tuple hq
  have hlen:=r'.length
  obtain⟨o,ho,hc,n,hd⟩:=pl
  exact call_list_seq p (.inr rfl) ho hc hd (λh' c' kp e=>fin its r' hz h' c' kp e) (by simp only[sT_]<;>omega)
theorem yo:jN X (.type "tuple") (λxs H Q=>∃p ys,xs=[.ref p]/\((SqL X.K H p ys/\∀l,H l=none->Q (.ref l) (upd H l (.tup ys)))\/(SqT X.K H p ys/\Q (.ref p) H))):=by
 intro pins s σ H xs us Q I r h
 obtain⟨p,ys,rfl,h⟩:=h
 obtain⟨u,rfl,rx⟩:=qgb r
 cases rx
 rcases h with⟨hq,q⟩|⟨hq,q⟩
 ·obtain ⟨its,r',pl,hz⟩:=I.list hq
  have hlen:=r'.length
  refine call_tuple_list pl.isList (λh' kp=>?_) (by simp only[sT_]<;>omega)
  have I1:Inv X pins σ H {s with heap:=h' }:=I.kept (t':=s.toks) kp
  have I2:Inv X pins σ (upd H h'.objs.size (.tup ys)) {s with heap:=h'.push {cls:=.type "tuple",data:=.seq its.toArray} } :=
   I1.laid (t':=s.toks) (λb o e=>Heap.get?_push_of_some _ e) (yad _) (show jd X.prog X.w _ _ _ (.tup ys) from⟨hz,its,r',ydh _ _⟩)
  exact⟨.ref h'.objs.size,_,I2,rfl,q _ (I1.hok.fresh (yad _))⟩
 ·obtain⟨its,r',pl,hz⟩:=I.tuple hq
  exact call_tuple_same pl ⟨.ref p,H,I,rfl,q⟩
def tyV (K:yal) (T:String) (x:V) (H:Hp):Prop:=match x with
 |.str _=>T="str"
 |.int _=>T="int"
 | .ref p=>(T="list"/\∃xs,SqL K H p xs)\/(T="tuple"/\∃o,K.lookup p=some o/\o.cls=.type "tuple"/\o.dict=none) \/
   (T="dict"/\((∃kvs,H p=some (.dK kvs))\/∃kvs,H p=some (.dT kvs)))\/(T="set"/\∃S n,H p=some (.set S n))
 |_=>False
theorem qmx {pins:List (Addr×Obj)} {σ:St} {H:Hp} {s:yab} {T:String} {x:V} {v:Value} (I:Inv X pins σ H s) (r:zY x v) (ty:tyV X.K T x H) :
  s.TypeIs v T/\∀a,v=.ref a->∃ob,s.heap.get? a=some ob/\ob.dict=none:=by
 cases x with
 |str z=>
  obtain⟨t,rfl⟩:=r
  cases (show T="str" from ty)
  exact⟨typeIs_str s z t,λ_ e=>nomatch e⟩
 |int i=>
  obtain⟨t,rfl⟩:=r
  cases (show T="int" from ty)
  exact⟨yce s i t,λ_ e=>nomatch e⟩
 | ref p=>
  cases r
  rcases ty with⟨rfl,xs,hq⟩|⟨rfl,o,hk,hc,hd⟩|⟨rfl,hk⟩|⟨rfl,S,n,hk⟩
  ·obtain⟨its,_,pl,_⟩:=I.list hq
   refine⟨pl.isList.typeIs,λa e=>?_⟩
   cases e
   obtain⟨o,n,e,c,hd,_⟩:=pl
   exact⟨o,e,hd⟩
  ·refine⟨⟨o,I.kIn p o hk,hc⟩,λa e=>?_⟩
   cases e
   exact⟨o,I.kIn _ o hk,hd⟩
  ·have z:∃o,s.heap.get? p=some o/\o.ExactDict:=by
    rcases hk with⟨kvs,hk⟩|⟨kvs,hk⟩
    ·obtain⟨_,_,_,_,o,_,_,e,ex,_⟩:=I.hok p _ hk
     exact⟨o,e,ex⟩
    ·obtain⟨_,_,_,_,o,_,_,e,ex,_⟩:=I.hok p _ hk
     exact⟨o,e,ex⟩
   obtain⟨o,e,ex⟩:=z
   refine⟨⟨o,e,ex.1⟩,λa e2=>?_⟩
   cases e2
   exact⟨o,e,ex.2.1⟩
  ·obtain⟨o,_,_,_,e,ex,_⟩:=I.hok p _ hk
   refine⟨⟨o,e,ex.1⟩,λa e2=>?_⟩
   cases e2
   exact⟨o,e,ex.2.1⟩
 |_=>exact ya9 ty
def tBM(K:yal)(T:String)(r:V->List V->Hp->VK->Prop)(to:TE)(t:TA):TE:=λσ H Q=>to σ H λx H1=>tyV K T x H1/\t σ H1 λxs H2=>r x xs H2 Q
variable{o e:Expr}{es:List Expr}{to:TE}{t:TA}{name:Str}{apos cpos:Pos}{T id:String}{r:V->List V->Hp->VK->Prop}
theorem qmy (pa:PlainAttrs T) (slot:Slot T name id) (hty:typeOf (.builtin id)=pure (.type "method_descriptor")) (hm:MtR X id r) (ho:PE X o to) (ha:PA X (e::es) t)
  (hbase:yc9 o name X.env (eval o X.env)=eval o X.env:=by rfl)
  (hfew:((yaX cpos (yah (e::es) X.env)).all (λx => !x.1)&&(yfj cpos (ydE [] X.env)).all (λx=>x.1.isSome)
   && decide ((e::es).length+([]:List ycy).length+(if([]:List ycy).isEmpty then 0 else 1)<30))=true:=by rfl)
  (hline:(apos.endLine==cpos.line)=true:=by rfl) (hs:yah (e::es) X.env=(false,eval e X.env)::yah es X.env:=by rfl) (hplain:(yaX cpos (yah es X.env)).any (·.1)=false:=by rfl) :
  PE X (.Call (.Attribute o name apos) (e::es) [] cpos) (tBM X.K T r to t):=by
 intro pins s σ H Q I h
 refine wpAny_Call_method_late hbase hfew hline rfl (thn (ho pins s σ H _ I h) λv s1 ⟨x,H1,I1,r1,ty,q1⟩=>?_)
 obtain⟨h1,h2⟩:=qmx I1 r1 ty
 refine⟨T,id,pa,slot,hty,h1,h2,?_⟩
 have hA:=ha cpos pins s1 σ H1 _ I1 q1
 rw[hs]at hA |-
 refine yeT (by show(false||(yaX cpos (yah es X.env)).any (·.1))=false;rw[hplain]<;>rfl) (yfk ?_)
 exact thn hA λus s2 ⟨vs,H2,I2,r2,q2⟩=>hm pins s2 σ H2 x vs v us Q I2 r1 r2 q2
/- xs.append(e),list.index on a module's tuple .. are MtR facts of 06m -/
end
end L2
namespace L2
open PySem PySem.Spec PyProof.Rows
def MtM (X:Cx) (id:String) (r:V->List V->Hp->VK->Prop):Prop :=
 ∀ (pins:List (Addr×Obj)) (s:yab) (σ:St) (H:Hp) (x:V) (xs:List V) (v:Value) (us:List Value) (Q:VK),Inv X pins σ H s->zY x v->zt xs us->r x xs H Q ->
  wpAny (model X.prog X.w) X.A (call (.builtin id) (v::us)) (EP X pins σ Q) X.xe s
theorem zt.one:∀{x:V}{us:List Value},zt [x] us->∃u,us=[u]/\zY x u
 |_,_,.cons r .nil=>⟨_,rfl,r⟩
theorem zt.two:∀{x y:V}{us:List Value},zt [x,y] us->∃u v,us=[u,v]/\zY x u/\zY y v
 |_,_,_,.cons r (.cons q .nil)=>⟨_,_,rfl,r,q⟩
theorem zt.eraseIdx:∀{xs:List V}{us:List Value}(i:Nat),zt xs us->zt (xs.eraseIdx i) (us.eraseIdx i)
 |_,_,_,.nil => .nil
 |_,_,0,.cons _ t=>t
 |_,_,i+1,.cons r t => .cons r (zt.eraseIdx i t)
theorem zt.reverse {xs:List V} {us:List Value} (h:zt xs us):zt xs.reverse us.reverse:=by
 induction h with
 |nil=>exact .nil
 |cons r t ih=>rw[ycV,ycV];exact zt.append ih (.cons r .nil)
theorem zt.rep {xs:List V} {us:List Value} (h:zt xs us):∀k:Nat,zt (yau k xs).flatten (yau k us).flatten
 |0 => .nil
 |k+1=>by
  rw[rS_,rS_,ybG,ybG]
  exact zt.append h (zt.rep h k)
theorem qat (its:List Value):∀(k:Nat)(acc:List Value),
  yfl (λx1 x2=>x1++x2) acc.toArray (yau k its.toArray)=(acc++(yau k its).flatten).toArray
 |0,acc=>by simp
 | k+1,acc=>by
  have e:acc.toArray++its.toArray=(acc++its).toArray:=by simp
  have e2:(acc++its)++(yau k its).flatten=acc++(yau (k+1) its).flatten:=by
   rw[rS_,ybG,yd5]
  rw[<-e2,<-qat its k (acc++its),<-e,rS_,fo_]
section
variable{X:Cx}{pins:List (Addr×Obj)}{σ:St}{H:Hp}{s:yab}{l b:Addr}{xs ys zs:List V}
theorem Inv.lset {its its':List Value} {n:Nat} {f:Array Value->Array Value} {t':Nat} (I:Inv X pins σ H s) (hH:H l=some (.lst xs))
  (e:s.heap.get? l=some {cls:=.type "list",data:=.seq its.toArray n}) (hf:f its.toArray=its'.toArray) (hv:zt ys its') (hz:ys.length<=yai) :
  Inv X pins σ (upd H l (.lst ys)) {s with heap:=s.heap.update l (yaJ f),toks:=t' }:=by
 have q:=PySem.IsL.update e f
 rw[hf]at q
 refine I.write (x:=l) (e:=l) (by rw[hH];exact trivial) (.inl rfl) (λb' u hb hu=>(Heap.get?_update_other s.heap (yaJ f) (ybk hb)).trans hu) ⟨_,q⟩ ?_
 exact⟨hz,its',_,hv,q⟩
theorem Inv.lnew {its:List Value} {t':Nat} (I:Inv X pins σ H s) (hv:zt ys its) (hz:ys.length<=yai) :
  Inv X pins σ (upd H s.heap.objs.size (.lst ys)) {s with heap:=s.heap.push {cls:=.type "list",data:=.seq its.toArray},toks:=t' } :=
 I.laid (λ_ _ q=>Heap.get?_push_of_some _ q) (yad _) ⟨hz,its,0,hv,Heap.get?_push_size _ rfl⟩
theorem Inv.fresh(I:Inv X pins σ H s):H s.heap.objs.size=none:=I.hok.fresh (yad _)
theorem Inv.lstM (I:Inv X pins σ H s) (hH:H l=some (.lst xs)):xs.length<=yai/\∃(its:List Value)(n:Nat),zt xs its/\xs.length=its.length/\s.heap.get? l=some {cls:=.type "list",data:=.seq its.toArray n}:=by
 obtain⟨z,its,n,r,e⟩:=I.hok l _ hH
 exact⟨z,its,n,r,r.length,e⟩
theorem qd0 {n:Nat} (h:n<=yai):yb7 n=false:=by
 unfold yb7
 exact decide_eq_false (by omega)
end
section
variable{X:Cx}
def qkv:V->List V->Hp->VK->Prop:=λx vs H Q=>∃l xs y,x=.ref l/\vs=[y]/\H l=some (.lst xs)/\xs.length<yai/\Q .non (upd H l (.lst (xs++[y])))
theorem qau:MtM X "list.append" qkv:=by
 intro pins s σ H x vs v us Q I rx rv h
 obtain⟨l,xs,y,rfl,rfl,hH,hz,q⟩:=h
 cases rx
 obtain⟨u,rfl,ru⟩:=rv.one
 obtain⟨z,its,n,r,hl,e⟩:=I.lstM hH
 refine ybM F.slot_list_append ⟨_,e,rfl⟩ F.entry_list_append (F.args_list_append_2 _ _) (PySem.list_append l its.toArray n u (by rw[sT_];omega)) ⟨e,?_⟩
 refine⟨.non,_,I.lset (its':=its++[u]) hH e (by simp) (r.append (.cons ru .nil)) ?_,rfl,q⟩
 rw[lA_,yaM]
 omega
def qkw:V->List V->Hp->VK->Prop:=λx vs H Q=>∃l b xs zs,x=.ref l/\vs=[.ref b]/\H l=some (.lst xs)/\H b=some (.lst zs)/\xs.length+zs.length<=yai/\Q .non (upd H l (.lst (xs++zs)))
theorem qmz:MtM X "list.extend" qkw:=by
 intro pins s σ H x vs v us Q I rx rv h
 obtain⟨l,b,xs,zs,rfl,rfl,hH,hB,hz,q⟩:=h
 cases rx
 obtain⟨u,rfl,ru⟩:=rv.one
 cases ru
 obtain⟨z,its,n,r,hl,e⟩:=I.lstM hH
 obtain⟨z2,its2,n2,r2,hl2,e2⟩:=I.lstM hB
 have hsz:its.toArray.size+its2.toArray.size<=yai:=by rw[sT_,sT_];omega
 have hlong:¬(!its.toArray.isEmpty&&yb7 (its.toArray.size+its2.toArray.size))=true:=by
  rw[qd0 hsz,Bool.and_false]
  exact yas
 refine ybM F.slot_list_extend ⟨_,e,rfl⟩ F.entry_list_extend (F.args_list_extend_2 _ _)
  (AutoSeq1.list_extend_list_list_0 l its.toArray n b its2.toArray n2 hlong (by rw[sT_];omega) (by omega)) ⟨e,e2,?_⟩
 refine⟨.non,_,I.lset (its':=its++its2) hH e (by simp) (r.append r2) ?_,rfl,q⟩
 rw[lA_]
 omega
def qpi:R2:=λx y H Q=>∃l b xs zs,x=.ref l/\y=.ref b/\H l=some (.lst xs)/\H b=some (.lst zs)/\xs.length+zs.length<=yai/\∀p,H p=none->Q (.ref p) (upd H p (.lst (xs++zs)))
theorem qmA:OpR X (ya8 .Add) qpi:=by
 intro pins s σ H x y v u Q I rx ry h
 obtain⟨l,b,xs,zs,rfl,rfl,hH,hB,hz,q⟩:=h
 cases rx
 cases ry
 obtain⟨z,its,n,r,hl,e⟩:=I.lstM hH
 obtain⟨z2,its2,n2,r2,hl2,e2⟩:=I.lstM hB
 refine PySem.P.add_list e e2 ?_ (by rw[sT_,sT_];omega)
 have ea:its.toArray++its2.toArray=(its++its2).toArray:=by simp
 rw[ea]
 exact⟨.ref _,_,I.lnew (t':=s.toks) (r.append r2) (by rw[lA_];omega),rfl,q _ I.fresh⟩
def qpj:R2:=λx y H Q=>∃l k xs,x=.ref l/\y=.int k/\H l=some (.lst xs) /\ -(2 ^ 63)<=k/\k<2 ^ 63/\xs.length*k.toNat<=yai /\
 ∀p,H p=none->Q (.ref p) (upd H p (.lst (yau k.toNat xs).flatten))
theorem qdj {α:Type} (xs:List α) (k:Nat):(yau k xs).flatten.length=k*xs.length:=by
 induction k with
 |zero=>simp
 |succ k ih=>rw[rS_,ybG,lA_,ih,ycQ,Nat.add_comm]
theorem qmB:OpR X (ya8 .Mult) qpj:=by
 intro pins s σ H x y v u Q I rx ry h
 obtain⟨l,k,xs,rfl,rfl,hH,h1,h2,hz,q⟩:=h
 cases rx
 obtain⟨t,rfl⟩:=ry
 obtain⟨z,its,n,r,hl,e⟩:=I.lstM hH
 have hlen:its.toArray.size*k.toNat<=yai:=by rw[sT_,<-hl];exact hz
 have hcap:¬its.toArray.size*k.toNat>(2 ^ 63-1)/8:=by
  have:(yai:Nat)<=(2 ^ 63-1)/8:=by decide
  omega
 have hfit:¬(!Builtin.List.listFitsIndex k)=true:=by
  rw[fitsIndex_both h1 h2]
  exact yas
 have hlong:¬yb7 (its.toArray.size*k.toNat)=true:=by
  rw[qd0 hlen]
  exact yas
 have hnew:yfl (λx1 x2=>x1++x2) #[] (yau (if its.toArray.isEmpty=true then 0 else k.toNat) its.toArray)=(yau k.toNat its).flatten.toArray:=by
  have f0:∀m:Nat,yfl (λx1 x2=>x1++x2) #[] (yau m its.toArray)=(yau m its).flatten.toArray:=λm=>by
   have:=qat its m []
   rw[ycf]at this
   exact this
  rw[f0]
  cases its with
  |nil=>simp
  |cons a r'=>rw[if_neg (by simp)]
 refine ybW (T:="list") (U:="int") (by decide) ⟨_,e,rfl⟩ (λs'=>yce s' k t) noFill_list_mul ydr ybD repeat_list F.slot_int_index.lookup
  (ybM ybD (yce s k t) ydd (ycW _ _) (int___rmul___int_list k t l its.toArray n)
   ⟨e,rfl,⟨_,e,rfl⟩,ybM F.slot_list_mul ⟨_,e,rfl⟩ F.entry_list_mul (F.args_list_mul_2 _ _) (AutoListH.list___mul___list_int_3 l its.toArray n k t hfit hcap hlong) ⟨e,?_⟩⟩)
 rw[hnew]
 exact⟨.ref _,_,I.lnew (t':=s.toks) (r.rep k.toNat) (by rw[qdj,yb8];exact hz),rfl,q _ I.fresh⟩
end
section
variable{prog:yan}{w:World}{A:yav}{E:Value->yab->Prop}{s:yab}
set_option maxRecDepth 100000 in
end
section
variable{X:Cx}
end
end L2
namespace Att
open PySem PySem.W PySem.Calls PyProof.Rows
theorem qav {P:Params} {h:Heap}:∀(ns:List Int)(vs:List Value),WellAll P h vs (ns.map WData.int)->yby vs ns:=by
 intro ns
 induction ns with
 |nil=>
  intro vs w
  rw[ycP]at w
  cases w
  exact .nil
 | cons n ns ih=>
  intro vs w
  rw[mC_]at w
  cases w with
  |cons a b=>
   cases a
   exact .cons _ _ (ih _ b)
theorem qgk {l:OpenLaw} {n:Nat} (hn:l.most=some n) {P:Params} {h:Heap} {args:List WData} {vals:List Value}
  (hpre:l.row.toRowW.claim.pre args=true) (hwl:WellAll P h vals args) :
  ∃a vs ns,vals=[yag a]/\args=[WData.list (ns.map WData.int)]/\h.get? a=some {cls:=.type "list",data:=.seq vs.toArray}/\yby vs ns/\ns.length<=n:=by
 have hsh:WShape.hasAll [] args [.list .int]=true:=(pre_splitW hpre).1
 have hc:l.pre.holds [] {args:=args}=true:=(pre_splitW hpre).2
 obtain⟨d,r,rfl,h1,h2⟩:=hasAllW_cons hsh
 obtain rfl:=hasAllW_nil h2
 obtain⟨xs,rfl,h3⟩:=hasW_list h1
 obtain⟨ns,rfl⟩:=items_int h3
 have hlen:ns.length<=n:=by
  unfold OpenLaw.pre at hc
  have h4:(WTm.not (.lt (.lit (.int (n:Int))) (.len (.arg 0)))).holds [] {args:=[.list (ns.map .int)]}=true:=by
   have h4:=(holds_andW hc).1
   rw[hn]at h4
   exact h4
  have h5:=condW_of h4 (w_not (w_lt w_lit (w_len_list (w_arg rfl))))
  rw[lM_]at h5
  refine yde λq=>?_
  have q':(n:Int)<((ns.length:Nat):Int):=by omega
  first
   |(rw[decide_eq_true q']at h5;exact absurd h5 (by decide))
   |(simp at h5;omega)
 cases hwl with
 |cons w1 w2=>
  cases w2
  cases w1 with
  |list ho hall=>exact⟨_,_,ns,rfl,rfl,ho,qav ns _ hall,hlen⟩
theorem qgl (l:OpenLaw) (args:List WData):l.row.toRowW.claim.post args (.bool true) args=true :=
 postW_of (r:=l.row.toRowW) (X:=(true==true))
  (show WShape.has [] (.bool true) .bool=true by first|rfl|decide|simp[WShape.has,WShape.arms,WShape.armsAll])
  (show(WTm.eq .res (.lit (.bool true))).value [] {args:=args,res:=some (.bool true),after:=args}=some (.bool (true==true))from w_eq_bool (w_res rfl) w_lit) rfl
theorem attach_call {l:OpenLaw} {n:Nat} {q:yan} {loose:List Str} {XP:(Str->Option Value)->Heap->Prop} {YP:World->Heap->Prop} {d:DefRec}
  (hn:l.most=some n) (hdf:d.params.defaults=[])
  (call:∀(w:World)(s₀ sK:yab)(mg mb:Str->Option Value)(fa:Addr)(o:Obj)(pm cd doc:Value)(a:Addr)(vs:List Value)(ns:List Int),
   Ground q loose [] XP w s₀ mg mb sK.heap->YP w sK.heap ->
   sK.heap.get? fa=some o->o.data=.func (docDef d.name d.params d.body d.scope pm cd doc)->sK.heap.CodeRec cd d.name->mg d.name=some (.ref fa) ->
   sK.heap.get? a=some {cls:=.type "list",data:=.seq vs.toArray}->yby vs ns->ns.length<=n->sK.gens = #[] ->
   ybR (model l.prog w) yeg (.call (.ref fa) ⟨[.ref a],[]⟩) (λr s'=>r=.ok (.ret (.bool true))/\OldK sK.heap s'.heap/\s'.os=sK.os/\ycx s'.gens) sK) :
  WalkO q loose XP YP l.row.toRowW d [] (λf vs=>ygl f vs):=by
 intro w s₀ sK mg mb G Y fa o pm cd doc dV kV ho hd hcd hD hmg hg args vals as hpre hlay hrd hwl hlo
 obtain rfl:dV=.none:=Dflts.none hD hdf
 obtain rfl:kV=.none:=Dflts.noKw hD
 obtain⟨a,vs,ns,rfl,rfl,hobj,hints,hlen⟩:=qgk hn hpre hwl
 refine enter_call (yel (call w s₀ sK mg mb fa o pm cd doc a vs ns G Y ho (fd_plain hd) hcd hmg hobj hints hlen hg) λr s' hq=>?_)
 obtain⟨rfl,h2,h3,h4⟩:=hq
 exact⟨.inl ⟨.bool true,.bool true,[],rfl,λ_=>rfl,.bool true,qgl l _,λ_=>⟨List.Pairwise.nil,λ_ hm=>(nomatch hm)⟩⟩,h2,h3,h4⟩
section
variable{prog:yan}{w:World}{A:yav}{E:Value->yab->Prop}{s:yab}{K:Frag}
end
end Att
namespace L2
open PySem PySem.Spec PyProof.Rows
theorem qcu:∀{vs:List Value}{ns:List Int},yby vs ns->zt (ns.map V.int) vs
 |_,_,.nil => .nil
 |_,_,.cons n t h => .cons ⟨t,rfl⟩ (qcu h)
def qnU(H:Hp):Prop:=∀b,H b=none\/(∃o xs,H b=some (.frz o (.lst xs)))\/∃pos q,H b=some (.lam pos q)
def qnV:Option (Addr×Addr×Pos×Str)->Hp
 |some (_,Pt,pos,q)=>λb=>if b=Pt then some (.lam pos q)else none
 |none=>λ_=>none
theorem qie {P:yan} {w:World} {K:yal} {mg mb:Str->Option Value} {CX:CXT} {k:Nat} {fa a:Addr} {fd:yaZ} {x:Str} {sp:Sp} {sK:yab} {vs:List Value} {ns:List Int} {lm:Option (Addr×Addr×Pos×Str)}
  (KX:K.In sK.heap) (hns:sK.heap.Ns yaf mg) (hb:sK.heap.Ns ycc mb) (hbb:∀x:Str,x≠"__name__"->mb x=yaA x) (hlim:sK.heap.NoLimit)
  (hbm:∃bm ob,mg "__builtins__"=some (.ref bm)/\bm≠ycc/\sK.heap.get? bm=some ob/\ob.cls=.type "module"/\ob.dict=some ycc/\ob.data=.plain)
  (hlm:∀c Pt pos q,lm=some (c,Pt,pos,q)->ye6 sK.heap c Pt/\sK.heap.get? Pt=some (ye7 #[])/\K.lookup Pt=none)
  (hg:sK.gens = #[])
  (ha:sK.heap.get? a=some {cls:=.type "list",data:=.seq vs.toArray}) (hi:yby vs ns) (hl:ns.length<=yai) (hr:uE k yeg)
  (F:∀base:Heap,K.In base->base.Ns yaf mg->qbd P w K mg base CX k fa fd [x] sp) (hbind:∀(s:yab)(u:Value),yef s fd ⟨[u],[]⟩ [(x,u)])
  (hsp:∀H:Hp,qnU H->(∀c Pt pos q,lm=some (c,Pt,pos,q)->H Pt=some (.lam pos q))->SqL K H a (ns.map V.int)->sp [.ref a] H (λv _=>v=.bl true) λ_ _ _=>False)
  (hCX:∀H e s',CX [] H sK (λ_ _ _=>False) e s'->False) :
  ybR (model P w) yeg (.call (.ref fa) ⟨[.ref a],[]⟩) (λr s'=>r=.ok (.ret (.bool true))/\OldK sK.heap s'.heap/\s'.os=sK.os/\ycx s'.gens) sK:=by
 have rv:=qcu hi
 have lenV:=hi.length
 have core:∀H:Hp,qnU H->(∀c Pt pos q,lm=some (c,Pt,pos,q)->H Pt=some (.lam pos q))->SqL K H a (ns.map V.int)->HOk P w H sK.heap ->
   (∀b u,H b=some u->K.lookup b=none/\((∃o xs,u=.frz o (.lst xs))\/∃c pos q,lm=some (c,b,pos,q)/\u=.lam pos q)) ->
   ybR (model P w) yeg (.call (.ref fa) ⟨[.ref a],[]⟩) (λr s'=>r=.ok (.ret (.bool true))/\OldK sK.heap s'.heap/\s'.os=sK.os/\ycx s'.gens) sK:=by
  intro H hO hT hS hok hA
  have base_of:∀{b:Addr}{o:Obj},sK.heap.get? b=some o->H b=none->(qh4 sK.heap H).get? b=some o:=λe n=>qh5 e n
  have noD:∀{b:Addr}{o:Obj},sK.heap.get? b=some o->(∀its n,o.data ≠ .seq its n)->(∀f,o.data ≠ .fields f)->H b=none:=λ{b o} e d1 d2=>by
   cases q:H b with
   |none=>rfl
   | some u=>
    rcases(hA b u q).2 with⟨ob,xs,rfl⟩|⟨c,pos,q',hl2,rfl⟩
    ·obtain⟨e1,_,its,n,_,e2⟩:=hok b _ q
     rw[e]at e2;cases e2
     exact(d1 _ _ rfl).elim
    ·have e2:=(hlm _ _ _ _ hl2).2.1
     rw[e]at e2;cases e2
     exact(d2 _ rfl).elim
  have nsK:∀{b:Addr}{m:Str->Option Value},sK.heap.Ns b m->(qh4 sK.heap H).Ns b m:=λ{b m} ⟨o,es,ep,e,d,r⟩=>⟨o,es,ep,base_of e (noD e (λ_ _ z=>by rw[d]at z;cases z) λ_ z=>by rw[d]at z;cases z),d,r⟩
  have hKb:K.In (qh4 sK.heap H):=λb o e=>base_of (KX b o e) (by
   cases q:H b with
   |none=>rfl
   |some u=>rw[(hA b u q).1]at e;cases e)
  have hM:Mod K mg (qh4 sK.heap H):=⟨hKb,nsK hns,⟨mb,nsK hb,hbb⟩,let ⟨mc,h1,h2⟩:=hlim;⟨mc,nsK h1,h2⟩,
   let ⟨bm,ob,b1,b2,b3,b4,b5,b6⟩:=hbm;⟨bm,ob,b1,b2,base_of b3 (noD b3 (λ_ _ z=>by rw[b6]at z;cases z) λ_ z=>by rw[b6]at z;cases z),b4,b5,b6⟩⟩
  have e0:qmr P w K mg (qh4 sK.heap H) yeg [] sK H:=⟨rfl,hM,λb o e=>qkd e,Nat.le_of_eq (qfW _ _),trivial,λb hb=>absurd (show b∈([]:List Addr)from hb) (by simp),hok,.of_eq hg⟩
  refine yel ((F _ hKb (nsK hns)).run yeg [] sK H ⟨[.ref a],[]⟩ [.ref a] [.ref a] _ _ hr e0 (hbind sK (.ref a)) (.cons rfl .nil) (hsp H hO hT hS)) λr s' h=>?_
  cases r with
  |error e=>exact(hCX H e s' h).elim
  | ok fl=>
   cases fl with
   |next=>exact ya9 h
   |brk=>exact ya9 h
   |cont=>exact ya9 h
   | ret u=>
    obtain⟨v,H',os,bare,un,hok',r',q⟩:=h
    have q':v=.bl true:=q
    subst q'
    obtain rfl:u=ybp true:=r'
    have asIt:∀b o,sK.heap.get? b=some o->asItWas sK.heap s'.heap b o:=λb o e=>by
     cases q:H b with
     |none=>exact .inl (un.keep b o e q (by intro z;exact absurd (show b∈([]:List Addr)from z) (by simp)) (by simp))
     | some u=>
      rcases(hA b u q).2 with⟨ob,xs,rfl⟩|⟨c,pos,q2,hl2,rfl⟩
      ·have z2:=un.frzs b ob _ q
       obtain⟨e1,_⟩:=hok b _ q
       obtain⟨e2,_⟩:=hok' b _ z2
       rw[e]at e1;cases e1
       exact .inl e2
      ·obtain⟨hc,e2,_⟩:=hlm _ _ _ _ hl2
       rw[e]at e2;cases e2
       rcases hok' b _ (un.tbls b pos q2 q)with z|⟨c',oc,vs',t,_,_,_,z⟩
       ·exact .inl z
       ·exact .inr (.inl ⟨(hc.tab e).isCodeTable,rfl,#[],_,rfl,by rw[Array.empty_append];exact z⟩)
    exact⟨rfl,⟨asIt,λb o e=>un.there b o e (by simp)⟩,os,bare⟩
 let T:Hp:=qnV lm
 have hTb:∀b u,T b=some u->∃c pos q,lm=some (c,b,pos,q)/\u=.lam pos q:=λb u z=>by
  cases hq:lm with
  |none=>simp only[T,hq,qnV]at z;cases z
  | some p=>
   obtain⟨c,Pt,pos,q⟩:=p
   simp only[T,hq,qnV]at z
   by_cases hbp:b=Pt
   ·rw[if_pos hbp]at z;cases z
    exact⟨c,pos,q,by rw[hbp],rfl⟩
   ·rw[if_neg hbp]at z;cases z
 have hTa:T a=none:=by
  cases q:T a with
  |none=>rfl
  |some u=>
   obtain⟨c,pos,q2,hl2,_⟩:=hTb a u q
   have:=(hlm _ _ _ _ hl2).2.1
   rw[ha]at this;cases this
 have hTt:∀c Pt pos q,lm=some (c,Pt,pos,q)->T Pt=some (.lam pos q):=λc Pt pos q e=>by
  simp only[T,e,qnV,if_true]
 cases hk:K.lookup a with
 | some o=>
  have e:=KX a o hk
  rw[ha]at e
  cases e
  refine core T (λb=>?_) hTt (.inr ⟨_,vs.toArray,_,hk,rfl,rfl,rfl,by rw[sT_,lenV];exact hl,by simpa using rv⟩) (λb u z=>?_) (λb u z=>?_)
  ·cases q:T b with
   |none=>exact .inl rfl
   |some u=>obtain⟨_,pos,q2,_,rfl⟩:=hTb b u q;exact .inr (.inr ⟨pos,q2,rfl⟩)
  ·obtain⟨c,pos,q2,hl2,rfl⟩:=hTb b u z
   exact .inl (hlm _ _ _ _ hl2).2.1
  ·obtain⟨c,pos,q2,hl2,rfl⟩:=hTb b u z
   exact⟨(hlm _ _ _ _ hl2).2.2,.inr ⟨c,pos,q2,hl2,rfl⟩⟩
 | none=>
  refine core (upd T a (.frz {cls:=.type "list",data:=.seq vs.toArray} (.lst (ns.map V.int)))) (λb=>?_) (λc Pt pos q e=>?_) (.inl (.inr ⟨{cls:=.type "list",data:=.seq vs.toArray},qu⟩)) (λb u z=>?_) (λb u z=>?_)
  ·by_cases hb:b=a
   ·subst hb;exact .inr (.inl ⟨_,_,qu⟩)
   ·rw[qv hb]
    cases q:T b with
    |none=>exact .inl rfl
    |some u=>obtain⟨_,pos,q2,_,rfl⟩:=hTb b u q;exact .inr (.inr ⟨pos,q2,rfl⟩)
  ·have h1:=hTt c Pt pos q e
   rw[qv (qA h1 hTa)]
   exact h1
  ·by_cases hb:b=a
   ·subst hb
    rw[qu]at z;cases z
    exact⟨ha,by rw[lM_];exact hl,vs,_,rv,ha⟩
   ·rw[qv hb]at z
    obtain⟨c,pos,q2,hl2,rfl⟩:=hTb b u z
    exact .inl (hlm _ _ _ _ hl2).2.1
  ·by_cases hb:b=a
   ·subst hb
    rw[qu]at z;cases z
    exact⟨hk,.inl ⟨_,_,rfl⟩⟩
   ·rw[qv hb]at z
    obtain⟨c,pos,q2,hl2,rfl⟩:=hTb b u z
    exact⟨(hlm _ _ _ _ hl2).2.2,.inr ⟨c,pos,q2,hl2,rfl⟩⟩
end L2
namespace L2
open PySem PySem.Spec PyProof.Rows
end L2
/- THE LAST THEOREM (shape;LID,My.* are yours):
   My.Adr: a structure of the addresses that your layer names (classes,functions);My.Txt K t: a structure (Prop) of the equations over K;
   My.txt_mk:{K} {implicit addresses ..} (e1:nsIn K yaf "law"=some (some (.ref f))) (e2:K.lookup f=some ⟨oc,od,.func (fnOf "law" "law" params body scope dV kV doc pm an cdv ct),sl⟩) (e3:codeIn K cdv "law"=true) .. : ∃t,My.Txt K t
set_option maxRecDepth 100000 in
set_option maxHeartbeats 0 in
theorem PySem.Challenge.cw_LID_holds : PySem.Challenge.rw_LID.Holds := by
 w_on;o_law;k_head;(case hw=>w_witness2)
 k_fill
 refine L2.walk_of (l:=PySem.Challenge.rw_LID) (n:=63) (k:=40) (x:="script") (CX:=λw => ..) (sp:=λ_=>My.sp_law) rfl (by decide) rfl ⟨rfl,by decide,by decide⟩ (λw h Y=>PySem.W.kIn_of Y) ?F ?S ?C
 case F=>
  intro w mg fa h KX G hmg
  have T:∃t,My.Txt (L2.KOf KX) t:=by
   dsimp only[L2.KOf]                          -- K must stand as «<heap const> w.params» for k_is
   refine' My.txt_mk ?e1 ?e2 ?e3 ..
   (case e1=>PySem.W.k_is)                    -- in the order: a name->its address->its object->its parts
   (case e2=>PySem.W.k_is)
   ..
  obtain⟨t,T⟩:=T
  have e0:=hmg.symm.trans (yaq KX G T.law)
  cases e0                                       -- fa is the law's own address
  exact⟨_,λs u => .of_eq rfl,λbase kb nb=>My.law_fn T kb nb⟩     -- if «.of_eq rfl» comes too early: refine' ⟨_,?b,λbase kb nb=>My.law_fn T kb nb⟩;exact λs u => .of_eq rfl
 case S=>exact λw H a ns hl hO hS => ..
 case C=>exact ..
(the tactic k_is has no namespace: write k_is) -/
namespace L2
open PySem PySem.Spec PyProof.Rows
def qI (s:Stmt):yfM:=match s with
 |.FunctionDef _ a _ _ _ _ _ _ _ _=>a
 |_=>{posonlyargs:=[],args:=[],vararg:=none,kwonlyargs:=[],kw_defaults:=[],kwarg:=none,defaults:=[]}
def qC (s:Stmt):List Stmt:=match s with
 |.FunctionDef _ _ b _ _ _ _ _ _ _=>b
 |_=>[]
def qd (s:Stmt):Scope:=match s with
 |.FunctionDef _ _ _ _ _ _ sc _ _ _=>sc
 |_=>{kind:=.function,names:=[],isGenerator:=false,isCoroutine:=false}
abbrev CX0:CXT:=λ_ _ _ _ _ _=>False
abbrev E0:XK:=λ_ _ _=>False
theorem qkx{X:Cx}:qbn CX0 X E0:=λ_ _ _ _ _ _ _ h=>h.elim
structure Fun (K:yal) (x qual:Str) (st:Stmt) (f:Addr) (fd:yaZ):Prop where
 ex:∃(oc:Value)(od:Option Addr)(kV doc pm:Value)(an:Option Addr)(cdv ct:Value)(osl:Array (Option Value)),
  fd=yat x qual (qI st) (qC st) (qd st) .none kV doc pm an cdv ct/\K.lookup f=some ⟨oc,od,.func fd,osl⟩/\yar K cdv qual=true
 kp:yak K (.ref f)=true
section
variable{P:yan}{w:World}{K:yal}{mg:Str->Option Value}{base:Heap}
theorem Fun.ok {x qual:Str} {st:Stmt} {f:Addr} {fd:yaZ} {N ps:List Str} {k:Nat} {sp:Sp} (F:Fun K x qual st f fd) (S:qH N ps (qd st)) (len:∀vs H Q E,sp vs H Q E->vs.length=ps.length)
  (hbody:∀(cdv:Value)(A:yav)(outer:List Env)(s:yab)(H:Hp)(vs:List V)(Q:VK)(E:XK),uE k (A.deeper (yc2 qual (qd st) s.heap.objs.size f cdv))->sp vs H Q E ->
   ∃t,PSs (qju CX0 P w K mg base N qual (qd st) f cdv A outer s H E).nox (qC st) t/\t {nx:=λ_ H'=>Q .non H',rt:=Q} (start N vs) H):qbd P w K mg base CX0 (k+1) f fd ps sp:=by
 obtain⟨oc,od,kV,doc,pm,an,cdv,ct,osl,rfl,lk,hcd⟩:=F.ex
 refine qom lk hcd S len λA outer s H vs Q E hr hsp=>?_
 obtain⟨t,h,q⟩:=hbody cdv A outer s H vs Q E hr hsp
 exact⟨t,h.nox,q⟩
theorem Fun.binds {x qual:Str} {st:Stmt} {f:Addr} {fd:yaZ} {ps:List Str} (F:Fun K x qual st f fd)
  (h:∀(kV doc pm:Value)(an:Option Addr)(cdv ct:Value)(us:List Value),us.length=ps.length->bindArgs (yat x qual (qI st) (qC st) (qd st) .none kV doc pm an cdv ct) ⟨us,[]⟩=pure (ps.zip us)):vI K fd ps []:=by
 obtain⟨oc,od,kV,doc,pm,an,cdv,ct,osl,rfl,lk,hcd⟩:=F.ex
 exact .all (h kV doc pm an cdv ct)
theorem zo {x qual:Str} {st:Stmt} {f:Addr} {oc:Value} {od an:Option Addr} {osl:Array (Option Value)} {kV doc pm cdv ct:Value} (l:K.lookup f=some ⟨oc,od,.func (yat x qual (qI st) (qC st) (qd st) .none kV doc pm an cdv ct),osl⟩)
  (c:yar K cdv qual=true) (k:yak K (.ref f)=true):Fun K x qual st f (yat x qual (qI st) (qC st) (qd st) .none kV doc pm an cdv ct):=⟨⟨oc,od,kV,doc,pm,an,cdv,ct,osl,rfl,l,c⟩,k⟩
end
theorem qif{A:yav}{k:Nat}(hr:uE k A):A.units+1<cLine:=ybN (Nat.add_le_add_left (by decide:1<=64) _) hr.units
section
variable{X:Cx}
theorem pv (i:Nat) {x:Str} {pos:Pos} (hN:X.N[i]? = some x:=by rfl) (hv:Vis X.env.scope x:=by first|exact ya7 rfl|exact yaN (ya7 rfl)|exact yaN (yaN rfl)) (hd:(x==("__debug__":Str))=false:=by decide)
  (hcd:(x==("__classdict__":Str))=false:=by decide):PE X (.Name x pos) (uM i):=wW hN hv hd hcd
end
theorem qlV {A B:Prop} (h:B):if false=true then A else B:=by
 rw[if_neg yas]
 exact h
theorem qlW {A B:Prop} (h:A):if true=true then A else B:=by
 rw[if_pos rfl]
 exact h
def jE(H H':Hp):Prop:=∀b o,H b=some o->H' b=some o
theorem jE.refl(H:Hp):jE H H:=λ_ _ h=>h
theorem jE.trans{H H1 H2:Hp}(a:jE H H1)(b:jE H1 H2):jE H H2:=λc o h=>b c o (a c o h)
theorem jE.free {H H':Hp} (e:jE H H') {l:Addr} (h:H' l=Option.none):H l=Option.none:=by
 cases q:H l with
 |none=>rfl
 |some o=>
  rw[e l o q]at h
  cases h
end L2
namespace L2.Sk
open PySem PySem.Spec PyProof.Rows
inductive D where
 |non|bl (b:Bool)|int (i:Int)|str (x:Str)|tup (xs:List D)|lst (xs:List D)|dic (kvs:List (Key×Int))|fz (ns:List Int)
 |exc (n:Str)
abbrev Fr0:=yal
def qmC:FuncBody->Option Pos
 |.stmts [_,_,.Return (some (.Call _ _ [⟨_,.Lambda _ _ _ pos,_⟩] _)) _]=>some pos
 |_=>none
def lamOf (K:Fr0):Option (Addr×Addr×Pos):=match PySem.W.tabIn K "dearest_first",yaj K yaf "dearest_first" with
 |some (c,P),some (some (.ref f))=>(match K.lookup f with
  |some ⟨_,_,.func fd,_⟩=>(qmC fd.body).map λpos=>(c,P,pos)
  |_=>none)
 |_,_=>none
abbrev qor:Str:="dearest_first.<locals>.<lambda>"
def qpk(K:Fr0)(H:Hp)(Io:Addr->Prop):Prop:=∀c P pos,lamOf K=some (c,P,pos)->H P=some (.lam pos qor)/\¬Io P
abbrev qgm(K:Fr0)(H:Hp):Prop:=qpk K H λ_=>False
structure XK6 (K:Fr0) (D:Addr):Prop where
 ga:ybJ K (.ref D) "__getattribute__"=some (some (.builtin "BaseException.__getattribute__"))
 gt:ybJ K (.ref D) "__getattr__"=some none
 cl:ybJ K (.ref D) "__class__"=some (some (.builtin "object.__class__"))
 ob:PySem.W.mroIn K D (.type "object")=some true
 be:PySem.W.subIn K (.ref D) (.type "BaseException")=some true
 is:(PySem.W.clsIn K D).isSome=true
 no:∀T∈["int","bool","str","tuple","list","dict"],ye5 K (.ref D) (.type T)=some false
def qaw (K:Fr0) (n:Str):Option Addr:=match yaj K yaf n with
 |some (some (.ref C))=>some C
 |_=>none
def clR(K:Fr0)(RN:List Str)(n:Str):Option Addr:=if RN.contains n then qaw K n else none
def qpX(K:Fr0)(H:Hp)(a:Addr)(n:Str):Prop:=∃C,qaw K n=some C/\XK6 K C/\∃o vs,H a=some (.frz o (.own a))/\o.cls=.ref C/\o.data=.fields vs
def qab (K:Fr0) (H:Hp) (a:Addr) (xs:List V):Prop :=
 H a=some (.tup xs)\/∃(o:Obj)(its:Array Value)(n:Nat),K.lookup a=some o/\o.cls=.type "tuple"/\o.data=.seq its n/\its.size<=yai/\zt xs its.toList
def qmD (K:Fr0) (H:Hp) (a:Addr) (xs:List V):Prop :=
 (∃o,H a=some (.frz o (.lst xs)))\/∃(o:Obj)(its:Array Value)(n:Nat),K.lookup a=some o/\o.cls=.type "list"/\o.dict=none/\o.data=.seq its n/\its.size<=yai/\zt xs its.toList
theorem qab.sq {K:Fr0} {H:Hp} {a:Addr} {xs:List V} (h:qab K H a xs):SqT K H a xs:=by
 rcases h with h|h
 ·exact .inl (.inl h)
 ·exact .inr h
theorem qmD.sq {K:Fr0} {H:Hp} {a:Addr} {xs:List V} (h:qmD K H a xs):SqL K H a xs:=by
 rcases h with h|h
 ·exact .inl (.inr h)
 ·exact .inr h
mutual
def Is (K:Fr0) (A:Addr->Prop) (H:Hp):D->V->Prop
 |.non,v=>v=.non
 |.bl b,v=>v=.bl b
 |.int i,v=>v=.int i
 |.str x,v=>v=.str x
 |.tup ds,v=>∃a xs,v=.ref a/\qab K H a xs/\IsL K A H ds xs
 |.lst ds,v=>∃a xs,v=.ref a/\A a/\H a=some (.lst xs)/\IsL K A H ds xs
 |.dic kvs,v=>∃a,v=.ref a/\A a/\H a=some (.dK (kvs.map λp=>(p.1,V.int p.2)))
 |.fz ns,v=>∃a,v=.ref a/\qmD K H a (ns.map V.int)
 |.exc n,v=>∃a,v=.ref a/\qpX K H a n
def IsL (K:Fr0) (A:Addr->Prop) (H:Hp):List D->List V->Prop
 | [],xs=>xs=[]
 |d::ds,xs=>∃x ys,xs=x::ys/\Is K A H d x/\IsL K A H ds ys
end
mutual
def imm:D->Bool
 |.tup ds=>immL ds
 |.lst _=>false
 |.dic _=>false
 |.fz _=>false
 |_=>true
def immL:List D->Bool
 | []=>true
 |d::ds=>imm d&&immL ds
end
structure Ext (A:Addr->Prop) (H H':Hp):Prop where
 tup:∀b xs,H b=some (.tup xs)->H' b=some (.tup xs)
 frz:∀b o u,H b=some (.frz o u)->H' b=some (.frz o u)
 at_:∀b o,A b->H b=some o->H' b=some o
theorem Ext.refl{A:Addr->Prop}{H:Hp}:Ext A H H:=⟨λ_ _ h=>h,λ_ _ _ h=>h,λ_ _ _ h=>h⟩
theorem Ext.of_same{A:Addr->Prop}{H H':Hp}(s:jE H H'):Ext A H H':=⟨λb xs h=>s b _ h,λb o u h=>s b _ h,λb o _ h=>s b o h⟩
mutual
theorem Is.ext {K:Fr0} {A B:Addr->Prop} {H H':Hp} (e:Ext A H H') (hAB:∀a,A a->(H a).isSome=true->B a):∀{d:D}{v:V},Is K A H d v->Is K B H' d v
 |.non,_,h=>h
 |.bl _,_,h=>h
 |.int _,_,h=>h
 |.str _,_,h=>h
 |.tup ds,_,⟨a,xs,hv,h,r⟩=>⟨a,xs,hv,h.elim (λh => .inl (e.tup _ _ h)) .inr,IsL.ext e hAB r⟩
 |.lst ds,_,⟨a,xs,hv,hA,h,r⟩=>⟨a,xs,hv,hAB a hA (by rw[h];rfl),e.at_ _ _ hA h,IsL.ext e hAB r⟩
 |.dic kvs,_,⟨a,hv,hA,h⟩=>⟨a,hv,hAB a hA (by rw[h];rfl),e.at_ _ _ hA h⟩
 |.fz ns,_,⟨a,hv,h⟩=>⟨a,hv,h.elim (λ⟨o,h⟩ => .inl ⟨o,e.frz _ _ _ h⟩) .inr⟩
 |.exc n,_,⟨a,hv,C,hc,hk,o,vs,h,r⟩=>⟨a,hv,C,hc,hk,o,vs,e.frz _ _ _ h,r⟩
theorem IsL.ext {K:Fr0} {A B:Addr->Prop} {H H':Hp} (e:Ext A H H') (hAB:∀a,A a->(H a).isSome=true->B a):∀{ds:List D}{xs:List V},IsL K A H ds xs->IsL K B H' ds xs
 | [],_,h=>h
 |_::_,_,⟨x,ys,hx,h,r⟩=>⟨x,ys,hx,Is.ext e hAB h,IsL.ext e hAB r⟩
end
mutual
theorem Is.imm {K:Fr0} {A B:Addr->Prop} {H:Hp}:∀{d:D}{v:V},imm d=true->Is K A H d v->Is K B H d v
 |.non,_,_,h=>h
 |.bl _,_,_,h=>h
 |.int _,_,_,h=>h
 |.str _,_,_,h=>h
 |.tup ds,_,i,⟨a,xs,hv,h,r⟩=>⟨a,xs,hv,h,IsL.imm (by simpa [Sk.imm] using i) r⟩
 |.lst _,_,i,_=>by simp[Sk.imm]at i
 |.dic _,_,i,_=>by simp[Sk.imm]at i
 |.fz _,_,i,_=>by simp[Sk.imm]at i
 |.exc _,_,_,h=>h
theorem IsL.imm {K:Fr0} {A B:Addr->Prop} {H:Hp}:∀{ds:List D}{xs:List V},immL ds=true->IsL K A H ds xs->IsL K B H ds xs
 | [],_,_,h=>h
 |d::ds,_,i,⟨x,ys,hx,h,r⟩=>by
  have i':Sk.imm d=true/\immL ds=true:=by simpa [immL] using i
  exact⟨x,ys,hx,Is.imm i'.1 h,IsL.imm i'.2 r⟩
end
theorem IsL.length {K:Fr0} {A:Addr->Prop} {H:Hp}:∀{ds:List D}{xs:List V},IsL K A H ds xs->xs.length=ds.length
 | [],_,h=>by rw[h];rfl
 |_::_,_,⟨x,ys,hx,_,r⟩=>by rw[hx,lC_,lC_,IsL.length r]
theorem IsL.get {K:Fr0} {A:Addr->Prop} {H:Hp}:∀{ds:List D}{xs:List V}{i:Nat}{d:D},IsL K A H ds xs->ds[i]? = some d->∃x,xs[i]? = some x/\Is K A H d x
 | [],_,_,_,_,h=>by simp at h
 |e::_,_,0,d,⟨x,ys,hx,h,r⟩,hd=>by
  have e1:e=d:=by simpa using hd
  subst e1
  exact⟨x,by rw[hx];rfl,h⟩
 |_::ds,_,i+1,d,⟨x,ys,hx,h,r⟩,hd=>by
  obtain⟨y,h1,h2⟩:=IsL.get (i:=i) (d:=d) r (by simpa using hd)
  exact⟨y,by rw[hx];simpa using h1,h2⟩
theorem IsL.append {K:Fr0} {A:Addr->Prop} {H:Hp}:∀{ds es:List D}{xs ys:List V},IsL K A H ds xs->IsL K A H es ys->IsL K A H (ds++es) (xs++ys)
 | [],_,_,_,h,g=>by rw[h];exact g
 |_::_,_,_,_,⟨x,zs,hx,h,r⟩,g=>⟨x,zs++_,by rw[hx];rfl,h,IsL.append r g⟩
theorem IsL.take {K:Fr0} {A:Addr->Prop} {H:Hp}:∀{ds:List D}{xs:List V}(n:Nat),IsL K A H ds xs->IsL K A H (ds.take n) (xs.take n)
 |_,_,0,_=>by simp[IsL]
 | [],_,_+1,h=>by rw[h];simp[IsL]
 |_::_,_,n+1,⟨x,ys,hx,h,r⟩=>by rw[hx];exact⟨x,ys.take n,rfl,h,IsL.take n r⟩
theorem IsL.drop {K:Fr0} {A:Addr->Prop} {H:Hp}:∀{ds:List D}{xs:List V}(n:Nat),IsL K A H ds xs->IsL K A H (ds.drop n) (xs.drop n)
 |_,_,0,h=>h
 | [],_,_+1,h=>by rw[h];simp[IsL]
 |_::_,_,n+1,⟨x,ys,hx,h,r⟩=>by rw[hx];exact IsL.drop n r
theorem IsL.one{K:Fr0}{A:Addr->Prop}{H:Hp}{d:D}{v:V}(h:Is K A H d v):IsL K A H [d] [v]:=⟨v,[],rfl,h,rfl⟩
theorem IsL.set {K:Fr0} {A:Addr->Prop} {H:Hp} {d:D} {v:V} (hd:Is K A H d v):∀{ds:List D}{xs:List V}(n:Nat),IsL K A H ds xs->IsL K A H (ds.set n d) (xs.set n v)
 | [],_,_,h=>by rw[h];simp[IsL]
 |_::_,_,0,⟨x,ys,hx,h,r⟩=>by rw[hx];exact⟨v,ys,rfl,hd,r⟩
 |_::_,_,n+1,⟨x,ys,hx,h,r⟩=>by rw[hx];exact⟨x,ys.set n v,rfl,h,IsL.set hd n r⟩
abbrev Env:=List (Option D)
structure Exn where
 cls:Str
 val:D
inductive R (α:Type) where
 |ok (a:α)|exc (x:Exn) (ρ:Env)|bad
structure Fc where
 O:List Nat
 P:List Nat
 B:Addr->Prop
 H0:Hp
 Io:Addr->Prop
 E:Exn->Hp->Prop
 S:Nat->Option (Option V)
def Cl(O:List Nat)(σ:St)(a:Addr):Prop:=∀j∈O,σ[j]? ≠ some (some (.ref a))
def Cn(c:Fc)(σ:St)(a:Addr):Prop:=c.B a/\Cl c.O σ a
structure Rep (K:Fr0) (c:Fc) (ρ:Env) (σ:St) (H:Hp):Prop where
 len:ρ.length=σ.length
 val:∀i d,ρ[i]? = some (some d)->∃v,σ[i]? = some (some v) /\
  ((i∈c.O/\∃ds a xs,d=.lst ds/\v=.ref a/\H a=some (.lst xs)/\IsL K (Cn c σ) H ds xs)\/(i ∉ c.O/\Is K (Cn c σ) H d v))
 own:∀j∈c.O,∀v,σ[j]? = some (some v)->∃a xs,v=.ref a/\H a=some (.lst xs)/\(c.H0 a=none\/(j∈c.P/\c.Io a))
 inj:∀i j a,i∈c.O->j∈c.O->σ[i]? = some (some (.ref a))->σ[j]? = some (some (.ref a))->i=j
 b0:(∀a,c.H0 a=none->c.B a)/\qpk K c.H0 c.Io
 kp:∀b o,c.H0 b=some o->¬c.Io b->H b=some o
 dm:∀b,H b=none->c.H0 b=none
 pO:∀j∈c.P,j∈c.O
 ps:∀j∈c.P,σ[j]? = c.S j
theorem Rep.tb{K:Fr0}{c:Fc}{ρ:Env}{σ:St}{H:Hp}(r:Rep K c ρ σ H):qgm K H:=λq P pos e=>⟨r.kp P _ (r.b0.2 q P pos e).1 (r.b0.2 q P pos e).2,λz=>z⟩
structure Gr (O:List Nat) (σ:St) (H H':Hp):Prop where
 ext:Ext (Cl O σ) H H'
 dom:∀b,H' b=none->H b=none
theorem Gr.refl{O:List Nat}{σ:St}{H:Hp}:Gr O σ H H:=⟨Ext.refl,λ_ h=>h⟩
theorem Gr.of_same{O:List Nat}{σ:St}{H H':Hp}(s:jE H H'):Gr O σ H H':=⟨Ext.of_same s,λ_ h=>s.free h⟩
theorem Gr.trans {O:List Nat} {σ:St} {H H1 H2:Hp} (a:Gr O σ H H1) (b:Gr O σ H1 H2):Gr O σ H H2 :=
 ⟨⟨λc xs h=>b.ext.tup c xs (a.ext.tup c xs h),λc o u h=>b.ext.frz c o u (a.ext.frz c o u h),λc o hc h=>b.ext.at_ c o hc (a.ext.at_ c o hc h)⟩,λc h=>a.dom c (b.dom c h)⟩
theorem Gr.cn{c:Fc}{σ:St}{H H':Hp}(g:Gr c.O σ H H'):Ext (Cn c σ) H H':=⟨g.ext.tup,g.ext.frz,λb o hb h=>g.ext.at_ b o hb.2 h⟩
theorem Gr.is{K:Fr0}{c:Fc}{σ:St}{H H':Hp}{d:D}{v:V}(g:Gr c.O σ H H')(h:Is K (Cn c σ) H d v):Is K (Cn c σ) H' d v:=Is.ext g.cn (λ_ h _=>h) h
theorem Gr.isL{K:Fr0}{c:Fc}{σ:St}{H H':Hp}{d:List D}{v:List V}(g:Gr c.O σ H H')(h:IsL K (Cn c σ) H d v):IsL K (Cn c σ) H' d v:=IsL.ext g.cn (λ_ h _=>h) h
theorem Rep.new {K:Fr0} {c:Fc} {ρ:Env} {σ:St} {H:Hp} (r:Rep K c ρ σ H) {a:Addr} (h:H a=none):Cn c σ a :=
 ⟨r.b0.1 a (r.dm a h),λj hj e=>by obtain⟨b,xs,e1,e2,_⟩:=r.own j hj _ e;cases e1;rw[h]at e2;cases e2⟩
theorem Rep.same {K:Fr0} {c:Fc} {ρ:Env} {σ:St} {H H':Hp} (r:Rep K c ρ σ H) (s:jE H H'):Rep K c ρ σ H' where
 len:=r.len
 val:=λi d h=>by
  obtain⟨v,h1,h2⟩:=r.val i d h
  refine⟨v,h1,?_⟩
  rcases h2 with⟨hi,ds,a,xs,h3,h5,h6,h7⟩|⟨hi,h3⟩
  ·exact .inl ⟨hi,ds,a,xs,h3,h5,s _ _ h6,IsL.ext (Ext.of_same s) (λ_ h _=>h) h7⟩
  ·exact .inr ⟨hi,Is.ext (Ext.of_same s) (λ_ h _=>h) h3⟩
 own:=λj hj v h=>by
  obtain⟨a,xs,h1,h2,h3⟩:=r.own j hj v h
  exact⟨a,xs,h1,s _ _ h2,h3⟩
 inj:=r.inj
 b0:=r.b0
 kp:=λb o h1 h2=>s _ _ (r.kp b o h1 h2)
 dm:=λb h=>r.dm b (s.free h)
 pO:=r.pO
 ps:=r.ps
theorem Rep.get {K:Fr0} {c:Fc} {ρ:Env} {σ:St} {H:Hp} (r:Rep K c ρ σ H) {i:Nat} {d:D} (hi:i ∉ c.O) (h:ρ[i]? = some (some d)):∃v,σ[i]? = some (some v)/\Is K (Cn c σ) H d v:=by
 obtain⟨v,h1,h2⟩:=r.val i d h
 rcases h2 with⟨h3,_⟩|⟨_,h3⟩
 ·exact absurd h3 hi
 ·exact⟨v,h1,h3⟩
theorem Rep.getO {K:Fr0} {c:Fc} {ρ:Env} {σ:St} {H:Hp} (r:Rep K c ρ σ H) {i:Nat} {d:D} (hi:i∈c.O) (h:ρ[i]? = some (some d)) :
  ∃ds a xs,d=.lst ds/\σ[i]? = some (some (.ref a))/\H a=some (.lst xs)/\IsL K (Cn c σ) H ds xs:=by
 obtain⟨v,h1,h2⟩:=r.val i d h
 rcases h2 with⟨_,ds,a,xs,h3,h5,h6,h7⟩|⟨h3,_⟩
 ·subst h5;exact⟨ds,a,xs,h3,h1,h6,h7⟩
 ·exact absurd hi h3
abbrev M(α:Type):=Env->R (α×Env)
def Wp (K:Fr0) (c:Fc) (σ:St) (H:Hp) (Q:VK):R (D×Env)->Prop
 |.ok (d,ρ)=>∀v H',Rep K c ρ σ H'->Is K (Cn c σ) H' d v->Gr c.O σ H H'->Q v H'
 |.exc x ρ=>∀H',Rep K c ρ σ H'->Gr c.O σ H H'->c.E x H'
 |.bad=>False
def WpB (K:Fr0) (c:Fc) (σ:St) (H:Hp) (Q:Bool->Hp->Prop):R (Bool×Env)->Prop
 |.ok (b,ρ)=>∀H',Rep K c ρ σ H'->Gr c.O σ H H'->Q b H'
 |.exc x ρ=>∀H',Rep K c ρ σ H'->Gr c.O σ H H'->c.E x H'
 |.bad=>False
def WpL (K:Fr0) (c:Fc) (σ:St) (H:Hp) (Q:List V->Hp->Prop):R (List D×Env)->Prop
 |.ok (ds,ρ)=>∀vs H',Rep K c ρ σ H'->IsL K (Cn c σ) H' ds vs->Gr c.O σ H H'->Q vs H'
 |.exc x ρ=>∀H',Rep K c ρ σ H'->Gr c.O σ H H'->c.E x H'
 |.bad=>False
def DE(X:Cx)(c:Fc)(e:Expr)(f:M D):Prop:=∃t,PE X e t/\∀ρ σ H Q,Rep X.K c ρ σ H->Wp X.K c σ H Q (f ρ)->t σ H Q
def DT(X:Cx)(c:Fc)(e:Expr)(f:M Bool):Prop:=∃t,PT X e t/\∀ρ σ H Q,Rep X.K c ρ σ H->WpB X.K c σ H Q (f ρ)->t σ H Q
def DA(X:Cx)(c:Fc)(es:List Expr)(f:M (List D)):Prop:=∃t,PA X es t/\∀ρ σ H Q,Rep X.K c ρ σ H->WpL X.K c σ H Q (f ρ)->t σ H Q
def ret{α:Type}(a:α):M α:=λρ => .ok (a,ρ)
def bnd {α β:Type} (f:M α) (k:α->M β):M β:=λρ=>match f ρ with
 |.ok (a,ρ')=>k a ρ'
 |.exc x ρ' => .exc x ρ'
 |.bad => .bad
def lift {α:Type}:Option α->M α
 |some a=>ret a
 |none=>λ_ => .bad
theorem qgn{α β:Type}{f:M α}{k:α->M β}{ρ ρ':Env}{a:α}(h:f ρ=.ok (a,ρ')):bnd f k ρ=k a ρ':=by unfold bnd;rw[h]
section
variable{K:Fr0}{c:Fc}{σ:St}{H H1:Hp}{Q:VK}{QB:Bool->Hp->Prop}{QL:List V->Hp->Prop}{r:R (D×Env)}
theorem Wp.gr:∀{r:R (D×Env)},Wp K c σ H Q r->Gr c.O σ H H1->Wp K c σ H1 Q r
 |.ok (d,ρ),h,g=>λv H' hr hi hg=>h v H' hr hi (g.trans hg)
 |.exc x ρ,h,g=>λH' hr hg=>h H' hr (g.trans hg)
 |.bad,h,_=>h
theorem WpB.gr:∀{r:R (Bool×Env)},WpB K c σ H QB r->Gr c.O σ H H1->WpB K c σ H1 QB r
 |.ok (d,ρ),h,g=>λH' hr hg=>h H' hr (g.trans hg)
 |.exc x ρ,h,g=>λH' hr hg=>h H' hr (g.trans hg)
 |.bad,h,_=>h
theorem WpL.gr:∀{r:R (List D×Env)},WpL K c σ H QL r->Gr c.O σ H H1->WpL K c σ H1 QL r
 |.ok (d,ρ),h,g=>λv H' hr hi hg=>h v H' hr hi (g.trans hg)
 |.exc x ρ,h,g=>λH' hr hg=>h H' hr (g.trans hg)
 |.bad,h,_=>h
theorem Wp.bnd {f:M D} {k:D->M D} {ρ:Env} {Q':VK} (h:Wp K c σ H Q (bnd f k ρ)) (hQ:∀d ρ' v H',Rep K c ρ' σ H'->Is K (Cn c σ) H' d v->Gr c.O σ H H'->Wp K c σ H' Q (k d ρ')->Q' v H'):Wp K c σ H Q' (f ρ):=by
 unfold Sk.bnd at h
 cases e:f ρ with
 |ok p=>rw[e]at h;exact λv H' hr hi hg=>hQ p.1 p.2 v H' hr hi hg (h.gr hg)
 |exc x ρ'=>rw[e]at h;exact h
 |bad=>rw[e]at h;exact h
theorem Wp.bndB {f:M D} {k:D->M Bool} {ρ:Env} {Q':VK} (h:WpB K c σ H QB (Sk.bnd f k ρ)) (hQ:∀d ρ' v H',Rep K c ρ' σ H'->Is K (Cn c σ) H' d v->Gr c.O σ H H'->WpB K c σ H' QB (k d ρ')->Q' v H'):Wp K c σ H Q' (f ρ):=by
 unfold Sk.bnd at h
 cases e:f ρ with
 |ok p=>rw[e]at h;exact λv H' hr hi hg=>hQ p.1 p.2 v H' hr hi hg (h.gr hg)
 |exc x ρ'=>rw[e]at h;exact h
 |bad=>rw[e]at h;exact h
theorem Wp.bndL {f:M D} {k:D->M (List D)} {ρ:Env} {Q':VK} (h:WpL K c σ H QL (Sk.bnd f k ρ)) (hQ:∀d ρ' v H',Rep K c ρ' σ H'->Is K (Cn c σ) H' d v->Gr c.O σ H H'->WpL K c σ H' QL (k d ρ')->Q' v H'):Wp K c σ H Q' (f ρ):=by
 unfold Sk.bnd at h
 cases e:f ρ with
 |ok p=>rw[e]at h;exact λv H' hr hi hg=>hQ p.1 p.2 v H' hr hi hg (h.gr hg)
 |exc x ρ'=>rw[e]at h;exact h
 |bad=>rw[e]at h;exact h
theorem WpB.bnd {f:M Bool} {k:Bool->M D} {ρ:Env} {Q':Bool->Hp->Prop} (h:Wp K c σ H Q (Sk.bnd f k ρ)) (hQ:∀d ρ' H',Rep K c ρ' σ H'->Gr c.O σ H H'->Wp K c σ H' Q (k d ρ')->Q' d H'):WpB K c σ H Q' (f ρ):=by
 unfold Sk.bnd at h
 cases e:f ρ with
 |ok p=>rw[e]at h;exact λH' hr hg=>hQ p.1 p.2 H' hr hg (h.gr hg)
 |exc x ρ'=>rw[e]at h;exact h
 |bad=>rw[e]at h;exact h
theorem WpB.bndB {f:M Bool} {k:Bool->M Bool} {ρ:Env} {Q':Bool->Hp->Prop} (h:WpB K c σ H QB (Sk.bnd f k ρ)) (hQ:∀d ρ' H',Rep K c ρ' σ H'->Gr c.O σ H H'->WpB K c σ H' QB (k d ρ')->Q' d H'):WpB K c σ H Q' (f ρ):=by
 unfold Sk.bnd at h
 cases e:f ρ with
 |ok p=>rw[e]at h;exact λH' hr hg=>hQ p.1 p.2 H' hr hg (h.gr hg)
 |exc x ρ'=>rw[e]at h;exact h
 |bad=>rw[e]at h;exact h
theorem WpL.bnd {f:M (List D)} {k:List D->M D} {ρ:Env} {Q':List V->Hp->Prop} (h:Wp K c σ H Q (Sk.bnd f k ρ)) (hQ:∀d ρ' v H',Rep K c ρ' σ H'->IsL K (Cn c σ) H' d v->Gr c.O σ H H'->Wp K c σ H' Q (k d ρ')->Q' v H'):WpL K c σ H Q' (f ρ):=by
 unfold Sk.bnd at h
 cases e:f ρ with
 |ok p=>rw[e]at h;exact λv H' hr hi hg=>hQ p.1 p.2 v H' hr hi hg (h.gr hg)
 |exc x ρ'=>rw[e]at h;exact h
 |bad=>rw[e]at h;exact h
theorem WpL.bndL {f:M (List D)} {k:List D->M (List D)} {ρ:Env} {Q':List V->Hp->Prop} (h:WpL K c σ H QL (Sk.bnd f k ρ)) (hQ:∀d ρ' v H',Rep K c ρ' σ H'->IsL K (Cn c σ) H' d v->Gr c.O σ H H'->WpL K c σ H' QL (k d ρ')->Q' v H'):WpL K c σ H Q' (f ρ):=by
 unfold Sk.bnd at h
 cases e:f ρ with
 |ok p=>rw[e]at h;exact λv H' hr hi hg=>hQ p.1 p.2 v H' hr hi hg (h.gr hg)
 |exc x ρ'=>rw[e]at h;exact h
 |bad=>rw[e]at h;exact h
theorem Wp.lift {o:Option D} {ρ:Env} (h:Wp K c σ H Q (Sk.lift o ρ)):∃d,o=some d/\∀v H',Rep K c ρ σ H'->Is K (Cn c σ) H' d v->Gr c.O σ H H'->Q v H':=by
 cases o with
 |none=>exact h.elim
 |some d=>exact⟨d,rfl,h⟩
end
section
variable{X:Cx}{c:Fc}{a b e:Expr}{pos:Pos}
theorem qt{i j pos}:DE X c (.Constant (.int i) j pos) (ret (.int i)):=⟨_,ql6,λ_ _ H Q r h=>h _ H r rfl .refl⟩
theorem uK{i j pos}:DE X c (.Constant (.bool i) j pos) (ret (.bl i)):=⟨_,qnZ,λ_ _ H Q r h=>h _ H r rfl .refl⟩
theorem qax{j pos}:DE X c (.Constant .none j pos) (ret .non):=⟨_,ql7,λ_ _ H Q r h=>h _ H r rfl .refl⟩
theorem qjv{x j pos}:DE X c (.Constant (.str x) j pos) (ret (.str x)):=⟨_,ql8,λ_ _ H Q r h=>h _ H r rfl .refl⟩
def dv (i:Nat):M D:=λρ=>match ρ[i]? with
 |some (some d) => .ok (d,ρ)
 |_ => .bad
theorem qc (i:Nat) {x:Str} (ho:i ∉ c.O:=by exact of_decide_eq_false rfl) (hN:X.N[i]? = some x:=by rfl) (hv:Vis X.env.scope x:=by first|exact ya7 rfl|exact yaN (ya7 rfl)|exact yaN (yaN rfl)) (hd:(x==("__debug__":Str))=false:=by decide)
  (hcd:(x==("__classdict__":Str))=false:=by decide):DE X c (.Name x pos) (dv i):=by
 refine⟨_,wW hN hv hd hcd,λρ σ H Q r h=>?_⟩
 unfold dv at h
 split at h
 ·rename_i d e
  obtain⟨v,h1,h2⟩:=r.get ho e
  exact⟨v,h1,h v H r h2 .refl⟩
 ·exact h.elim
theorem qky {x:Str} {v:V} {u:Value} {d:D} (hg:Gl X x) (hm:X.mg x=some u) (rv:zY v u) (hd:∀H A,Is X.K A H d v) (hdb:(x==("__debug__":Str))=false:=by decide):DE X c (.Name x pos) (ret d) :=
 ⟨_,qkf hg hm rv hdb,λ_ _ H Q r h=>h _ H r (hd _ _) .refl⟩
theorem qf:DA X c [] (ret []):=⟨_,qar,λ_ _ H Q r h=>h _ H r rfl .refl⟩
def qa(f:M D)(g:M (List D)):M (List D):=bnd f λd=>bnd g λds=>ret (d::ds)
theorem qb {es:List Expr} {f:M D} {g:M (List D)} (ha:DE X c e f) (hr:DA X c es g) (hs:yah (e::es) X.env=(false,eval e X.env)::yah es X.env:=by rfl):DA X c (e::es) (qa f g):=by
 obtain⟨ta,pa,wa⟩:=ha
 obtain⟨tr,pr,wr⟩:=hr
 refine⟨_,yS pa pr hs,λρ σ H Q r h=>wa ρ σ H _ r (Wp.bndL h λd ρ1 v H1 r1 i1 g1 h1=>wr ρ1 σ H1 _ r1 (WpL.bndL h1 λds ρ2 vs H2 r2 i2 g2 h2=>?_))⟩
 exact h2 _ H2 r2 ⟨v,vs,rfl,g2.is i1,i2⟩ .refl
def qW(n:Nat):Bool:=decide (n<=yai)
def jO(f:M (List D)):M D:=bnd f λds=>lift (if qW ds.length then some (.tup ds)else none)
def wE(f:M (List D)):M D:=bnd f λds=>lift (if qW ds.length then some (.lst ds)else none)
theorem qx{H:Hp}{p:Addr}(h:H p=none)(o:HO):jE H (upd H p o):=λb u q=>by rw[qv (qA q h)];exact q
theorem Rep.laid{K:Fr0}{ρ:Env}{σ:St}{H:Hp}(r:Rep K c ρ σ H){p:Addr}(h:H p=none)(o:HO):Rep K c ρ σ (upd H p o):=r.same (qx h o)
theorem jj {p:Bool} {d e:D} (h:(if p then some d else none)=some e):p=true/\d=e:=by
 cases p with
 |true=>exact⟨rfl,by simpa using h⟩
 |false=>simp at h
theorem jr {es:List Expr} {x1} {f:M (List D)} (h:DA X c es f):DE X c (.Tuple es x1 pos) (jO f):=by
 obtain⟨t,p,w⟩:=h
 refine⟨_,qmq p,λρ σ H Q r h=>w ρ σ H _ r (WpL.bnd h λds ρ1 vs H1 r1 i1 g1 h1=>?_)⟩
 obtain⟨d,e,h2⟩:=h1.lift
 obtain⟨e1,e2⟩:=jj e
 subst e2
 refine⟨by rw[i1.length];exact of_decide_eq_true e1,λp hp=>h2 _ _ (r1.laid hp _) ⟨p,vs,rfl,.inl qu,IsL.ext (Ext.of_same (qx hp _)) (λ_ h _=>h) i1⟩ (.of_same (qx hp _))⟩
theorem vC {es:List Expr} {f:M (List D)} (h:DA X c es f):DE X c (.List es pos) (wE f):=by
 obtain⟨t,p,w⟩:=h
 refine⟨_,qjt p,λρ σ H Q r h=>w ρ σ H _ r (WpL.bnd h λds ρ1 vs H1 r1 i1 g1 h1=>?_)⟩
 obtain⟨d,e,h2⟩:=h1.lift
 obtain⟨e1,e2⟩:=jj e
 subst e2
 refine⟨by rw[i1.length];exact of_decide_eq_true e1,λp hp=>h2 _ _ (r1.laid hp _) ⟨p,vs,rfl,r1.new hp,qu,IsL.ext (Ext.of_same (qx hp _)) (λ_ h _=>h) i1⟩ (.of_same (qx hp _))⟩
def OpS (K:Fr0) (F:D->D->Option D) (r:R2):Prop:=∀(A:Addr->Prop)(H:Hp)(x y d:D)(v u:V)(Q:VK),(∀a,H a=none->A a)->Is K A H x v->Is K A H y u->F x y=some d ->
 (∀w H',jE H H'->Is K A H' d w->Q w H')->r v u H Q
def d2(F:D->D->Option D)(f g:M D):M D:=bnd f λx=>bnd g λy=>lift (F x y)
theorem op2 {r:R2} {F:D->D->Option D} {f g:M D} {ta tb:TE} (hF:OpS X.K F r) (wa:∀ρ σ H Q,Rep X.K c ρ σ H->Wp X.K c σ H Q (f ρ)->ta σ H Q) (wb:∀ρ σ H Q,Rep X.K c ρ σ H->Wp X.K c σ H Q (g ρ)->tb σ H Q) :
  ∀ρ σ H Q,Rep X.K c ρ σ H->Wp X.K c σ H Q (d2 F f g ρ)->tOp r ta tb σ H Q:=λρ σ H Q rp h=>wa ρ σ H _ rp (Wp.bnd h λx ρ1 v H1 r1 i1 g1 h1=>wb ρ1 σ H1 _ r1 (Wp.bnd h1 λy ρ2 u H2 r2 i2 g2 h2=>by
 obtain⟨d,e,h3⟩:=h2.lift
 exact hF _ H2 x y d v u Q (λa ha=>r2.new ha) (g2.is i1) i2 e λw H' s i=>h3 w H' (r2.same s) i (.of_same s)))
theorem qz {op:Operator} {r:R2} {F:D->D->Option D} {f g:M D} (ho:OpR X (ya8 op) r) (hF:OpS X.K F r) (ha:DE X c a f) (hb:DE X c b g):DE X c (.BinOp a op b pos) (d2 F f g):=by
 obtain⟨ta,pa,wa⟩:=ha
 obtain⟨tb,pb,wb⟩:=hb
 exact⟨_,qmk ho pa pb,op2 hF wa wb⟩
theorem qgo {op:CmpOp} {r:R2} {F:D->D->Option D} {f g:M D} (ho:OpR X (ybg op) r) (hF:OpS X.K F r) (ha:DE X c a f) (hb:DE X c b g) (hm:ybH op b=false):DE X c (.Compare a [op] [b] pos) (d2 F f g):=by
 obtain⟨ta,pa,wa⟩:=ha
 obtain⟨tb,pb,wb⟩:=hb
 exact⟨_,qkn ho pa pb hm,op2 hF wa wb⟩
def asB:D->Option Bool
 |.bl b=>some b
 |_=>none
def tst(f:M D):M Bool:=bnd f λd=>lift (asB d)
theorem qd1 {K:Fr0} {σ:St} {H:Hp} {QB:Bool->Hp->Prop} {o:Option Bool} {ρ:Env} (h:WpB K c σ H QB (lift o ρ)):∃b,o=some b/\∀H',Rep K c ρ σ H'->Gr c.O σ H H'->QB b H':=by
 cases o with
 |none=>exact h.elim
 |some d=>exact⟨d,rfl,h⟩
theorem qbI {d:D} {b:Bool} (h:asB d=some b):d=.bl b:=by
 cases d<;>simp[asB]at h
 subst h;rfl
theorem js {op:CmpOp} {r:R2} {F:D->D->Option D} {f g:M D} (ho:OpR X (ybg op) r) (hF:OpS X.K F r) (ha:DE X c a f) (hb:DE X c b g) (hm:ybH op b=false):DT X c (.Compare a [op] [b] pos) (tst (d2 F f g)):=by
 obtain⟨ta,pa,wa⟩:=ha
 obtain⟨tb,pb,wb⟩:=hb
 refine⟨_,qko ho pa pb hm,λρ σ H Q rp h=>op2 hF wa wb ρ σ H _ rp (Wp.bndB h λd ρ1 v H1 r1 i1 g1 h1=>?_)⟩
 obtain⟨b,e,h2⟩:=qd1 h1
 have:=qbI e
 subst this
 exact⟨b,i1,h2 H1 r1 .refl⟩
theorem yZ {f:M D} (h:DE X c e f) (he:∀whole,isTrue e X.env whole=(do let v <-whole;ye2 e.pos;ybZ [v] (truthy v)):=by intro _;rfl):DT X c e (tst f):=by
 obtain⟨t,p,w⟩:=h
 refine⟨_,ql9 p he,λρ σ H Q rp h=>w ρ σ H _ rp (Wp.bndB h λd ρ1 v H1 r1 i1 g1 h1=>?_)⟩
 obtain⟨b,e,h2⟩:=qd1 h1
 have:=qbI e
 subst this
 exact⟨b,i1,h2 H1 r1 .refl⟩
def qay(f:M Bool):M Bool:=bnd f λb=>ret (!b)
theorem uG {f:M Bool} (h:DT X c a f):DT X c (.UnaryOp .Not a pos) (qay f):=by
 obtain⟨t,p,w⟩:=h
 exact⟨_,qmc p,λρ σ H Q rp h=>w ρ σ H _ rp (WpB.bndB h λd ρ1 H1 r1 g1 h1=>h1 H1 r1 .refl)⟩
def DW(X:Cx)(c:Fc)(e:Expr)(f:M Bool):Prop:=∃t,PW X e t/\∀ρ σ H Q,Rep X.K c ρ σ H->WpB X.K c σ H Q (f ρ)->t σ H Q
theorem DW.dt {f:M Bool} (h:DW X c e f):DT X c e f:=by
 obtain⟨t,p,w⟩:=h
 exact⟨t,p.pt,w⟩
def qlX(f g:M Bool):M Bool:=bnd f λb=>if b then g else ret false
def tor(f g:M Bool):M Bool:=bnd f λb=>if b then ret true else g
variable{qah:List Expr}
theorem qkz {f:M Bool} (h:DT X c a f):DW X c (.BoolOp .And [a] pos) f:=by
 obtain⟨t,p,w⟩:=h
 exact⟨t,qkh p,w⟩
theorem vE {f:M Bool} (h:DT X c a f):DW X c (.BoolOp .Or [a] pos) f:=by
 obtain⟨t,p,w⟩:=h
 exact⟨t,qma p,w⟩
theorem qmE {f g:M Bool} (ha:DT X c a f) (hb:DW X c (.BoolOp .And (b::qah) pos) g):DW X c (.BoolOp .And (a::b::qah) pos) (qlX f g):=by
 obtain⟨ta,pa,wa⟩:=ha
 obtain⟨tb,pb,wb⟩:=hb
 refine⟨_,qmb pa pb,λρ σ H Q rp h=>wa ρ σ H _ rp (WpB.bndB h λd ρ1 H1 r1 g1 h1=>?_)⟩
 cases d with
 |true=>exact qlW (wb ρ1 σ H1 Q r1 (by simpa using h1))
 |false=>exact qlV ((by simpa using h1:WpB X.K c σ H1 Q (ret false ρ1)) H1 r1 .refl)
theorem qaz {f g:M Bool} (ha:DT X c a f) (hb:DW X c (.BoolOp .Or (b::qah) pos) g):DW X c (.BoolOp .Or (a::b::qah) pos) (tor f g):=by
 obtain⟨ta,pa,wa⟩:=ha
 obtain⟨tb,pb,wb⟩:=hb
 refine⟨_,qn0 pa pb,λρ σ H Q rp h=>wa ρ σ H _ rp (WpB.bndB h λd ρ1 H1 r1 g1 h1=>?_)⟩
 cases d with
 |true=>exact qlW ((by simpa using h1:WpB X.K c σ H1 Q (ret true ρ1)) H1 r1 .refl)
 |false=>exact qlV (wb ρ1 σ H1 Q r1 (by simpa using h1))
def qmF(f:M D):M D:=bnd f λd=>bnd (lift (asB d)) λb=>ret (.bl (!b))
def qkA(f g:M D):M D:=bnd f λd=>bnd (lift (asB d)) λb=>if b then g else ret (.bl false)
def dor(f g:M D):M D:=bnd f λd=>bnd (lift (asB d)) λb=>if b then ret (.bl true)else g
theorem qgp {K:Fr0} {σ:St} {H:Hp} {Q:VK} {d:D} {k:Bool->M D} {ρ:Env} (h:Wp K c σ H Q (bnd (lift (asB d)) k ρ)):∃b,d=.bl b/\Wp K c σ H Q (k b ρ):=by
 unfold bnd at h
 cases e:asB d with
 |none=>rw[e]at h;exact h.elim
 |some b=>rw[e]at h;exact⟨b,qbI e,h⟩
theorem qcv {op} {f:M D} (h:DE X c a f):DE X c (.BoolOp op [a] pos) f:=by
 obtain⟨t,p,w⟩:=h
 exact⟨t,qmd p,w⟩
theorem qjw {f:M D} (h:DE X c a f):DE X c (.UnaryOp .Not a pos) (qmF f):=by
 obtain⟨t,p,w⟩:=h
 refine⟨_,qmf p,λρ σ H Q rp h=>w ρ σ H _ rp (Wp.bnd h λd ρ1 v H1 r1 i1 g1 h1=>?_)⟩
 obtain⟨b,e,h2⟩:=qgp h1
 subst e
 exact⟨b,i1,h2 _ H1 r1 rfl .refl⟩
theorem qd2 {f g:M D} (ha:DE X c a f) (hb:DE X c (.BoolOp .And (b::qah) pos) g):DE X c (.BoolOp .And (a::b::qah) pos) (qkA f g):=by
 obtain⟨ta,pa,wa⟩:=ha
 obtain⟨tb,pb,wb⟩:=hb
 refine⟨_,qme pa pb,λρ σ H Q rp h=>wa ρ σ H _ rp (Wp.bnd h λd ρ1 v H1 r1 i1 g1 h1=>?_)⟩
 obtain⟨k,e,h2⟩:=qgp h1
 subst e
 refine⟨k,i1,?_⟩
 cases k with
 |true=>exact qlW (wb ρ1 σ H1 Q r1 (by simpa using h2))
 |false=>exact qlV ((by simpa using h2:Wp X.K c σ H1 Q (ret (.bl false) ρ1)) _ H1 r1 rfl .refl)
theorem qos {f g:M D} (ha:DE X c a f) (hb:DE X c (.BoolOp .Or (b::qah) pos) g):DE X c (.BoolOp .Or (a::b::qah) pos) (dor f g):=by
 obtain⟨ta,pa,wa⟩:=ha
 obtain⟨tb,pb,wb⟩:=hb
 refine⟨_,qn3 pa pb,λρ σ H Q rp h=>wa ρ σ H _ rp (Wp.bnd h λd ρ1 v H1 r1 i1 g1 h1=>?_)⟩
 obtain⟨k,e,h2⟩:=qgp h1
 subst e
 refine⟨k,i1,?_⟩
 cases k with
 |true=>exact qlW ((by simpa using h2:Wp X.K c σ H1 Q (ret (.bl true) ρ1)) _ H1 r1 rfl .refl)
 |false=>exact qlV (wb ρ1 σ H1 Q r1 (by simpa using h2))
def dif(f:M Bool)(g k:M D):M D:=bnd f λb=>if b then g else k
theorem qot {t:Expr} {f:M Bool} {g k:M D} (ht:DT X c t f) (ha:DE X c a g) (hb:DE X c b k):DE X c (.IfExp t a b pos) (dif f g k):=by
 obtain⟨tt,pt,wt⟩:=ht
 obtain⟨ta,pa,wa⟩:=ha
 obtain⟨tb,pb,wb⟩:=hb
 refine⟨_,qh7 pt pa pb,λρ σ H Q rp h=>wt ρ σ H _ rp (WpB.bnd h λd ρ1 H1 r1 g1 h1=>?_)⟩
 cases d with
 |true=>exact qlW (wa ρ1 σ H1 Q r1 (by simpa using h1))
 |false=>exact qlV (wb ρ1 σ H1 Q r1 (by simpa using h1))
def uP (K:Fr0) (F:List D->Option D) (r:List V->Hp->VK->Prop):Prop:=∀(A:Addr->Prop)(H:Hp)(xs:List D)(d:D)(vs:List V)(Q:VK),(∀a,H a=none->A a)->IsL K A H xs vs->F xs=some d ->
 (∀w H',jE H H'->Is K A H' d w->Q w H')->r vs H Q
def qw(F:List D->Option D)(f:M (List D)):M D:=bnd f λds=>lift (F ds)
theorem qmG {r:List V->Hp->VK->Prop} {F:List D->Option D} {f:M (List D)} {t:TA} (hF:uP X.K F r) (w:∀ρ σ H Q,Rep X.K c ρ σ H->WpL X.K c σ H Q (f ρ)->t σ H Q) :
  ∀ρ σ H Q,Rep X.K c ρ σ H->Wp X.K c σ H Q (qw F f ρ)->tCB r t σ H Q:=λρ σ H Q rp h=>w ρ σ H _ rp (WpL.bnd h λds ρ1 vs H1 r1 i1 g1 h1=>by
 obtain⟨d,e,h3⟩:=h1.lift
 exact hF _ H1 ds d vs Q (λa ha=>r1.new ha) i1 e λw H' s i=>h3 w H' (r1.same s) i (.of_same s))
theorem qJ {id:String} {x:Str} {p:Pos} {es:List Expr} {r:List V->Hp->VK->Prop} {F:List D->Option D} {f:M (List D)} (hc:jN X (.builtin id) r) (hF:uP X.K F r) (hg:Gl X x) (hm:X.mg x=none) (hv:yaA x=some (.builtin id)) (ha:DA X c (e::es) f) (hn:x≠"__name__":=by decide) (hdb:(x==("__debug__":Str))=false:=by decide)
  (he:yah (e::es) X.env=(false,eval e X.env)::yah es X.env:=by rfl) (hpl:(yaX pos (yah es X.env)).any (·.1)=false:=by rfl):DE X c (.Call (.Name x p) (e::es) [] pos) (qw F f):=by
 obtain⟨t,pa,w⟩:=ha
 exact⟨_,qbD hc hg hm hv pa hn hdb he hpl,qmG hF w⟩
theorem uQ {T:String} {x:Str} {p:Pos} {es:List Expr} {r:List V->Hp->VK->Prop} {F:List D->Option D} {f:M (List D)} (hc:jN X (.type T) r) (hF:uP X.K F r) (hg:Gl X x) (hm:X.mg x=none) (hv:yaA x=some (.type T)) (ha:DA X c (e::es) f) (hn:x≠"__name__":=by decide) (hdb:(x==("__debug__":Str))=false:=by decide)
  (he:yah (e::es) X.env=(false,eval e X.env)::yah es X.env:=by rfl) (hpl:(yaX pos (yah es X.env)).any (·.1)=false:=by rfl):DE X c (.Call (.Name x p) (e::es) [] pos) (qw F f):=by
 obtain⟨t,pa,w⟩:=ha
 exact⟨_,vZ hc hg hm hv pa hn hdb he hpl,qmG hF w⟩
theorem qX {r:R2} {F:D->D->Option D} {f g:M D} (hr:IxR X r) (hF:OpS X.K F r) (ha:DE X c a f) (hb:DE X c b g) (hs:qdi b:=by intro _ _;rfl):DE X c (.Subscript a b pos) (d2 F f g):=by
 obtain⟨ta,pa,wa⟩:=ha
 obtain⟨tb,pb,wb⟩:=hb
 exact⟨_,qmv hr pa pb hs,op2 hF wa wb⟩
end
inductive Fl where
 |nx (ρ:Env)|rt (d:D) (ρ:Env)|bk (ρ:Env)|ct (ρ:Env)
structure GrS (O:List Nat) (σ:St) (H:Hp) (σ':St) (H':Hp):Prop where
 ext:Ext (Cl O σ) H H'
 cl:∀b,Cl O σ b->(H b).isSome=true->Cl O σ' b
 dom:∀b,H' b=none->H b=none
theorem qfd {H H':Hp} {b:Addr} (dom:H' b=none->H b=none) (h:(H b).isSome=true):(H' b).isSome=true:=by
 cases e:H' b with
 |none=>rw[dom e]at h;cases h
 |some o=>rfl
theorem GrS.refl{O:List Nat}{σ:St}{H:Hp}:GrS O σ H σ H:=⟨Ext.refl,λ_ h _=>h,λ_ h=>h⟩
theorem Gr.s{O:List Nat}{σ:St}{H H':Hp}(g:Gr O σ H H'):GrS O σ H σ H':=⟨g.ext,λ_ h _=>h,g.dom⟩
theorem GrS.trans {O:List Nat} {σ σ1 σ2:St} {H H1 H2:Hp} (a:GrS O σ H σ1 H1) (b:GrS O σ1 H1 σ2 H2):GrS O σ H σ2 H2 :=
 ⟨⟨λc xs h=>b.ext.tup c xs (a.ext.tup c xs h),λc o u h=>b.ext.frz c o u (a.ext.frz c o u h),λc o hc h=>b.ext.at_ c o (a.cl c hc (by rw[h];rfl)) (a.ext.at_ c o hc h)⟩,
  λc hc h=>b.cl c (a.cl c hc h) (qfd (a.dom c) h),λc h=>a.dom c (b.dom c h)⟩
theorem GrS.is {K:Fr0} {c:Fc} {σ σ':St} {H H':Hp} {d:D} {v:V} (g:GrS c.O σ H σ' H') (h:Is K (Cn c σ) H d v):Is K (Cn c σ') H' d v :=
 Is.ext ⟨g.ext.tup,g.ext.frz,λb o hb h=>g.ext.at_ b o hb.2 h⟩ (λa ha hs=>⟨ha.1,g.cl a ha.2 hs⟩) h
theorem GrS.isL {K:Fr0} {c:Fc} {σ σ':St} {H H':Hp} {d:List D} {v:List V} (g:GrS c.O σ H σ' H') (h:IsL K (Cn c σ) H d v):IsL K (Cn c σ') H' d v :=
 IsL.ext ⟨g.ext.tup,g.ext.frz,λb o hb h=>g.ext.at_ b o hb.2 h⟩ (λa ha hs=>⟨ha.1,g.cl a ha.2 hs⟩) h
def WpS (K:Fr0) (c:Fc) (σ:St) (H:Hp) (D:qe6):R Fl->Prop
 |.ok (.nx ρ)=>∀σ' H',Rep K c ρ σ' H'->GrS c.O σ H σ' H'->D.nx σ' H'
 |.ok (.rt d ρ)=>∀v σ' H',Rep K c ρ σ' H'->Is K c.B H' d v->GrS c.O σ H σ' H'->D.rt v H'
 |.ok (.bk ρ)=>∀σ' H',Rep K c ρ σ' H'->GrS c.O σ H σ' H'->D.bk σ' H'
 |.ok (.ct ρ)=>∀σ' H',Rep K c ρ σ' H'->GrS c.O σ H σ' H'->D.ct σ' H'
 |.exc x ρ=>∀σ' H',Rep K c ρ σ' H'->GrS c.O σ H σ' H'->c.E x H'
 |.bad=>False
abbrev MS:=Env->R Fl
def DS(X:Cx)(c:Fc)(st:Stmt)(f:MS):Prop:=∃t,PS X st t/\∀ρ σ H D,Rep X.K c ρ σ H->WpS X.K c σ H D (f ρ)->t D σ H
def DSs(X:Cx)(c:Fc)(st:List Stmt)(f:MS):Prop:=∃t,PSs X st t/\∀ρ σ H D,Rep X.K c ρ σ H->WpS X.K c σ H D (f ρ)->t D σ H
theorem WpS.gr {K:Fr0} {c:Fc} {σ σ1:St} {H H1:Hp} {D:qe6}:∀{r:R Fl},WpS K c σ H D r->GrS c.O σ H σ1 H1->WpS K c σ1 H1 D r
 |.ok (.nx ρ),h,g=>λσ' H' hr hg=>h σ' H' hr (g.trans hg)
 |.ok (.rt d ρ),h,g=>λv σ' H' hr hi hg=>h v σ' H' hr hi (g.trans hg)
 |.ok (.bk ρ),h,g=>λσ' H' hr hg=>h σ' H' hr (g.trans hg)
 |.ok (.ct ρ),h,g=>λσ' H' hr hg=>h σ' H' hr (g.trans hg)
 |.exc x ρ,h,g=>λσ' H' hr hg=>h σ' H' hr (g.trans hg)
 |.bad,h,_=>h
def sbnd {α:Type} (f:M α) (k:α->MS):MS:=λρ=>match f ρ with
 |.ok (a,ρ')=>k a ρ'
 |.exc x ρ' => .exc x ρ'
 |.bad => .bad
section
variable{K:Fr0}{c:Fc}{σ:St}{H:Hp}{D:qe6}
theorem Wp.sbnd {f:M Sk.D} {k:Sk.D->MS} {ρ:Env} {Q':VK} (h:WpS K c σ H D (sbnd f k ρ)) (hQ:∀d ρ' v H',Rep K c ρ' σ H'->Is K (Cn c σ) H' d v->Gr c.O σ H H'->WpS K c σ H' D (k d ρ')->Q' v H'):Wp K c σ H Q' (f ρ):=by
 unfold Sk.sbnd at h
 cases e:f ρ with
 |ok p=>rw[e]at h;exact λv H' hr hi hg=>hQ p.1 p.2 v H' hr hi hg (h.gr hg.s)
 |exc x ρ'=>rw[e]at h;exact λH' hr hg=>h σ H' hr hg.s
 |bad=>rw[e]at h;exact h
theorem WpB.sbnd {f:M Bool} {k:Bool->MS} {ρ:Env} {Q':Bool->Hp->Prop} (h:WpS K c σ H D (sbnd f k ρ)) (hQ:∀d ρ' H',Rep K c ρ' σ H'->Gr c.O σ H H'->WpS K c σ H' D (k d ρ')->Q' d H'):WpB K c σ H Q' (f ρ):=by
 unfold Sk.sbnd at h
 cases e:f ρ with
 |ok p=>rw[e]at h;exact λH' hr hg=>hQ p.1 p.2 H' hr hg (h.gr hg.s)
 |exc x ρ'=>rw[e]at h;exact λH' hr hg=>h σ H' hr hg.s
 |bad=>rw[e]at h;exact h
theorem WpL.sbnd {f:M (List Sk.D)} {k:List Sk.D->MS} {ρ:Env} {Q':List V->Hp->Prop} (h:WpS K c σ H D (sbnd f k ρ)) (hQ:∀d ρ' v H',Rep K c ρ' σ H'->IsL K (Cn c σ) H' d v->Gr c.O σ H H'->WpS K c σ H' D (k d ρ')->Q' v H'):WpL K c σ H Q' (f ρ):=by
 unfold Sk.sbnd at h
 cases e:f ρ with
 |ok p=>rw[e]at h;exact λv H' hr hi hg=>hQ p.1 p.2 v H' hr hi hg (h.gr hg.s)
 |exc x ρ'=>rw[e]at h;exact λH' hr hg=>h σ H' hr hg.s
 |bad=>rw[e]at h;exact h
end
def qN (f g:MS):MS:=λρ=>match f ρ with
 |.ok (.nx ρ')=>g ρ'
 |r=>r
theorem WpS.mono_nx {K:Fr0} {c:Fc} {σ:St} {H:Hp} {D:qe6} {f g:MS} {ρ:Env} {N:St->Hp->Prop} (h:WpS K c σ H D (qN f g ρ)) (hN:∀ρ' σ' H',Rep K c ρ' σ' H'->GrS c.O σ H σ' H'->WpS K c σ' H' D (g ρ')->N σ' H') :
  WpS K c σ H {D with nx:=N} (f ρ):=by
 unfold qN at h
 cases e:f ρ with
 |ok fl=>
  rw[e]at h
  cases fl with
  |nx ρ'=>exact λσ' H' hr hg=>hN ρ' σ' H' hr hg (h.gr hg)
  |rt d ρ'=>exact h
  |bk ρ'=>exact h
  |ct ρ'=>exact h
 |exc x ρ'=>rw[e]at h;exact h
 |bad=>rw[e]at h;exact h
section
variable{X:Cx}{c:Fc}{a b e:Expr}{pos:Pos}{st:Stmt}{sts:List Stmt}
theorem qkB:DSs X c [] (λρ => .ok (.nx ρ)):=⟨_,qki,λρ σ H D r h=>h σ H r .refl⟩
theorem qo {f:MS} (h:DS X c st f):DSs X c [st] f:=by
 obtain⟨t,p,w⟩:=h
 exact⟨t,qbA p,w⟩
theorem qg {f g:MS} (h:DS X c st f) (hr:DSs X c sts g):DSs X c (st::sts) (qN f g):=by
 obtain⟨t,p,w⟩:=h
 obtain⟨t2,p2,w2⟩:=hr
 exact⟨_,vX p p2,λρ σ H D r h=>w ρ σ H _ r (h.mono_nx λρ' σ' H' r' g' h'=>w2 ρ' σ' H' D r' h')⟩
def ji(f:M D):MS:=sbnd f λd ρ => .ok (.rt d ρ)
theorem Is.cn{K:Fr0}{σ:St}{H:Hp}{d:D}{v:V}(h:Is K (Cn c σ) H d v):Is K c.B H d v:=Is.ext Ext.refl (λ_ h _=>h.1) h
theorem qU {f:M D} (h:DE X c e f):DS X c (.Return (some e) pos) (ji f):=by
 obtain⟨t,p,w⟩:=h
 exact⟨_,qjp p,λρ σ H D r h=>w ρ σ H _ r (Wp.sbnd h λd ρ1 v H1 r1 i1 g1 h1=>h1 v σ H1 r1 i1.cn .refl)⟩
def uL(f:M D):MS:=sbnd f λ_ ρ => .ok (.nx ρ)
theorem yT {f:M D} (h:DE X c e f) (hs:ycK e none pos.line X.env=pure false:=by rfl):DS X c (.Expr e pos) (uL f):=by
 obtain⟨t,p,w⟩:=h
 exact⟨_,qkj p hs,λρ σ H D r h=>w ρ σ H _ r (Wp.sbnd h λd ρ1 v H1 r1 i1 g1 h1=>h1 σ H1 r1 .refl)⟩
def sif(f:M Bool)(g k:MS):MS:=sbnd f λb=>if b then g else k
theorem ul {t:Expr} {s1 s2:List Stmt} {f:M Bool} {g k:MS} (ht:DT X c t f) (ha:DSs X c s1 g) (hb:DSs X c s2 k):DS X c (.If t s1 s2 pos) (sif f g k):=by
 obtain⟨tt,pt,wt⟩:=ht
 obtain⟨ta,pa,wa⟩:=ha
 obtain⟨tb,pb,wb⟩:=hb
 refine⟨_,qn6 pt pa pb,λρ σ H D rp h=>wt ρ σ H _ rp (WpB.sbnd h λd ρ1 H1 r1 g1 h1=>?_)⟩
 cases d with
 |true=>exact qlW (wa ρ1 σ H1 D r1 (by simpa using h1))
 |false=>exact qlV (wb ρ1 σ H1 D r1 (by simpa using h1))
theorem qig:DS X c st (λ_ => .bad):=⟨_,qh8,λρ σ H D rp h=>h.elim⟩
theorem qP{α:Type}{l:List α}{i j:Nat}{v:α}(h:j≠i):(l.set i v)[j]? = l[j]? := List.getElem?_set_ne (ybk h)
theorem Cl.set {O:List Nat} {σ:St} {i:Nat} {v:Option V} (hi:i ∉ O) (a:Addr):Cl O (σ.set i v) a ↔ Cl O σ a:=by
 constructor
 ·intro h j hj
  have e:j≠i:=λe=>hi (e▸hj)
  have:=h j hj
  rw[qP e]at this
  exact this
 ·intro h j hj
  have e:j≠i:=λe=>hi (e▸hj)
  rw[qP e]
  exact h j hj
theorem Rep.set {K:Fr0} {ρ:Env} {σ:St} {H:Hp} {i:Nat} {d:D} {v:V} (r:Rep K c ρ σ H) (hi:i ∉ c.O) (h:Is K (Cn c σ) H d v):Rep K c (ρ.set i (some d)) (σ.set i (some v)) H where
 len:=by rw[lS_,lS_];exact r.len
 val := λj e hj=>by
  have up:∀{d':D}{v':V},Is K (Cn c σ) H d' v'->Is K (Cn c (σ.set i (some v))) H d' v':=λh=>Is.ext Ext.refl (λa ha _=>⟨ha.1,(Cl.set hi a).mpr ha.2⟩) h
  by_cases e1:j=i
  ·subst e1
   have hl:j<ρ.length:=by
    have:=(gI_.mp hj).1
    rwa [lS_]at this
   rw[List.getElem?_set_self hl]at hj
   cases hj
   refine⟨v,List.getElem?_set_self (by rw[<-r.len];exact hl),.inr ⟨hi,up h⟩⟩
  ·rw[qP e1]at hj
   obtain⟨w,h1,h2⟩:=r.val j e hj
   refine⟨w,by rw[qP e1];exact h1,?_⟩
   rcases h2 with⟨hj2,ds,a,xs,h3,h5,h6,h7⟩|⟨h3,h4⟩
   ·exact .inl ⟨hj2,ds,a,xs,h3,h5,h6,IsL.ext Ext.refl (λa ha _=>⟨ha.1,(Cl.set hi a).mpr ha.2⟩) h7⟩
   ·exact .inr ⟨h3,up h4⟩
 own:=λj hj w h=>by
  have e1:j≠i:=λe=>hi (e▸hj)
  rw[qP e1]at h
  exact r.own j hj w h
 inj:=λj k a hj hk h1 h2=>by
  have e1:j≠i:=λe=>hi (e▸hj)
  have e2:k≠i:=λe=>hi (e▸hk)
  rw[qP e1]at h1
  rw[qP e2]at h2
  exact r.inj j k a hj hk h1 h2
 b0:=r.b0
 kp:=r.kp
 dm:=r.dm
 pO:=r.pO
 ps:=λj hj=>by
  have e:j≠i:=λe=>hi (e▸r.pO j hj)
  rw[qP e];exact r.ps j hj
theorem GrS.set{O:List Nat}{σ:St}{H:Hp}{i:Nat}{v:Option V}(hi:i ∉ O):GrS O σ H (σ.set i v) H:=⟨Ext.refl,λb h _=>(Cl.set hi b).mpr h,λ_ h=>h⟩
def zp(i:Nat)(f:M D):MS:=sbnd f λd ρ => .ok (.nx (ρ.set i (some d)))
theorem zg {i:Nat} {x:Str} {pos':Pos} {f:M D} (hN:X.N.Nodup) (he:DE X c e f) (ho:i ∉ c.O:=by exact of_decide_eq_false rfl) (hi:X.N[i]? = some x:=by rfl) (hx:Loc X.env.scope x:=by first|exact ya7 rfl|exact yaN rfl) (hs:ycK e (some (.Name x pos')) pos.line X.env=pure false:=by rfl) (hf:X.fn x=true\/X.env.scope.names.lookup x=some .local:=by first|exact .inl rfl|exact .inr rfl|assumption) :
  DS X c (.Assign [.Name x pos'] e pos) (zp i f):=by
 obtain⟨t,p,w⟩:=he
 refine⟨_,qbl hN hi hx p hs hf,λρ σ H D r h=>w ρ σ H _ r (Wp.sbnd h λd ρ1 v H1 r1 i1 g1 h1=>?_)⟩
 exact h1 _ H1 (r1.set ho i1) (.set ho)
def DG (X:Cx) (c:Fc) (tg:Expr) (f:D->Env->Option Env):Prop:=∃g,PG X tg g/\∀ρ σ H d v ρ' (N:St->Hp->Prop),Rep X.K c ρ σ H->Is X.K (Cn c σ) H d v->f d ρ=some ρ' ->
 (∀σ',Rep X.K c ρ' σ' H->GrS c.O σ H σ' H->(∀j∈c.O,σ'[j]? = σ[j]?)->N σ' H)->g v σ H N
def qm(i:Nat):D->Env->Option Env:=λd ρ=>some (ρ.set i (some d))
theorem qB {i:Nat} {x:Str} (hN:X.N.Nodup) (ho:i ∉ c.O:=by exact of_decide_eq_false rfl) (hi:X.N[i]? = some x:=by rfl) (hx:Loc X.env.scope x:=by first|exact ya7 rfl|exact yaN rfl) (hf:X.fn x=true\/X.env.scope.names.lookup x=some .local:=by first|exact .inl rfl|exact .inr rfl|assumption) {p:Pos}:DG X c (.Name x p) (qm i):=by
 refine⟨_,qbB hN hi hx hf,λρ σ H d v ρ' N r h e k=>?_⟩
 cases e
 exact k _ (r.set ho h) (.set ho) λj hj=>qP λe=>ho (e▸hj)
def DGs (X:Cx) (c:Fc) (tgs:List Expr) (f:List D->Env->Option Env):Prop:=∃g,PGs X tgs g/\∀ρ σ H ds vs ρ' (N:St->Hp->Prop),Rep X.K c ρ σ H->IsL X.K (Cn c σ) H ds vs->f ds ρ=some ρ' ->
 (∀σ',Rep X.K c ρ' σ' H->GrS c.O σ H σ' H->(∀j∈c.O,σ'[j]? = σ[j]?)->N σ' H)->g vs σ H N
def vJ:List D->Env->Option Env
 | [],ρ=>some ρ
 |_,_=>none
def qL (f:D->Env->Option Env) (g:List D->Env->Option Env):List D->Env->Option Env
 |d::ds,ρ=>(f d ρ).bind (g ds)
 |_,_=>none
theorem um:DGs X c [] vJ:=by
 refine⟨_,qdg,λρ σ H ds vs ρ' N r h e k=>?_⟩
 cases ds with
 |nil=>
  cases e
  exact⟨h,k σ r .refl λ_ _=>rfl⟩
 |cons d ds=>cases e
theorem zc {tg:Expr} {tgs:List Expr} {f:D->Env->Option Env} {g:List D->Env->Option Env} (h1:DG X c tg f) (h2:DGs X c tgs g)
  (hs:(ybw (tg::tgs) X.env).map (·.2)=yb3 tg X.env::(ybw tgs X.env).map (·.2):=by rfl):DGs X c (tg::tgs) (qL f g):=by
 obtain⟨t1,p1,w1⟩:=h1
 obtain⟨t2,p2,w2⟩:=h2
 refine⟨_,vY p1 p2 hs,λρ σ H ds vs ρ' N r h e k=>?_⟩
 cases ds with
 |nil=>cases e
 | cons d ds=>
  obtain⟨v,ws,rfl,i1,i2⟩:=h
  have e':(f d ρ).bind (g ds)=some ρ':=e
  cases e1:f d ρ with
  |none=>rw[e1]at e';cases e'
  |some ρ1=>
   rw[e1]at e'
   exact⟨v,ws,rfl,w1 ρ σ H d v ρ1 _ r i1 e1 λσ1 r1 g1 o1=>w2 ρ1 σ1 H ds ws ρ' N r1 (g1.isL i2) e' λσ2 r2 g2 o2=>k σ2 r2 (g1.trans g2) λj hj=>(o2 j hj).trans (o1 j hj)⟩
def vK (n:Nat) (g:List D->Env->Option Env):D->Env->Option Env
 |.tup ds,ρ=>if ds.length=n then g ds ρ else none
 |_,_=>none
theorem v0 {es:List Expr} {k n:Nat} {p:Pos} {g:List D->Env->Option Env} (hc:X.calm=true) (h:DGs X c es g) (hn:(ybw es X.env).length=n:=by rfl) (hst:(ybw es X.env).findIdx? (·.1)=none:=by rfl):DG X c (.Tuple es k p) (vK n g):=by
 obtain⟨t,p,w⟩:=h
 refine⟨_,qfY (n:=n) hc p hn hst,λρ σ H d v ρ' N r h e q=>?_⟩
 cases d with
 | tup ds=>
  obtain⟨a,xs,rfl,ta,il⟩:=h
  have e':(if ds.length=n then g ds ρ else none)=some ρ':=e
  by_cases hl:ds.length=n
  ·rw[if_pos hl]at e'
   exact⟨a,xs,rfl,ta.sq,by rw[il.length];exact hl,w ρ σ H ds xs ρ' N r il e' q⟩
  ·rw[if_neg hl]at e';cases e'
 |_=>cases e
def qfR (f:M D) (g:D->Env->Option Env):MS:=sbnd f λd ρ=>match g d ρ with
 |some ρ' => .ok (.nx ρ')
 |none => .bad
theorem qd3 {tg:Expr} {f:M D} {g:D->Env->Option Env} (he:DE X c e f) (hg:DG X c tg g) (hs:yct [tg] e pos.line X.env=pure false:=by rfl) (hw:ycu [tg] e X.env=pure none:=by rfl) (h1:(ybw [tg] X.env).map (·.2)=[yb3 tg X.env]:=by rfl):DS X c (.Assign [tg] e pos) (qfR f g):=by
 obtain⟨t,p,w⟩:=he
 obtain⟨t2,p2,w2⟩:=hg
 refine⟨_,qf0 p p2 hs hw h1,λρ σ H D r h=>w ρ σ H _ r (Wp.sbnd h λd ρ1 v H1 r1 i1 g1 h1=>?_)⟩
 cases e:g d ρ1 with
 |none=>rw[e]at h1;exact h1.elim
 |some ρ2=>
  rw[e]at h1
  exact w2 ρ1 σ H1 d v ρ2 _ r1 i1 e λσ' r2 g2 _=>h1 σ' H1 r2 g2
end
section
variable{K:Fr0}
def iiD (g:Int->Int->D):D->D->Option D
 |.int i,.int j=>some (g i j)
 |_,_=>none
def qfe (C:Int->Int->Bool) (g:Int->Int->D):D->D->Option D
 |.int i,.int j=>if C i j then some (g i j)else none
 |_,_=>none
theorem qbJ {g:Int->Int->V} {gD:Int->Int->D} (hg:∀A H i j,Is K A H (gD i j) (g i j)):OpS K (iiD gD) (rI0 g):=by
 intro A H x y d v u Q hn ix iy e k
 cases x<;>cases y<;>simp only[iiD]at e<;>try (cases e;done)
 rename_i i j
 cases (yaz e)
 cases (show v=.int i from ix)
 cases (show u=.int j from iy)
 exact⟨i,j,rfl,rfl,k _ H (jE.refl H) (hg _ _ _ _)⟩
theorem qd4 {C:Int->Int->Prop} {CB:Int->Int->Bool} {g:Int->Int->V} {gD:Int->Int->D} (hC:∀i j,CB i j=true->C i j) (hg:∀A H i j,Is K A H (gD i j) (g i j)):OpS K (qfe CB gD) (rI C g):=by
 intro A H x y d v u Q hn ix iy e k
 cases x<;>cases y<;>simp only[qfe]at e<;>try (cases e;done)
 rename_i i j
 obtain⟨e1,e2⟩:=jj e
 subst e2
 cases (show v=.int i from ix)
 cases (show u=.int j from iy)
 exact⟨i,j,rfl,rfl,hC i j e1,k _ H (jE.refl H) (hg _ _ _ _)⟩
def qbg:D->D->Option D:=iiD λi j => .int (i-j)
theorem qaA:OpS K qbg (rI0 λi j => .int (i-j)):=qbJ λ_ _ _ _=>rfl
def jt(i:Int):Bool:=decide (-(2 ^ 64)<i)&&decide (i<2 ^ 64)
theorem qcw {i:Int} (h:jt i=true) : -(2 ^ 64)<i/\i<2 ^ 64:=by
 unfold jt at h
 rw[yam]at h
 exact⟨of_decide_eq_true h.1,of_decide_eq_true h.2⟩
def qdk(i j:Int):Bool:=jt i||jt j
theorem qih {i j:Int} (h:qdk i j=true):qmm i j:=by
 unfold qdk at h
 rw[ycH]at h
 rcases h with h|h
 ·exact .inl (qcw h)
 ·exact .inr (qcw h)
def qff(i j:Int):Bool:=decide (0<j)&&decide (j<1606938044258990275541962092341162602522202993782792835301376)
theorem qd5 {i j:Int} (h:qff i j=true):qml i j:=by
 unfold qff at h
 rw[yam]at h
 exact⟨of_decide_eq_true h.1,of_decide_eq_true h.2⟩
def j9:D->D->Option D:=qfe qff λi j => .int (i/j)
theorem vo:OpS K j9 (rI qml λi j => .int (i/j)):=qd4 (λ_ _=>qd5) λ_ _ _ _=>rfl
def jM:D->D->Option D:=qfe (λ_ j=>decide (0<j)) λi j => .int (i%j)
theorem yj:OpS K jM (rI (λ_ j=>0<j) λi j => .int (i%j)):=qd4 (λ_ _ h=>of_decide_eq_true h) λ_ _ _ _=>rfl
def ltD:D->D->Option D:=iiD λi j => .bl (decide (i<j))
def leD:D->D->Option D:=iiD λi j => .bl (decide (i<=j))
def gtD:D->D->Option D:=iiD λi j => .bl (decide (j<i))
def geD:D->D->Option D:=iiD λi j => .bl (decide (j<=i))
theorem qgq:OpS K ltD (rI0 λi j => .bl (decide (i<j))):=qbJ λ_ _ _ _=>rfl
theorem qcx:OpS K gtD (rI0 λi j => .bl (decide (j<i))):=qbJ λ_ _ _ _=>rfl
theorem qmH:OpS K geD (rI0 λi j => .bl (decide (j<=i))):=qbJ λ_ _ _ _=>rfl
def sc2:D->D->Option Bool
 |.non,.non=>some true|.non,.int _=>some false|.int _,.non=>some false|.non,.bl _=>some false|.bl _,.non=>some false|.non,.str _=>some false|.str _,.non=>some false
 |.int i,.int j=>some (decide (i=j))|.bl i,.bl j=>some (decide (i=j))|.str i,.str j=>some (decide (i=j))
 |.int _,.str _=>some false|.str _,.int _=>some false|.bl _,.str _=>some false|.str _,.bl _=>some false
 |_,_=>none
def eqS(x y:D):Option D:=(sc2 x y).map D.bl
def neS(x y:D):Option D:=(sc2 x y).map λb=>D.bl (!b)
theorem qjx {A:Addr->Prop} {H:Hp} {x y:D} {v u:V} {b:Bool} (ix:Is K A H x v) (iy:Is K A H y u) (e:sc2 x y=some b):qof v u=true/\decide (v=u)=b:=by
 cases x<;>cases y<;>simp only[sc2]at e<;>first
  |(cases e;done)
  |(cases ix;cases iy;cases e;exact⟨rfl,rfl⟩)
  |(cases ix;cases iy;cases e;exact⟨rfl,by simp⟩)
  |(cases ix;cases iy;cases e;exact⟨rfl,by rw[ycd];simp⟩)
theorem qkC:OpS K eqS rEq:=by
 intro A H x y d v u Q hn ix iy e k
 unfold eqS at e
 cases e1:sc2 x y with
 |none=>rw[e1]at e;cases e
 |some b=>
  rw[e1]at e
  cases e
  obtain⟨h1,h2⟩:=qjx ix iy e1
  exact⟨h1,by rw[h2];exact k _ H (jE.refl H) rfl⟩
theorem qkD:OpS K neS rNe:=by
 intro A H x y d v u Q hn ix iy e k
 unfold neS at e
 cases e1:sc2 x y with
 |none=>rw[e1]at e;cases e
 |some b=>
  rw[e1]at e
  cases e
  obtain⟨h1,h2⟩:=qjx ix iy e1
  exact⟨h1,by rw[h2];exact k _ H (jE.refl H) rfl⟩
def uR:D->Bool
 |.non=>true
 |_=>false
theorem qd6 {A:Addr->Prop} {H:Hp} {x:D} {v:V} (ix:Is K A H x v):decide (v=V.non)=uR x:=by
 cases x with
 |non=>cases ix;rfl
 |bl b=>cases ix;rfl
 |int i=>cases ix;rfl
 |str s=>cases ix;rfl
 |tup ds=>obtain⟨a,xs,rfl,_⟩:=ix;rfl
 |lst ds=>obtain⟨a,xs,rfl,_⟩:=ix;rfl
 |dic ds=>obtain⟨a,rfl,_⟩:=ix;rfl
 |fz ds=>obtain⟨a,rfl,_⟩:=ix;rfl
 |exc ds=>obtain⟨a,rfl,_⟩:=ix;rfl
def isN(x y:D):Option D:=if uR y then some (.bl (uR x))else none
def qpY(x y:D):Option D:=if uR y then some (.bl (!uR x))else none
theorem qgr:OpS K isN (λx y H Q=>y=.non/\Q (.bl (decide (x=.non))) H):=by
 intro A H x y d v u Q hn ix iy e k
 obtain⟨e1,e2⟩:=jj e
 subst e2
 have h:=qd6 iy
 rw[e1]at h
 refine⟨of_decide_eq_true h,?_⟩
 rw[qd6 ix]
 exact k _ H (jE.refl H) rfl
def ixD:D->D->Option D
 |.tup ds,.int i=>atI ds i
 |.lst ds,.int i=>atI ds i
 |.fz ns,.int i=>(atI ns i).map D.int
 |_,_=>none
theorem IsL.atI {A:Addr->Prop} {H:Hp} {ds:List D} {xs:List V} {i:Int} {d:D} (h:IsL K A H ds xs) (e:L2.atI ds i=some d):∃v,L2.atI xs i=some v/\Is K A H d v:=by
 unfold L2.atI at e |-
 rw[h.length]
 cases e1:ixN ds.length i with
 |none=>rw[e1]at e;cases e
 |some j=>
  rw[e1]at e
  exact h.get e
theorem qD:OpS K ixD (λx y H Q=>qoo K x y H Q\/qop K x y H Q):=by
 intro A H x y d v u Q hn ix iy e k
 cases x<;>cases y<;>simp only[ixD]at e<;>try (cases e;done)
 ·rename_i ds i
  cases iy
  obtain⟨a,xs,rfl,ta,il⟩:=ix
  obtain⟨w,h1,h2⟩:=il.atI e
  exact .inr ⟨a,xs,i,w,rfl,rfl,ta.sq,h1,k w H (jE.refl H) h2⟩
 ·rename_i ds i
  cases iy
  obtain⟨a,xs,rfl,_,ta,il⟩:=ix
  obtain⟨w,h1,h2⟩:=il.atI e
  exact .inl ⟨a,xs,i,w,rfl,rfl,.inl (.inl ta),h1,k w H (jE.refl H) h2⟩
 ·rename_i ns i
  cases iy
  obtain⟨a,rfl,ta⟩:=ix
  cases e1:L2.atI ns i with
  |none=>rw[e1]at e;cases e
  | some m=>
   rw[e1]at e
   cases e
   have h1:L2.atI (ns.map V.int) i=some (V.int m):=by
    unfold L2.atI at e1 |-
    rw[lM_]
    cases e2:ixN ns.length i with
    |none=>rw[e2]at e1;cases e1
    |some j=>
     rw[e2]at e1
     have e3:ns[j]? = some m:=e1
     show(ns.map V.int)[j]? = some (V.int m)
     rw[gM_,e3];rfl
   exact .inl ⟨a,_,i,.int m,rfl,rfl,ta.sq,h1,k _ H (jE.refl H) rfl⟩
theorem IsL.inv1 {A:Addr->Prop} {H:Hp} {d:D} {vs:List V} (h:IsL K A H [d] vs):∃v,vs=[v]/\Is K A H d v:=by
 obtain⟨x,ys,e1,e2,e3⟩:=h
 have e3':ys=[]:=e3
 exact⟨x,by rw[e1,e3'],e2⟩
theorem IsL.inv2 {A:Addr->Prop} {H:Hp} {d d':D} {vs:List V} (h:IsL K A H [d,d'] vs):∃v w,vs=[v,w]/\Is K A H d v/\Is K A H d' w:=by
 obtain⟨x,ys,e1,e2,e3⟩:=h
 obtain⟨w,e4,e5⟩:=IsL.inv1 e3
 exact⟨x,w,by rw[e1,e4],e2,e5⟩
def qqe:List D->Option D
 | [.int i]=>some (.int (if i<0 then -i else i))
 |_=>none
def qkE:List D->Option D
 | [.int i,.int j]=>some (.int (if j>i then j else i))
 |_=>none
def qbh:List D->Option D
 | [.int i,.int j]=>some (.int (if j<i then j else i))
 |_=>none
theorem qgs:uP K qkE (λxs H Q=>∃i j,xs=[.int i,.int j]/\Q (.int (if j>i then j else i)) H):=by
 intro A H xs d vs Q hn h e k
 unfold qkE at e
 split at e
 ·rename_i i j
  obtain⟨v,w,rfl,e2,e3⟩:=IsL.inv2 h
  cases e2;cases e3;cases e
  exact⟨i,j,rfl,k _ H (jE.refl H) rfl⟩
 ·cases e
theorem qcy:uP K qbh (λxs H Q=>∃i j,xs=[.int i,.int j]/\Q (.int (if j<i then j else i)) H):=by
 intro A H xs d vs Q hn h e k
 unfold qbh at e
 split at e
 ·rename_i i j
  obtain⟨v,w,rfl,e2,e3⟩:=IsL.inv2 h
  cases e2;cases e3;cases e
  exact⟨i,j,rfl,k _ H (jE.refl H) rfl⟩
 ·cases e
def qaB:List D->Option D
 | [.int i,.int j]=>if qff i j then some (.tup [.int (i/j),.int (i%j)])else none
 |_=>none
theorem qcz:uP K qaB (λxs H Q=>∃i j,xs=[.int i,.int j]/\qml i j/\∀p,H p=none->Q (.ref p) (upd H p (.tup [.int (i/j),.int (i%j)]))):=by
 intro A H xs d vs Q hn h e k
 unfold qaB at e
 split at e
 ·rename_i i j
  obtain⟨v,w,rfl,e2,e3⟩:=IsL.inv2 h
  cases e2;cases e3
  obtain⟨e6,e7⟩:=jj e
  subst e7
  exact⟨i,j,rfl,qd5 e6,λp hp=>k _ _ (qx hp _) ⟨p,_,rfl,.inl qu,_,_,rfl,rfl,_,_,rfl,rfl,rfl⟩⟩
 ·cases e
def qpZ:List D->Option D
 | [.int i]=>some (.int i)
 | [.bl b]=>some (.int (if b then 1 else 0))
 |_=>none
def uk:List D->Option D
 | [.tup ds]=>some (.int ds.length)
 | [.lst ds]=>some (.int ds.length)
 | [.fz ns]=>some (.int ns.length)
 | [.str x]=>if qW x.length then some (.int x.length)else none
 |_=>none
def qpl(K:Fr0):List V->Hp->VK->Prop:=λxs H Q=>(∃p ys,xs=[.ref p]/\(SqL K H p ys\/SqT K H p ys)/\Q (.int ys.length) H)\/(∃z,xs=[.str z]/\z.length<=yai/\Q (.int z.length) H)
theorem z5{X:Cx}:jN X (.builtin "len") (qpl X.K):=jN.or qcs qct
theorem z6:uP K uk (qpl K):=by
 intro A H xs d vs Q hn h e k
 unfold uk at e
 split at e
 ·obtain⟨v,rfl,a,zs,rfl,ta,il⟩:=IsL.inv1 h
  cases e
  exact .inl ⟨a,zs,rfl,.inr ta.sq,by rw[il.length];exact k _ H (jE.refl H) rfl⟩
 ·obtain⟨v,rfl,a,zs,rfl,_,ta,il⟩:=IsL.inv1 h
  cases e
  exact .inl ⟨a,zs,rfl,.inl (.inl (.inl ta)),by rw[il.length];exact k _ H (jE.refl H) rfl⟩
 ·obtain⟨v,rfl,a,rfl,ta⟩:=IsL.inv1 h
  cases e
  exact .inl ⟨a,_,rfl,.inl ta.sq,by rw[lM_];exact k _ H (jE.refl H) rfl⟩
 ·rename_i z
  obtain⟨v,rfl,e2⟩:=IsL.inv1 h
  cases e2
  obtain⟨e4,e5⟩:=jj e
  subst e5
  exact .inr ⟨z,rfl,of_decide_eq_true e4,k _ H (jE.refl H) rfl⟩
 ·cases e
def v3:List D->Option D
 | [.tup ds]=>some (.tup ds)
 | [.lst ds]=>some (.tup ds)
 |_=>none
theorem vL:uP K v3 (λxs H Q=>∃p ys,xs=[.ref p]/\((SqL K H p ys/\∀l,H l=none->Q (.ref l) (upd H l (.tup ys)))\/(SqT K H p ys/\Q (.ref p) H))):=by
 intro A H xs d vs Q hn h e k
 unfold v3 at e
 split at e
 ·obtain⟨v,rfl,a,zs,rfl,ta,il⟩:=IsL.inv1 h
  cases e
  exact⟨a,zs,rfl,.inr ⟨ta.sq,k _ H (jE.refl H) ⟨a,zs,rfl,ta,il⟩⟩⟩
 ·obtain⟨v,rfl,a,zs,rfl,_,ta,il⟩:=IsL.inv1 h
  cases e
  exact⟨a,zs,rfl,.inl ⟨.inl (.inl ta),λl hl=>k _ _ (qx hl _) ⟨l,zs,rfl,.inl qu,IsL.ext (Ext.of_same (qx hl _)) (λ_ h _=>h) il⟩⟩⟩
 ·cases e
def qdl:List D->Option D
 | [.tup ds]=>some (.lst ds)
 | [.lst ds]=>some (.lst ds)
 |_=>none
theorem qfg:uP K qdl (λxs H Q=>∃p ys,xs=[.ref p]/\(SqL K H p ys\/SqT K H p ys)/\∀l,H l=none->Q (.ref l) (upd H l (.lst ys))):=by
 intro A H xs d vs Q hn h e k
 unfold qdl at e
 split at e
 ·obtain⟨v,rfl,a,zs,rfl,ta,il⟩:=IsL.inv1 h
  cases e
  exact⟨a,zs,rfl,.inr ta.sq,λl hl=>k _ _ (qx hl _) ⟨l,zs,rfl,hn l hl,qu,IsL.ext (Ext.of_same (qx hl _)) (λ_ h _=>h) il⟩⟩
 ·obtain⟨v,rfl,a,zs,rfl,_,ta,il⟩:=IsL.inv1 h
  cases e
  exact⟨a,zs,rfl,.inl (.inl (.inl ta)),λl hl=>k _ _ (qx hl _) ⟨l,zs,rfl,hn l hl,qu,IsL.ext (Ext.of_same (qx hl _)) (λ_ h _=>h) il⟩⟩
 ·cases e
end
end L2.Sk
namespace L2.Sk
open PySem PySem.Spec PySem.Calls PyProof.Rows PySem.W
def qjy(h:Heap)(a D:Addr):Prop:=∃o,h.get? a=some o/\o.cls=.ref D
theorem qjy.looks {M:Model} {h:Heap} {a D:Addr} (I:qjy h a D):Looks M h (typeOf (.ref a)) (.ref D):=by
 obtain⟨o,h1,h2⟩:=I
 rw[<-h2]
 exact(Looks.ld h1).andThen .now
section
variable{prog:yan}{w:World}{A:yav}{E:Value->yab->Prop}{K:Frag}{h:Heap}{g:Array GenState}{d:Drawn}{t:Nat}{os:OsState}{a D:Addr}
theorem qmI (hm:mroIn K D (.type "object")=some true) {tp:Value} {R:yek->yab->Prop} (X:K.In h) (I:qjy h a D) (hq:R (.ok (.ret (.ref D))) ⟨h,g,d,t,os⟩) :
  ybR (model prog w) A (.call (.builtin "getset_descriptor.__get__") ⟨[.builtin "object.__class__",.ref a,tp],[]⟩) R ⟨h,g,d,t,os⟩:=by
 have L0:=I.looks (M:=model prog w)
 have L1:=looks_mroIn (M:=model prog w) X hm
 have hT5:(⟨h,g,d,t,os⟩:yab).TypeIs (.builtin "object.__class__") "getset_descriptor":=ydj
 refine yfm F.slot_gs_get.plain F.entry_gs_get (F.slot_gs_get.check _ _ _ _ _ _ _ _ hT5 (F.args_gs_get _ _ _) ?_)
 have eo:".".intercalate ("object.__class__".cutAt '.').dropLast="object":=by decide +kernel
 repeat (any_goals (first|assumption|with_reducible refine L0.at ?_|with_reducible refine L1.at ?_|wp_step))
 rw[eo]
 refine L1.at ?_
 repeat (any_goals (first|assumption|with_reducible refine L0.at ?_|wp_step))
 refine⟨Code.quiet_builtin _ (by decide +kernel),ycg F.entry_object_class ?_⟩
 repeat (any_goals (first|assumption|with_reducible refine L0.at ?_|wp_step))
theorem qii (ha:findIn K (.ref D) "__class__"=some (some (.builtin "object.__class__"))) (hm:mroIn K D (.type "object")=some true) {tk:Tok} {Q:Fin->yab->Prop} (X:K.In h) (I:qjy h a D) (hq:Q (.done (.ret (.ref D))) ⟨h,g,d,t,os⟩) :
  wpAny (model prog w) A (yb0.«object.__getattribute__» ⟨[.ref a,.str "__class__" tk],[]⟩) Q E ⟨h,g,d,t,os⟩:=by
 have L0:=I.looks (M:=model prog w)
 have L1:=looks_findIn (M:=model prog w) X ha
 have hT5:(⟨h,g,d,t,os⟩:yab).TypeIs (.builtin "object.__class__") "getset_descriptor":=ydj
 have f5:=ydj
 have f6:=F.slot_gs_get.lookup
 have f7:=F.slot_gs_set.lookup
 repeat (any_goals (first|assumption|with_reducible refine L0.at ?_|with_reducible refine L1.at ?_|wp_step))
 refine qmI hm X I ?_
 repeat (any_goals (first|assumption|wp_step))
theorem qij (hb:Looks (model prog w) h (isSubtype (.ref D) (.type "BaseException")) true) {nameV:Value} {Q:Unit->yab->Prop} (I:qjy h a D) (hq:Q () ⟨h,g,d,t,os⟩):wpAny (model prog w) A (checkBuiltinCall "BaseException.__getattribute__" ⟨[.ref a,nameV],[]⟩) Q E ⟨h,g,d,t,os⟩:=by
 have hk:builtinKind "BaseException.__getattribute__"=some .slot:=by decide +kernel
 have hsplit:splitId "BaseException.__getattribute__"=some ("BaseException","__getattribute__"):=by decide +kernel
 have L0:=I.looks (M:=model prog w)
 have ha:=F.args_bexc_ga (.ref a) nameV
 simp only[checkBuiltinCall,hk,hsplit]
 refine yaa ?_
 ·unfold isInstance
  repeat (first|with_reducible refine L0.at ?_|with_reducible refine hb.at ?_|wp_step)
  exact hq
theorem qou (FA:ExcAttrFacts "ValueError") (hga:findIn K (.ref D) "__getattribute__"=some (some (.builtin "BaseException.__getattribute__"))) (hgt:findIn K (.ref D) "__getattr__"=some none) (ha:findIn K (.ref D) "__class__"=some (some (.builtin "object.__class__"))) (hm:mroIn K D (.type "object")=some true)
  (hb:Looks (model prog w) h (isSubtype (.ref D) (.type "BaseException")) true) {tk:Tok} {fill expr:Bool} {Q:Value->yab->Prop} (X:K.In h) (I:qjy h a D) (hq:Q (.ref D) ⟨h,g,d,t,os⟩) :
  wpAny (model prog w) A (getAttrBy (.ref a) (.str "__class__" tk) fill expr) Q E ⟨h,g,d,t,os⟩:=by
 have L0:=I.looks (M:=model prog w)
 have L1:=looks_findIn (M:=model prog w) X hga
 have L2:=looks_findIn (M:=model prog w) X hgt
 have f3:=FA.ga.bind (.ref a)
 have hx0:(expr&&onTheHeap (yda "BaseException.__getattribute__"))=false:=by cases expr<;>rfl
 have hx2:(yda "BaseException.__getattribute__"==yda "object.__getattribute__")=false:=by decide +kernel
 have hx1:(onTheHeap (yag D)&&yda "BaseException.__getattribute__"==yda "object.__getattribute__")=false:=by rw[hx2];rfl
 repeat (any_goals (first|assumption|with_reducible refine L0.at ?_|with_reducible refine L1.at ?_|with_reducible refine L2.at ?_|wp_step))
 refine yfm FA.ga.plain F.entry_bexc_ga (qij hb I (qii ha hm X I ?_))
 repeat (any_goals (first|assumption|wp_step))
theorem qkF (FA:ExcAttrFacts "ValueError") (hga:findIn K (.ref D) "__getattribute__"=some (some (.builtin "BaseException.__getattribute__"))) (hgt:findIn K (.ref D) "__getattr__"=some none) (ha:findIn K (.ref D) "__class__"=some (some (.builtin "object.__class__"))) (hm:mroIn K D (.type "object")=some true)
  (hb:Looks (model prog w) h (isSubtype (.ref D) (.type "BaseException")) true) {Q:Option Value->yab->Prop} (X:K.In h) (I:qjy h a D) (hq:Q (some (.ref D)) ⟨h,g,d,t+1,os⟩) :
  wpAny (model prog w) A (getAttr? (.ref a) "__class__") Q E ⟨h,g,d,t,os⟩:=by
 unfold getAttr? getAttrBy?
 repeat (any_goals (first|assumption|with_reducible apply qou FA hga hgt ha hm hb X I|wp_step))
end
theorem qik {K:Frag} {a D:Addr} (c:XK6 K D):KitX K (.ref a) (.ref D) (λh=>qjy h a D) where
 ty:=λ_ _ _ I=>I.looks
 it := λ_ _ X _=>by
  obtain⟨cdD,hcD⟩:=Option.isSome_iff_exists.mp c.is
  unfold clsIn at hcD
  split at hcD
  ·rename_i c' d' cd' sl' ho
   intro A' Q' E' s' k q
   unfold isType loadHead
   exact yaa (wpAny_loadPart (k _ _ (X _ _ ho)) (yac q))
  ·cases hcD
 ne := λh tp dd its n sl X htp=>by
  obtain⟨cdD,hcD⟩:=Option.isSome_iff_exists.mp c.is
  refine Bool.eq_false_iff.mpr λq=>?_
  have e:D=tp:=Value.ref.inj (beq_iff_eq.mp q)
  subst e
  unfold clsIn at hcD
  split at hcD
  ·rename_i c' d' cd' sl' ho
   have z:=(X _ _ ho).symm.trans htp
   cases z
  ·cases hcD
 ca:=λ{prog w A E Q s} X p k=>by
  have I:=p
  obtain⟨h,g,d,t,os⟩:=s
  exact qkF PySem.F.attrBase_ValueError.toExcAttrFacts c.ga c.gt c.cl c.ob (looks_subIn X c.be) X I k
theorem qfh {X:Cx} {pins:List (Addr×Obj)} {σ:St} {H:Hp} {s:yab} {A:yav} {E:Value->yab->Prop} {Q:Value->yab->Prop} {a C:Addr} {c:Value} {b:Bool} (I:Inv X pins σ H s) (xc:XK6 X.K C) (hH:∃o vs,H a=some (.frz o (.own a))/\o.cls=.ref C/\o.data=.fields vs)
  (e:kitOne X.K (.ref C) c=some b) (h:∀tk,Q (.bool b) {s with toks:=tk}):wpAny (model X.prog X.w) A (call (.builtin "isinstance") [.ref a,c]) Q E s:=by
 obtain⟨o,vs,h1,h2,_⟩:=hH
 obtain⟨p,_⟩:=(show jd X.prog X.w H s.heap a (.frz o (.own a))from I.hok a _ h1)
 exact kia_one (qik xc) I.kIn ⟨o,p,h2⟩ e (λz=>nomatch z) h
end L2.Sk
namespace L2.Sk
open PySem PySem.Spec PyProof.Rows
def tyD:D->String
 |.non=>"NoneType"
 |.bl _=>"bool"
 |.int _=>"int"
 |.str _=>"str"
 |.tup _=>"tuple"
 |.lst _=>"list"
 |.dic _=>"dict"
 |.fz _=>"list"
 |.exc _=>"exc"
def qcA(t T:String):Bool:=t==T||(t=="bool"&&T=="int")
def qfi:List String:=["NoneType","bool","int","str","tuple","list","dict"]
theorem qkG (d:D) (h:∀C,d ≠ .exc C):tyD d∈qfi:=by
 cases d<;>first|(simp[tyD,qfi];done)|exact absurd rfl (h _)
structure qlY (K:Fr0) (T:String):Prop where
 ok:∀t∈qfi,ye5 K (.type t) (.type T)=some (qcA t T)
 ex:T∈["int","bool","str","tuple","list","dict"]
 nx:qcA "exc" T=false
theorem qgt {K:Fr0}:qlY K "int":=⟨λt ht=>by
 simp only[qfi,yax,nN_,or_false]at ht
 rcases ht with rfl|rfl|rfl|rfl|rfl|rfl|rfl<;>kernel_rfl,by decide,by decide⟩
theorem qd7 {K:Fr0}:qlY K "bool":=⟨λt ht=>by
 simp only[qfi,yax,nN_,or_false]at ht
 rcases ht with rfl|rfl|rfl|rfl|rfl|rfl|rfl<;>kernel_rfl,by decide,by decide⟩
theorem v4 {K:Fr0}:qlY K "tuple":=⟨λt ht=>by
 simp only[qfi,yax,nN_,or_false]at ht
 rcases ht with rfl|rfl|rfl|rfl|rfl|rfl|rfl<;>kernel_rfl,by decide,by decide⟩
section
variable{X:Cx}{pins:List (Addr×Obj)}{σ:St}{H:Hp}{s:yab}{A:Addr->Prop}{E:Value->yab->Prop}{Q:Value->yab->Prop}
theorem qmJ {d:D} {v:V} {u:Value} {T:String} (I:Inv X pins σ H s) (h:Is X.K A H d v) (rv:zY v u) (kt:qlY X.K T) (hQ:∀tk,Q (.bool (qcA (tyD d) T)) {s with toks:=tk}) :
  wpAny (model X.prog X.w) X.A (call (.builtin "isinstance") [u,.type T]) Q E s:=by
 by_cases hx:∃C,d=.exc C
 ·obtain ⟨C,rfl⟩:=hx
  obtain⟨a,rfl,xa⟩:=h
  cases (show u=yag a from rv)
  have q:∀tk,Q (.bool false) {s with toks:=tk}:=λtk=>by
   have:=hQ tk
   rw[show tyD (.exc C)="exc" from rfl,kt.nx]at this
   exact this
  obtain⟨D0,h0,h1,h2⟩:=xa
  exact qfh I h1 h2 (h1.no T kt.ex) q
 have e:=kt.ok (tyD d) (qkG d λC hC=>hx ⟨C,hC⟩)
 cases d with
 |exc C=>exact absurd ⟨C,rfl⟩ hx
 |non=>cases h;exact yY I rv .non e hQ
 |bl b=>cases h;exact yY I rv (.bl b) e hQ
 |int i=>cases h;exact yY I rv (.int i) e hQ
 |str x=>cases h;exact yY I rv (.str x) e hQ
 |tup ds=>
  obtain⟨a,xs,rfl,ta,il⟩:=h
  cases (show u=yag a from rv)
  obtain⟨its,r,p,z⟩:=I.tuple ta.sq
  obtain⟨o,h1,h2,_⟩:=p
  exact yaT yfJ I.kIn ⟨o,h1,h2⟩ e (λz=>nomatch z) hQ
 |lst ds=>
  obtain⟨a,xs,rfl,hA,ta,il⟩:=h
  exact yY I rv (.lst ta) e hQ
 |dic kvs=>
  obtain⟨a,rfl,hA,ta⟩:=h
  exact yY I rv (.dK ta) e hQ
 |fz ns=>
  obtain⟨a,rfl,ta⟩:=h
  cases (show u=yag a from rv)
  obtain⟨its,r,p,z⟩:=I.list ta.sq
  obtain⟨o,h1,h2,_⟩:=p.isList
  exact yaT yd3 I.kIn ⟨o,h1,h2⟩ e (λz=>nomatch z) hQ
end
def qdm(T:String)(f:M D):M D:=bnd f λd=>ret (.bl (qcA (tyD d) T))
section
variable{X:Cx}{c:Fc}{a b e:Expr}{pos:Pos}
def qp0(K:Fr0)(T:String):List V->Hp->VK->Prop:=λxs H Q=>∃v d A,xs=[v,.ty T]/\Is K A H d v/\Q (.bl (qcA (tyD d) T)) H
theorem qil {T:String} (kt:qlY X.K T):jN X (.builtin "isinstance") (qp0 X.K T):=by
 intro pins s σ H xs us Q I r h
 obtain⟨v,d,A,rfl,hi,q⟩:=h
 obtain⟨u,w,rfl,r1,r2⟩:=zt.two r
 cases (show w=yca T from r2)
 exact qmJ I hi r1 kt λtk=>⟨.bl _,H,I.tok tk,rfl,q⟩
theorem wY {T:String} {x:Str} {p p2:Pos} {f:M D} (kt:qlY X.K T) (hg:Gl X "isinstance") (hm:X.mg "isinstance"=none) (hg2:Gl X x) (hm2:X.mg x=none) (hv2:yaA x=some (.type T)) (ha:DE X c a f)
  (hv:yaA "isinstance"=some (.builtin "isinstance"):=by first|rfl|exact PySem.boot_isinstance) (hn2:x≠"__name__":=by decide) (hdb2:(x==("__debug__":Str))=false:=by decide)
  (he:yah [a,.Name x p2] X.env=(false,eval a X.env)::yah [.Name x p2] X.env:=by rfl) (hpl:(yaX pos (yah [.Name x p2] X.env)).any (·.1)=false:=by rfl):DE X c (.Call (.Name "isinstance" p) [a,.Name x p2] [] pos) (qdm T f):=by
 obtain⟨t,pa,w⟩:=ha
 refine⟨_,qbD (qil kt) hg hm hv (yS pa (yS (qkg (v:=.ty T) hg2 hm2 hv2 rfl hn2 hdb2) qar (by rfl)) he) (by decide) (by decide) he hpl,λρ σ H Q r h=>w ρ σ H _ r (Wp.bnd h λd ρ1 v H1 r1 i1 g1 h1=>?_)⟩
 exact⟨v,d,_,rfl,i1,h1 _ H1 r1 rfl .refl⟩
end
def uH:List D->Option (List Bool)
 | []=>some []
 |.bl b::r=>(uH r).map (b::·)
 |_=>none
def y7:List D->Option (List Int)
 | []=>some []
 |.int i::r=>(y7 r).map (i::·)
 |_=>none
theorem qaC {K:Fr0} {A:Addr->Prop} {H:Hp}:∀{ds:List D}{xs:List V}{bs:List Bool},IsL K A H ds xs->uH ds=some bs->xs=bs.map V.bl
 | [],_,_,h,e=>by cases e;exact h
 | .bl b::r,_,bs,⟨x,ys,hx,h1,h2⟩,e=>by
  cases h1
  cases e1:uH r with
  |none=>simp[uH,e1]at e
  |some l=>
   simp[uH,e1]at e
   subst e
   rw[hx,qaC h2 e1];rfl
 |.non::_,_,_,_,e=>by cases e
 |.int _::_,_,_,_,e=>by cases e
 |.str _::_,_,_,_,e=>by cases e
 |.tup _::_,_,_,_,e=>by cases e
 |.lst _::_,_,_,_,e=>by cases e
 |.dic _::_,_,_,_,e=>by cases e
 |.fz _::_,_,_,_,e=>by cases e
 |.exc _::_,_,_,_,e=>by cases e
theorem y8 {K:Fr0} {A:Addr->Prop} {H:Hp}:∀{ds:List D}{xs:List V}{bs:List Int},IsL K A H ds xs->y7 ds=some bs->xs=bs.map V.int
 | [],_,_,h,e=>by cases e;exact h
 | .int b::r,_,bs,⟨x,ys,hx,h1,h2⟩,e=>by
  cases h1
  cases e1:y7 r with
  |none=>simp[y7,e1]at e
  |some l=>
   simp[y7,e1]at e
   subst e
   rw[hx,y8 h2 e1];rfl
 |.non::_,_,_,_,e=>by cases e
 |.bl _::_,_,_,_,e=>by cases e
 |.str _::_,_,_,_,e=>by cases e
 |.tup _::_,_,_,_,e=>by cases e
 |.lst _::_,_,_,_,e=>by cases e
 |.dic _::_,_,_,_,e=>by cases e
 |.fz _::_,_,_,_,e=>by cases e
 |.exc _::_,_,_,_,e=>by cases e
theorem qim {bs:List Bool}:∀{us:List Value},zt (bs.map V.bl) us->LSm.BoolsAre us bs:=by
 induction bs with
 |nil=>intro us r;rw[ycP]at r;cases r;exact .nil
 | cons b bs ih=>
  intro us r
  rw[mC_]at r
  cases r with
  |cons r1 r2=>
   cases (show _=ybp b from r1)
   exact .cons b (ih r2)
section
variable{X:Cx}
theorem qaj (hc:X.calm=true):jN X (.builtin "all") (λxs H Q=>∃(p:Addr)(bs:List Bool),xs=[.ref p]/\H p=some (.lst (bs.map V.bl))/\Q (.bl (bs.all id)) H):=by
 intro pins s σ H xs us Q I r h
 obtain⟨p,bs,rfl,hp,q⟩:=h
 obtain⟨u,rfl,ru⟩:=zt.one r
 cases ru
 obtain⟨its,rv,pl,hz⟩:=I.list (SqL.of hp)
 have hl:=pl.isList
 have hb:=qim rv
 have hlt:p<s.heap.objs.size:=by obtain⟨_,e,_⟩:=hl;exact yae e
 refine call_all_walk (ybV hl ?_)
 refine ⟨s.heap.objs.size,[s.heap.objs.size,p],[s.heap.objs.size],its.toArray.size,_,_,λi=>(bs[i]?).getD true,rfl,Walks.list (A:=X.A.in1) (I.ok.hd hc) _ p (yao hlt) its.toArray,
  ⟨⟨_,Heap.get?_push_size _ rfl,rfl,rfl⟩,hl.push _⟩,λi v s' Q' E' hP hQ=>?_,λh' tk hk=>?_⟩
 ·obtain⟨b,e,rfl⟩:=hb.get i v (by simpa using hP)
  simp only[e,Option.getD_some]at hQ
  exact ybr hQ
 ·have e:((yap its.toArray.size).all λi=>(bs[i]?).getD true)=bs.all id:=by
   rw[sT_,hb.length];exact LSm.range_all bs
  rw[e]
  exact⟨.bl _,H,I.kept (LSm.kept_iter hk),rfl,q⟩
end
def qc8:List D->Option D
 | [.lst ds]=>(uH ds).map λbs => .bl (bs.all id)
 |_=>none
section
variable{K:Fr0}
theorem v5:uP K qc8 (λxs H Q=>∃(p:Addr)(bs:List Bool),xs=[.ref p]/\H p=some (.lst (bs.map V.bl))/\Q (.bl (bs.all id)) H):=by
 intro A H xs d vs Q hn h e k
 unfold qc8 at e
 split at e
 ·obtain⟨v,rfl,a,zs,rfl,_,ta,il⟩:=IsL.inv1 h
  obtain⟨bs,h1,h2⟩:=Option.map_eq_some_iff.mp e
  subst h2
  rw[qaC il h1]at ta
  exact⟨a,bs,rfl,ta,k _ H (jE.refl H) rfl⟩
 ·cases e
end
section
variable{X:Cx}
def qjz(K:Fr0):R2:=λx y H Q=>∃a b ys,x=.ref a/\y=.ref b/\SqT K H a []/\SqT K H b ys/\Q (.ref b) H
theorem qin:OpR X (ya8 .Add) (qjz X.K):=by
 intro pins s σ H x y v u Q I rx ry h
 obtain⟨a,b,ys,rfl,rfl,ha,hb,q⟩:=h
 cases rx
 cases ry
 obtain⟨its,r1,p1,_⟩:=I.tuple ha
 obtain⟨its2,r2,p2,_⟩:=I.tuple hb
 cases r1
 obtain⟨⟨cls,dd,data,sl⟩,ho,hc,n,hd⟩:=id p1
 obtain⟨⟨cls2,dd2,data2,sl2⟩,ho2,hc2,n2,hd2⟩:=id p2
 simp only at hc hd hc2 hd2
 subst hc hd hc2 hd2
 exact yfO ⟨_,ho,rfl⟩ ⟨_,ho2,rfl⟩ yem yfx yc3 ycU (ycM _ _)
   (tuple_addW0 a b [].toArray its2.toArray n n2 dd dd2 sl sl2 (by simp)) ⟨ho,ho2,⟨.ref b,H,I,rfl,q⟩⟩
def qmK(K:Fr0):R2:=λx y H Q=>(∃i j,x=.int i/\y=.int j/\Q (.int (i+j)) H)\/((∃i j,x=.str i/\y=.str j/\i.length+j.length<=yai/\Q (.str (i++j)) H)\/(qjz K x y H Q\/(qmu K x y H Q\/qpi x y H Q)))
theorem ze:OpR X (ya8 .Add) (qmK X.K):=OpR.or qjq (OpR.or qe9 (OpR.or qin (OpR.or qkt qmA)))
end
def zb:D->D->Option D
 |.int i,.int j=>some (.int (i+j))
 |.str x,.str y=>if qW (x.length+y.length)then some (.str (x++y))else none
 |.tup xs,.tup ys=>if qW (xs.length+ys.length)then some (.tup (xs++ys))else none
 |.lst xs,.lst ys=>if qW (xs.length+ys.length)then some (.lst (xs++ys))else none
 |_,_=>none
theorem zf {K:Fr0}:OpS K zb (qmK K):=by
 intro A H x y d v u Q hn ix iy e k
 cases x<;>cases y<;>simp only[zb]at e<;>try (cases e;done)
 ·rename_i i j
  cases ix;cases iy;cases e
  exact .inl ⟨i,j,rfl,rfl,k _ H (jE.refl H) rfl⟩
 ·rename_i i j
  cases ix;cases iy
  obtain⟨e1,e2⟩:=jj e
  subst e2
  exact .inr (.inl ⟨i,j,rfl,rfl,of_decide_eq_true e1,k _ H (jE.refl H) rfl⟩)
 ·rename_i ds es
  obtain⟨a,xs,rfl,ta,il⟩:=ix
  obtain⟨b,ys,rfl,tb,jl⟩:=iy
  obtain⟨e1,e2⟩:=jj e
  subst e2
  have hs:xs.length+ys.length<=yai:=by rw[il.length,jl.length];exact of_decide_eq_true e1
  refine .inr (.inr ?_)
  cases ds with
  |nil=>
   have hx:xs=[]:=il
   subst hx
   exact .inl ⟨a,b,ys,rfl,rfl,ta.sq,tb.sq,k _ H (jE.refl H) ⟨b,ys,rfl,tb,jl⟩⟩
  | cons d0 ds=>
   refine .inr (.inl ⟨a,b,xs,ys,rfl,rfl,ta.sq,tb.sq,?_,hs,λhy=>?_,λhy p hp=>?_⟩)
   ·obtain⟨x,zs,hx,_⟩:=il
    rw[hx];simp
   ·subst hy
    cases es with
    |nil=>rw[ybS]at k;exact k _ H (jE.refl H) ⟨a,xs,rfl,ta,il⟩
    |cons e0 es=>obtain⟨_,_,hx,_⟩:=jl;cases hx
   ·exact k _ _ (qx hp _) ⟨p,xs++ys,rfl,.inl qu,IsL.ext (Ext.of_same (qx hp _)) (λ_ h _=>h) (IsL.append il jl)⟩
 ·rename_i ds es
  obtain⟨a,xs,rfl,hA,ta,il⟩:=ix
  obtain⟨b,ys,rfl,hB,tb,jl⟩:=iy
  obtain⟨e1,e2⟩:=jj e
  subst e2
  have hs:xs.length+ys.length<=yai:=by rw[il.length,jl.length];exact of_decide_eq_true e1
  exact .inr (.inr (.inr (.inr ⟨a,b,xs,ys,rfl,rfl,ta,tb,hs,λp hp=>k _ _ (qx hp _) ⟨p,xs++ys,rfl,hn p hp,qu,IsL.ext (Ext.of_same (qx hp _)) (λ_ h _=>h) (IsL.append il jl)⟩⟩)))
section
variable{X:Cx}
def qpm(K:Fr0):V->Option Int->Option Int->Hp->VK->Prop:=λx lo hi H Q=>∃a xs,x=.ref a/\SqT K H a xs/\(HT.sIx xs.length 0 lo=0/\HT.sIx xs.length xs.length hi=xs.length)/\Q (.ref a) H
theorem vM {prog:yan} {w:World} {A:yav} {E:Value->yab->Prop} {s:yab} {t sl:Addr} {items:Array Value} {vl vu:Value} {lo hi:Option Int} {Q:Value->yab->Prop} (ht:IsTup s.heap t items) (hs:s.heap.IsSliceOf sl vl vu .none) (pl:ycN vl lo) (pu:ycN vu hi)
  (hw:HT.sIx items.size 0 lo=0/\HT.sIx items.size items.size hi=items.size) (h:Q (.ref t) s):wpAny (model prog w) A (yb1 (.ref t) (.ref sl)) Q E s:=by
 obtain⟨os,hos,hcs,hds⟩:=id hs
 have hTs:s.TypeIs (.ref sl) "slice":=⟨os,hos,hcs⟩
 unfold yb1
 try with_reducible refine ya0 ?_
 first|refine yaa (yac ?_)|skip
 refine yaa (yd4 ht.typeIs (by decide) ?_)
 refine yaa (wpAny_callSpecial?_slot (name:=ybb "__getitem__") ht.typeIs yaY
  (ybL yaY ht.typeIs ydy ?_ (ydK _ _)))
 show wpAny _ _ (ycv (.ref t) >>= _) _ _ s
 refine yaa (yfy ht ?_)
 refine yaa (ydq hTs ?_)
 rw[if_pos (by decide)]
 refine yaa (HT.sliceApplied_gen hs pl pu ?_)
 have hyes:(((HT.sIx items.size 0 lo:Nat):Int)==0&&(1:Int)==1&&(HT.sIx items.size items.size hi-HT.sIx items.size 0 lo)==items.size)=true:=by
  rw[hw.1,hw.2];simp
 show wpAny _ _ (if(((HT.sIx items.size 0 lo:Nat):Int)==0&&(1:Int)==1&&(HT.sIx items.size items.size hi-HT.sIx items.size 0 lo)==items.size)=true then _ else _) _ _ s
 rw[if_pos hyes]
 refine yaa (m:=ydV (.ref t)) ?_
 unfold ydV
 refine yaa (ydq ht.typeIs ?_)
 refine yac ?_
 rw[if_pos (by decide)]
 exact yaa (ydp (yac ⟨_,rfl,yac h⟩))
theorem qio:SlR X (qpm X.K):=by
 intro pins s σ H x v vl vu lo hi sl Q I rx hs pl pu h
 obtain⟨a,xs,rfl,hx,hw,q⟩:=h
 cases rx
 obtain⟨its,r,ht,hz⟩:=I.tuple hx
 have hlen:its.toArray.size=xs.length:=by rw[sT_];exact r.length.symm
 refine⟨"tuple",_,PyProof.Rows.slot_tuple_getitem.lookup,ht.typeIs,?_⟩
 exact vM ht hs pl pu (by rw[hlen];exact hw) ⟨.ref a,H,I,rfl,q⟩
theorem qmL:SlR X (λx lo hi H Q=>qpm X.K x lo hi H Q\/qph X.K x lo hi H Q):=SlR.or qio sl_tup
end
def qfS(xs:List D)(lo hi:Option Int):List D:=(xs.drop (HT.sIx xs.length 0 lo)).take (HT.sIx xs.length xs.length hi-HT.sIx xs.length 0 lo)
def slD (x:D) (lo hi:Option Int):Option D:=match x with
 |.tup ds=>some (.tup (qfS ds lo hi))
 |_=>none
section
variable{X:Cx}{c:Fc}{a b e:Expr}{pos p2:Pos}
def DO(X:Cx)(c:Fc)(e:Option Expr)(f:M (Option Int)):Prop:=∃t,PO X e t/\∀ρ σ H Q,Rep X.K c ρ σ H->(∀o ρ',f ρ=.ok (o,ρ')->∀H',Rep X.K c ρ' σ H'->Gr c.O σ H H'->Q o H')->(∀x ρ',f ρ=.exc x ρ'->∀H',Rep X.K c ρ' σ H'->Gr c.O σ H H'->c.E x H')->f ρ ≠ .bad->t σ H Q
theorem qdn:DO X c none (ret none):=⟨_,qks,λρ σ H Q r h _ _=>h none ρ rfl H r .refl⟩
def asI:D->Option Int
 |.int i=>some i
 |_=>none
def qac (f:M D):M (Option Int):=bnd f λd=>match d with
 |.int i=>ret (some i)
 |_=>λ_ => .bad
theorem qdo {f:M D} (h:DE X c e f):DO X c (some e) (qac f):=by
 obtain⟨t,p,w⟩:=h
 refine⟨_,qgg p,λρ σ H Q r h1 h2 h3=>w ρ σ H _ r ?_⟩
 unfold qac bnd at h1 h2 h3
 cases e1:f ρ with
 |ok q=>
  obtain⟨d,ρ'⟩:=q
  rw[e1]at h1 h2 h3
  intro v H' r' i' g'
  cases d<;>simp only[ret]at h1 h2 h3<;>try (exact absurd rfl h3)
  rename_i i
  exact⟨i,i',h1 (some i) ρ' rfl H' r' g'⟩
 |exc x ρ'=>rw[e1]at h2;exact λH' r' g'=>h2 x ρ' rfl H' r' g'
 |bad=>rw[e1]at h3;exact absurd rfl h3
def dsl(f:M D)(g k:M (Option Int)):M D:=bnd f λd=>bnd g λl=>bnd k λu=>lift (slD d l u)
end
def zR (X:Cx) (scope:Scope) (N':List Str) (fp:List Addr) (cl:List (Str×Addr)) (C:Addr) (s₀:yab) (H₀:Hp) (pn:List (Addr×Obj)):Cx where
 prog:=X.prog
 w:=X.w
 K:=X.K
 mg:=X.mg
 base:=X.base
 A:=X.A
 N:=N'
 s₀:=s₀
 H₀:=H₀
 env:=yfn scope cl C X.env
 outer:=X.stack
 stack:=X.stack
 ex:=fp
 fn:=λ_=>false
 calm:=X.calm
 pn:=pn
 xe:=λ_ _=>False
def PF (X:Cx) (ifs:List Expr) (t:TT):Prop:=∀(pins:List (Addr×Obj))(s:yab)(σ:St)(H:Hp)(Q:Bool->Hp->Prop),Inv X pins σ H s->t σ H Q ->
 wpAny (model X.prog X.w) X.A (forIn ifs true λc r=>if r=true then do let ok <-isTrue c X.env (eval c X.env);pure (ybE ok)else pure (ybE r)) (TP X pins σ Q) X.xe s
theorem qmM{X:Cx}:PF X [] (λ_ H Q=>Q true H):=λpins s σ H Q I h=>wpAny_tests_nil ⟨H,I,h⟩
structure ya (X:Cx) (scope:Scope) (N':List Str) (nt:Nat) (fr:List Nat):Prop where
 kind:scope.kind=.function
 nocell:∀y∈scope.names,y.2 ≠ .cell
 names:∀y∈scope.names,y.2=.local->scope.names.lookup y.1=some .local
 frees:∀y∈scope.names,y.2=.free->X.env.kindOf y.1=some .cell
 len:N'.length=nt+fr.length
 slot:∀i j,fr[i]? = some j->∃x,N'[nt+i]? = some x/\X.N[j]? = some x/\scope.names.lookup x=some .free
theorem wF {env:ydk}:∀(names:List (Str×ydc))(cs:List (Str×Addr)),(∀y∈names,y.2=.free->∃a,env.cells.lookup y.1=some a)->(∀n a,cs.lookup n=some a->env.cells.lookup n=some a) ->
  ∃ cl,(forIn names cs λx r=>match x with|(name,kind)=>if(kind==ya1)=true then do let a <-cellOf env name;pure (ybE ((name,a)::r))else pure (ybE r):Sem (List (Str×Addr)))=pure cl /\
   (∀n a,cl.lookup n=some a->env.cells.lookup n=some a)/\(∀n,(∃a,cs.lookup n=some a)->∃a,cl.lookup n=some a)/\∀y∈names,y.2=.free->∃a,cl.lookup y.1=some a
 | [],cs,_,h=>⟨cs,rfl,h,λ_ h=>h,λy hy=>by cases hy⟩
 | (n,k)::r,cs,hf,h=>by
  have hr:∀y∈r,y.2=.free->∃a,env.cells.lookup y.1=some a:=λy hy=>hf y (mM _ hy)
  rw[ycI]
  by_cases hk:k=.free
  ·subst hk
   obtain⟨a,ha⟩:=hf (n,.free) mS_ rfl
   have ha':env.cells.lookup n=some a:=ha
   have hcell:cellOf env n=pure a:=by unfold cellOf;rw[ha']
   obtain ⟨cl,e1,e2,e3,e4⟩:=wF r ((n,a)::cs) hr (λm b hm=>by
    rw[ya5]at hm
    cases e:m==n with
    |true=>rw[e]at hm;cases hm;rw[ydi e];exact ha'
    |false=>rw[e]at hm;exact h m b hm)
   refine⟨cl,?_,e2,λm ⟨b,hm⟩=>e3 m ?_,λy hy hyf=>?_⟩
   ·show((if(ya1==ya1)=true then _ else _) >>= _)=_
    rw[if_pos (by rfl),hcell]
    exact e1
   ·rw[ya5]
    cases e:m==n with
    |true=>exact⟨a,rfl⟩
    |false=>exact⟨b,hm⟩
   ·rcases List.mem_cons.mp hy with rfl|hy
    ·exact e3 n ⟨a,by rw[ya5];simp⟩
    ·exact e4 y hy hyf
  ·have hb:(k==ya1)=false:=by simpa using hk
   obtain⟨cl,e1,e2,e3,e4⟩:=wF r cs hr h
   refine⟨cl,?_,e2,e3,λy hy hyf=>?_⟩
   ·show((if(k==ya1)=true then _ else _) >>= _)=_
    rw[hb,if_neg yas]
    exact e1
   ·rcases List.mem_cons.mp hy with rfl|hy
    ·exact absurd hyf hk
    ·exact e4 y hy hyf
theorem v6 {env:ydk} {scope:Scope} (hf:∀y∈scope.names,y.2=.free->∃a,env.cells.lookup y.1=some a) :
  ∃cl,closureFor scope env=pure cl/\(∀n a,cl.lookup n=some a->env.cells.lookup n=some a)/\∀y∈scope.names,y.2=.free->∃a,cl.lookup y.1=some a:=by
 obtain⟨cl,e1,e2,_,e4⟩:=wF scope.names [] hf (λn a h=>by cases h)
 refine⟨cl,?_,e2,e4⟩
 unfold closureFor
 show(forIn scope.names [] _ >>= _)=_
 have e5:(forIn scope.names [] λx r=>match x with|(name,kind)=>if(kind==ya1)=true then do let a <-cellOf env name;pure (ybE ((name,a)::r))else pure (ybE r):Sem (List (Str×Addr)))=pure cl:=e1
 first
  |(rw[e5];rfl)
  |(simp only[bind_pure_comp,e5];rfl)
theorem yB {env:ydk}:∀{names:List (Str×ydc)}{x:Str},names.lookup x=some .free->env.scope.kind=.function->env.kindOf x=some .cell ->
  (names.map λ(n,k)=>if(k==ya1&&env.scope.kind == .function&&env.kindOf n==some .cell) then(n,ydb) else(n,k)).lookup x=some .cell
 | [],_,h,_,_=>by simp at h
 | (n,k)::r,x,h,hk,hx=>by
  have ih := @yB env r x
  show List.lookup x ((if(k==ya1&&env.scope.kind == .function&&env.kindOf n==some .cell)=true then(n,ydb) else(n,k))::_)=_
  cases hxn:x==n with
  |true=>
   have e:x=n:=ydi hxn
   subst e
   simp only[ya5,hxn]at h
   cases h
   rw[if_pos (by rw[hk,hx];rfl)]
   simp only[ya5,hxn]
  |false=>
   simp only[ya5,hxn]at h
   by_cases hc:(k==ya1&&env.scope.kind == .function&&env.kindOf n==some .cell)=true
   ·rw[if_pos hc];simp only[ya5,hxn];exact ih h hk hx
   ·rw[if_neg hc];simp only[ya5,hxn];exact ih h hk hx
theorem jQ {env:ydk}:∀{names:List (Str×ydc)}{x:Str}{q:ydc},(names.map λ(n,k)=>if(k==ya1&&env.scope.kind == .function&&env.kindOf n==some .cell) then(n,ydb) else(n,k)).lookup x=some q ->
  q=.cell\/q=.free->(∀y∈names,y.2 ≠ .cell)->∃k,(x,k)∈names/\k=.free
 | [],_,_,h,_,_=>by simp at h
 | (n,k)::r,x,q,h,hq,hc=>by
  have ih := @jQ env r x q
  have h':List.lookup x ((if(k==ya1&&env.scope.kind == .function&&env.kindOf n==some .cell)=true then(n,ydb) else(n,k))::(r.map λ(n,k)=>if(k==ya1&&env.scope.kind == .function&&env.kindOf n==some .cell) then(n,ydb) else(n,k)))=some q:=h
  have hr:∀y∈r,y.2 ≠ .cell:=λy hy=>hc y (mM _ hy)
  by_cases hcd:(k==ya1&&env.scope.kind == .function&&env.kindOf n==some .cell)=true
  ·rw [if_pos hcd]at h'
   cases hxn:x==n with
   |true=>
    have e:x=n:=ydi hxn
    subst e
    refine⟨k,mS_,?_⟩
    rw[yam,yam]at hcd
    exact ydi hcd.1.1
   |false=>
    simp only[ya5,hxn]at h'
    obtain⟨k',m,e⟩:=ih h' hq hr
    exact⟨k',mM _ m,e⟩
  ·rw [if_neg hcd]at h'
   cases hxn:x==n with
   |true=>
    have e:x=n:=ydi hxn
    subst e
    simp only[ya5,hxn]at h'
    cases h'
    rcases hq with rfl|rfl
    ·exact absurd rfl (hc (x,.cell) mS_)
    ·exact⟨.free,mS_,rfl⟩
   |false=>
    simp only[ya5,hxn]at h'
    obtain⟨k',m,e⟩:=ih h' hq hr
    exact⟨k',mM _ m,e⟩
def qO(nt:Nat)(fr:List Nat)(σ:St):St:=yau nt none++fr.map λj=>(σ[j]?).join
def qkH (X:Cx) (tg:Expr) (ifs:List Expr) (elt:Expr) (scope:Scope) (N':List Str) (wi:TI) (nt:Nat) (fr:List Nat):TE:=λσ H Q=>wi σ H λJ H1=>∀acc fp cl C s₀ H₀ pn,H1 acc=none ->
 ∃(g:TG)(tt:TT)(te:TE),PG (zR X scope N' fp cl C s₀ H₀ pn) tg g/\PF (zR X scope N' fp cl C s₀ H₀ pn) ifs tt/\PE (zR X scope N' fp cl C s₀ H₀ pn) elt te /\
 ∃W:Nat->Nat->St->Hp->Prop,(∃m,W 0 m (qO nt fr σ) (upd H1 acc (.lst []))) /\
 ∀ i m σ' H',W i m σ' H'->(J.stop i H'/\Q (.ref acc) H')\/(J.go i H'/\∀x H'',J.yld i H' x H''->g x σ' H'' λσ2 H2=>tt σ2 H2 λb H3=>
  if b=true then te σ2 H3 λy H4=>∃ys,H4 acc=some (.lst ys)/\ys.length<yai/\∃m',m'<m/\W (i+1) m' σ2 (upd H4 acc (.lst (ys++[y])))else ∃m',m'<m/\W (i+1) m' σ2 H3)
section
variable{X:Cx}{tg iter elt:Expr}{ifs:List Expr}{scope:Scope}{pos:Pos}{wi:TI}{N':List Str}{nt:Nat}{fr:List Nat}
theorem qaD {prog:yan} {w:World} {A:yav} {R:yek->yab->Prop} {s:yab} {it acc:Value} {env:ydk} (I:Nat->yab->Prop)
  (turn : ∀n s,I n s->wpAny (model prog w) A (yc0 it) (λr sK=>match r with
   |none=>R (.ok .next) sK
   | some v=>wpAny (model prog w) A (ycF tg it v) (λ_ s1'=>wpAny (model prog w) A (yb3 tg env v) (λ_ sY=>
     wpAny (model prog w) A (forIn ifs true λc r=>if r=true then do let ok <-isTrue c env (eval c env);pure (ybE ok)else pure (ybE r)) (λok sQ=>
      if ok=true then wpAny (model prog w) A (eval elt env) (λx sJ=>
       wpAny (model prog w) A (call (.builtin "list.append") [acc,x]) (λ_ sV=>∃m,m<n/\I m sV) (λ_ _=>False) sJ) (λ_ _=>False) sQ
      else ∃m,m<n/\I m sQ) (λ_ _=>False) sY) (λ_ _=>False) s1') (λ_ _=>False) sK) (λ_ _=>False) s)
  (n:Nat) (h:I n s):ybR (model prog w) A (.compLoop (.ListComp elt [⟨tg,iter,ifs,0⟩] scope pos) 0 it acc env) R s:=by
 refine codeAny_loop rfl I (λn s hI=>?_) n h
 show wpAny _ A ((compTurn (.ListComp elt [⟨tg,iter,ifs,0⟩] scope pos) 0 it acc env).onRaise (λx=>do noteFrame x env;theTreesLotGoes x)) _ _ s
 refine wpAny_noted ?_
 rw[compTurn_list]
 refine yaa (yc8 (yaa (ybi (turn n s hI) (λr sK hX=>?_) λ_ _ h'=>h'.elim)))
 cases r with
 |none=>exact yac hX
 | some v=>
  refine yaa (ybi hX (λ_ s1' hK'=>?_) λ_ _ h'=>h'.elim)
  refine yaa (ybi hK' (λ_ sY h₂=>yaa (ybi h₂ (λok sQ hV=>?_) λ_ _ h'=>h'.elim)) λ_ _ h'=>h'.elim)
  cases ok with
  |false=>exact yac ⟨rfl,hV⟩
  |true=>
   exact yaa (yaa (ybi hV (λx sJ hG=>yaa (ybi hG (λ_ sV hJ=>yac (yac ⟨rfl,hJ⟩)) λ_ _ h'=>h'.elim)) λ_ _ h'=>h'.elim))
theorem qbo {pins:List (Addr×Obj)} {σ:St} {H:Hp} {s:yab} {hX:Heap} {tk:Nat} {fp:List Addr} {cl:List (Str×Addr)} (S:ya X scope N' nt fr) (I:Inv X pins σ H s) (hfp:∀b∈fp,qc7 X pins H b)
  (hex:∀b∈fp,∃o,s.heap.get? b=some o) (cl1:∀n a,cl.lookup n=some a->X.env.cells.lookup n=some a) (cl2:∀y∈scope.names,y.2=.free->∃a,cl.lookup y.1=some a)
  (hns:∃m,hX.Ns s.heap.objs.size m) (old:∀b o,s.heap.get? b=some o->hX.get? b=some o) :
  Inv (zR X scope N' fp cl s.heap.objs.size s H (X.pn++pins)) [] (qO nt fr σ) H {s with heap:=hX,toks:=tk}:=by
 have stkB:∀b∈frs X.stack,b=X.env.locals\/b∈X.fs:=λb hb=>List.mem_cons.mp (I.stkSub b hb)
 have hC:∀b o,s.heap.get? b=some o->b≠s.heap.objs.size:=λb o e=>yao (yae e)
 obtain⟨m,hn⟩:=hns
 refine ⟨⟨I.ok.mod,S.kind,I.ok.glob,I.ok.blt,yad _,λx y c h1 h2=>I.ok.inj x y c (cl1 x c h1) (cl1 y c h2),λx hx=>?_,λx c hx=>?_,I.ok.hd,I.ok.frames,.inl rfl,λb hb=>⟨?_,λx c hx=>(hfp b hb).2.2.2.2.1 x c (cl1 x c hx)⟩,I.bs,yay I.ok.bsz I.sz,λb o e hb=>?_,λb hb hb2=>?_,I.stack,I.stkFree⟩,
  rfl,I.bare,Un.kept old,⟨m,hn,λi x v h1 h2 h3=>?_⟩,λx c hx=>?_,I.hok.fresh (yad _),λx c hx=>I.freeC x c (cl1 x c hx),λp hp=>?_,I.hok.kept old,?_⟩
 ·have hx':∃k,(x,k)∈scope.names/\k=.free:=by
   rcases hx with hx|hx
   ·exact jQ (env:=X.env) (q:=.cell) hx (.inl rfl) S.nocell
   ·exact jQ (env:=X.env) (q:=.free) hx (.inr rfl) S.nocell
  obtain⟨k,m,rfl⟩:=hx'
  exact cl2 (x,.free) m rfl
 ·have hx':false=true:=hx
  cases hx'
 ·obtain⟨o,e⟩:=hex b hb
  exact hC b o e
 ·obtain⟨f0,f1,f2,f3,f4,f5⟩:=hfp b hb
  rcases f3 with z|z
  ·exact I.ok.noex b o e z
  ·exact absurd (yaw (yae e) (yay I.ok.bsz z)) (ybo _)
 ·obtain⟨f0,f1,f2,f3,f4,f5⟩:=hfp b hb
  rcases stkB b hb2 with z|z
  ·exact f1 z
  ·exact f2 z
 ·-- names
  have hi:nt<=i:=by
   apply yde
   intro hlt
   unfold qO at h2
   rw[List.getElem?_append_left (by simpa using hlt),List.getElem?_replicate]at h2
   split at h2<;>cases h2
  have h2':(fr.map λj=>(σ[j]?).join)[i-nt]? = some (some v):=by
   unfold qO at h2
   rw[List.getElem?_append_right (by simpa using hi),ybl]at h2
   exact h2
  rw[gM_]at h2'
  cases ej:fr[i-nt]? with
  |none=>rw[ej]at h2';cases h2'
  | some j=>
   rw[ej]at h2'
   have hσ:(σ[j]?).join=some v:=by simpa using h2'
   have hσ':σ[j]? = some (some v):=by
    cases e:σ[j]? with
    |none=>rw[e]at hσ;cases hσ
    |some o=>
     rw[e]at hσ
     have:o=some v:=hσ
     rw[this]
   obtain⟨y,hy1,hy2,hy3⟩:=S.slot (i-nt) j ej
   have hii:nt+(i-nt)=i:=by omega
   rw[hii]at hy1
   have exy:y=x:=by
    have h1':N'[i]? = some x:=h1
    rw[h1']at hy1
    exact(yaz hy1).symm
   subst exy
   have hmem:(y,ya1)∈scope.names:=ybI hy3
   have hcellk:X.env.kindOf y=some .cell:=S.frees (y,.free) hmem rfl
   obtain⟨m0,hn0,hl0⟩:=I.loc
   obtain⟨u,ru,lk⟩:=hl0 j y v hy2 hσ' (.inr (.inl hcellk))
   refine⟨u,ru,.inr ⟨.inl (yB hy3 I.ok.kind hcellk),?_⟩⟩
   rcases lk with⟨k1,_⟩|⟨_,c,e,z⟩
   ·rw[hcellk]at k1;cases k1
   ·obtain⟨a,ea⟩:=cl2 (y,.free) hmem rfl
    have ea':=cl1 y a ea
    rw[e]at ea'
    cases ea'
    obtain⟨o,ho,hd⟩:=z
    exact⟨c,ea,o,old _ _ ho,hd⟩
 ·obtain⟨v,o,ho,hd⟩:=I.cell x c (cl1 x c hx)
  exact⟨v,o,old _ _ ho,hd⟩
 ·have hp':p∈X.pn++pins:=by
   rcases mA_.mp (show p∈(X.pn++pins)++[]from hp)with z|z
   ·exact z
   ·cases z
  obtain⟨e,n,ne,nf,d⟩:=I.pin p hp'
  refine⟨old _ _ e,n,hC _ _ e,λz=>?_,d⟩
  rcases stkB p.1 z with z|z
  ·exact ne z
  ·exact nf z
 ·show(qO nt fr σ).length=N'.length
  unfold qO
  rw[lA_,ybl,lM_,S.len]
theorem qd8 {pins:List (Addr×Obj)} {σ σ':St} {H H':Hp} {s s':yab} {h':Heap} {fp:List Addr} {cl:List (Str×Addr)} (I:Inv X pins σ H s) (hfp:∀b∈fp,qc7 X pins H b)
  (J:Inv (zR X scope N' fp cl s.heap.objs.size s H (X.pn++pins)) [] σ' H' s') (sb:yb2 s.heap.objs.size s'.heap h'):Inv X pins σ H' {s' with heap:=h' }:=by
 have hC:H' s.heap.objs.size=none:=J.free
 have u:=J.base
 have big:∀b o,s.heap.get? b=some o->b≠s.heap.objs.size:=λb o e=>yao (yae e)
 have get':∀b,b≠s.heap.objs.size->h'.get? b=s'.heap.get? b:=λb hb=>sb.2 b hb
 have u2:Un (frs X.stack) fp H H' s.heap h' :=
  ⟨λb o e n hb hx=>(get' b (big b o e)).trans (u.keep b o e n hb hx),λb o e n hb hx=>by
   obtain⟨sl,q⟩:=u.slot b o e n hb hx
   exact⟨sl,(get' b (big b o e)).trans q⟩,u.free,λb o e hx=>by
   obtain⟨o',q⟩:=u.there b o e hx
   exact⟨o',(get' b (big b o e)).trans q⟩,u.tups,u.frzs,u.tbls⟩
 refine I.call' (s':={s' with heap:=h' }) (ch:=fp) J.os u2 (λb o e=>?_) J.bare (λb hb=>?_)
 ·refine(J.hok b o e).stay (λc v hc q=>?_) (λ_ q=>q) λ_ _ q=>q
  refine(get' c ?_).trans q
  rintro rfl
  rcases hc with hc|hc
  ·rw[<-hc,hC]at e;cases e
  ·rw[hC]at hc;cases hc
 ·obtain⟨f0,f1,f2,f3,f4,f5⟩:=hfp b hb
  exact⟨f3,f1,f4,f5⟩
theorem qkI (hc:X.calm=true) (hi:PI X tg iter wi) (S:ya X scope N' nt fr)
  (hs:∀x,ybs iter X.env x=pure x:=by intro _;rfl):PE X (.ListComp elt [⟨tg,iter,ifs,0⟩] scope pos) (qkH X tg ifs elt scope N' wi nt fr):=by
 intro pins s σ H Q I hw
 obtain⟨cl,hcl,cl1,cl2⟩:=v6 (env:=X.env) (scope:=scope) (λy hy hf=>I.ok.has y.1 (.inl (S.frees y hy hf)))
 rw[eval_ListComp]
 refine yeo (use:=none) rfl hs hcl S.kind S.names (thn (hi pins s σ H _ I hw) λv s1 h1=>thn h1 λitv s2 h2=>?_)
 obtain⟨it,fp,tn,J,H2,e,I2,T,st2,f2,hR⟩:=h2
 subst e
 have hacc:H2 s2.heap.objs.size=none:=I2.hok.fresh (yad _)
 refine yaK (yfo S.nocell (by intro y hy;simp at hy) (λhX hns1 hsb1=>?_) S.kind)
 dsimp only at hns1 hsb1 |-
 have I3:Inv X pins σ (upd H2 s2.heap.objs.size (.lst [])) {s2 with heap:=s2.heap.push {cls:=.type "list",dict:=none,data:=.seq ([]:List Value).toArray} } :=
  I2.lnew (t':=s2.toks) (its:=[]) .nil (yaF _)
 generalize hs3:({s2 with heap:=s2.heap.push {cls:=.type "list",dict:=none,data:=.seq ([]:List Value).toArray} }:yab)=s3 at I3
 have hh3:s2.heap.push {cls:=.type "list",dict:=none,data:=.seq ([]:List Value).toArray}=s3.heap:=by rw[<-hs3]
 rw[hh3]at hns1 hsb1
 have old:∀b o,s3.heap.get? b=some o->hX.get? b=some o:=λb o q=>hsb1.extBut b o (yao (yae q)) (Heap.get?_push_of_some _ q)
 have objs2:∀b∈fp,∃o,s2.heap.get? b=some o:=λb hb=>by
  obtain⟨o,q,_⟩:=T.obj 0 _ st2 b hb
  exact⟨o,q⟩
 have keep23:∀b o,s2.heap.get? b=some o->s3.heap.get? b=some o:=λb o q=>by rw[<-hh3];exact Heap.get?_push_of_some _ q
 have fpne:∀b∈fp,b≠s2.heap.objs.size:=λb hb=>by
  obtain⟨o,q⟩:=objs2 b hb
  exact yao (yae q)
 have f3:∀b∈fp,qc7 X pins (upd H2 s2.heap.objs.size (.lst [])) b:=λb hb=>⟨by rw[qv (fpne b hb)];exact(f2 b hb).1,(f2 b hb).2⟩
 have J0:Inv (zR X scope N' fp cl s3.heap.objs.size s3 (upd H2 s2.heap.objs.size (.lst [])) (X.pn++pins)) [] (qO nt fr σ) (upd H2 s2.heap.objs.size (.lst [])) {s3 with heap:=hX,toks:=s3.toks} :=
  qbo S I3 f3 (λb hb=>(objs2 b hb).imp λo q=>keep23 b o q) cl1 cl2 ⟨_,hns1⟩ old
 obtain⟨g,tt,te,hg,hf,he,W,⟨m0,w0⟩,turn⟩:=hR s2.heap.objs.size fp cl s3.heap.objs.size s3 (upd H2 s2.heap.objs.size (.lst [])) (X.pn++pins) hacc
 have T0:tn 0 hX:=T.keep 0 _ _ st2 λb hb o q=>old b o (keep23 b o q)
 have s3e:∀tk:Nat,({s2 with heap:=hX,toks:=tk}:yab)={s3 with heap:=hX,toks:=tk}:=λtk=>by rw[<-hs3]
 have loop:∀tk:Nat,ybR (model X.prog X.w) X.A (.compLoop (.ListComp elt [⟨tg,iter,ifs,0⟩] scope pos) 0 (.ref it) (.ref s2.heap.objs.size) (yfn scope cl s3.heap.objs.size X.env))
   (ygi (model X.prog X.w) X.A X.xe none (EP X pins σ Q) (.ref s2.heap.objs.size) s3.heap.objs.size) {s3 with heap:=hX,toks:=tk}:=λtk=>by
  have stat:∀{H':Hp},(∀b∈fp,H' b=none)->∀b∈fp,qc7 (zR X scope N' fp cl s3.heap.objs.size s3 (upd H2 s2.heap.objs.size (.lst [])) (X.pn++pins)) [] H' b:=λ{H'} hn b hb=>by
   obtain⟨o,q⟩:=objs2 b hb
   have hbC:b≠s3.heap.objs.size:=yao (yae (keep23 b o q))
   refine⟨hn b hb,hbC,λz=>?_,.inl hb,λx c hx=>(f2 b hb).2.2.2.2.1 x c (cl1 x c hx),λp hp=>?_⟩
   ·rcases List.mem_cons.mp (I2.stkSub b z)with z|z
    ·exact(f2 b hb).2.1 z
    ·exact(f2 b hb).2.2.1 z
   ·have hp':p∈X.pn++pins:=by
     rcases mA_.mp (show p∈(X.pn++pins)++[]from hp)with z|z
     ·exact z
     ·cases z
    exact(f2 b hb).2.2.2.2.2 p hp'
  have fr0:∀b∈fp,upd H2 s2.heap.objs.size (.lst []) b=none:=λb hb=>(f3 b hb).1
  refine qaD (λn s'=>∃i σ' H',Inv (zR X scope N' fp cl s3.heap.objs.size s3 (upd H2 s2.heap.objs.size (.lst [])) (X.pn++pins)) [] σ' H' s'/\tn i s'.heap/\(∀b∈fp,H' b=none)/\W i n σ' H') ?_ m0
   ⟨0,qO nt fr σ,_,J0.tok tk,T0,fr0,w0⟩
  rintro n s4 ⟨i,σ4,H4,J4,st4,fr4,w4⟩
  rcases turn i n σ4 H4 w4 with⟨stop,qn⟩|⟨go,step⟩
  ·refine thn (T.done (zR X scope N' fp cl s3.heap.objs.size s3 (upd H2 s2.heap.objs.size (.lst [])) (X.pn++pins)) rfl rfl rfl hc i [] s4 σ4 H4 _ J4 (stat fr4) st4 stop) λr s5 ⟨hr,J5⟩=>?_
   subst hr
   obtain⟨m5,n5,_⟩:=J5.loc
   refine⟨m5,n5,λh' sb=>⟨.ref s2.heap.objs.size,H4,qd8 I3 f3 J5 sb,rfl,qn⟩⟩
  ·refine thn (T.item (zR X scope N' fp cl s3.heap.objs.size s3 (upd H2 s2.heap.objs.size (.lst [])) (X.pn++pins)) rfl rfl rfl hc i [] s4 σ4 H4 _ J4 (stat fr4) st4 go) λr s5 ⟨u,hr,h5⟩=>?_
   subst hr
   refine thn h5 λ_ s6 ⟨x,H6,J6,r6,y6,st6,fr6⟩=>?_
   have J6':=J6.pinned (stat fr6) (T.obj _ _ st6)
   have again:∀{σ7:St}{H7:Hp}{s7:yab},Inv (zR X scope N' fp cl s3.heap.objs.size s3 (upd H2 s2.heap.objs.size (.lst [])) (X.pn++pins)) ([]++qbm fp s6.heap) σ7 H7 s7->(∃m',m'<n/\W (i+1) m' σ7 H7) ->
     ∃m,m<n/\∃i σ' H',Inv (zR X scope N' fp cl s3.heap.objs.size s3 (upd H2 s2.heap.objs.size (.lst [])) (X.pn++pins)) [] σ' H' s7/\tn i s7.heap/\(∀b∈fp,H' b=none)/\W i m σ' H':=λ{σ7 H7 s7} I7 hm=>by
    obtain⟨m',hm,w7⟩:=hm
    refine⟨m',hm,i+1,σ7,H7,I7.unpinned,T.keep _ _ _ st6 λb hb o q=>(I7.pin (b,o) (mr_ _ (mr_ _ (yu hb q)))).1,λb hb=>?_,w7⟩
    obtain⟨o,q,d⟩:=T.obj _ _ st6 b hb
    exact(I7.pin (b,o) (mr_ _ (mr_ _ (yu hb q)))).2.1
   refine thn (hg _ s6 σ4 H6 x u _ J6' r6 (step x H6 y6)) λ_ s7 ⟨σ7,H7,J7,q7⟩=>?_
   refine thn (hf _ s7 σ7 H7 _ J7 q7) λok s8 ⟨H8,J8,q8⟩=>?_
   cases ok with
   |false=>
    rw[if_neg yas]at q8 |-
    exact again J8 q8
   |true=>
    rw[if_pos rfl]at q8 |-
    refine thn (he _ s8 σ7 H8 _ J8 q8) λz s9 ⟨y,H9,J9,r9,ys,hys,hz,hm⟩=>?_
    refine thn (qau _ s9 σ7 H9 (.ref s2.heap.objs.size) [y] (.ref s2.heap.objs.size) [z] (λ_ H'=>H'=upd H9 s2.heap.objs.size (.lst (ys++[y]))) J9 rfl (.cons r9 .nil) ⟨_,ys,y,rfl,rfl,hys,hz,rfl⟩) λ_ s10 ⟨_,H10,J10,_,e10⟩=>?_
    subst e10
    exact again J10 hm
 have start:∀tk:Nat,ybR (model X.prog X.w) X.A (.compStart (.ListComp elt [⟨tg,iter,ifs,0⟩] scope pos) 0 (.ref it) (.ref s2.heap.objs.size) (yfn scope cl s3.heap.objs.size X.env))
   (ygi (model X.prog X.w) X.A X.xe none (EP X pins σ Q) (.ref s2.heap.objs.size) s3.heap.objs.size) {s3 with heap:=hX,toks:=tk}:=λtk=>
  yeU (loop tk) (T.self X.A 0 _ _ _ T0 (loop tk))
 have fin:=start (s2.toks+([]:List (Str×Value)).length)
 rw[<-s3e]at fin
 rw[<-hh3]at fin
 rw[hh3]at fin |-
 exact fin
end
structure qip (K:Fr0) (A:Addr->Prop) (H:Hp) (ds:List D) (J:It):Prop where
 go:∀H' i d,Ext A H H'->ds[i]? = some d->J.go i H'
 yl:∀H' i d x H'',Ext A H H'->ds[i]? = some d->J.yld i H' x H''->jE H' H''/\Is K A H'' d x
 stop:∀H',Ext A H H'->J.stop ds.length H'
def CnT(c:Fc)(σ:St)(H:Hp)(a:Addr):Prop:=Cn c σ a/\(H a).isSome=true
def WpI (K:Fr0) (c:Fc) (σ:St) (H:Hp) (Q:It->Hp->Prop):R (List D×Env)->Prop
 |.ok (ds,ρ)=>∀J H',Rep K c ρ σ H'->qip K (CnT c σ H') H' ds J->Gr c.O σ H H'->Q J H'
 |.exc x ρ=>∀H',Rep K c ρ σ H'->Gr c.O σ H H'->c.E x H'
 |.bad=>False
def DI(X:Cx)(c:Fc)(tg it:Expr)(f:M (List D)):Prop:=∃w,PI X tg it w/\∀ρ σ H Q,Rep X.K c ρ σ H->WpI X.K c σ H Q (f ρ)->w σ H Q
section
variable{X:Cx}{c:Fc}{tg a b e:Expr}{pos:Pos}
def qp1(K:Fr0)(tl:TE):TI:=λσ H R=>tl σ H λx H1=>(∃a,x=.ref a/\(∃xs,SqL K H1 a xs)/\R (Itl K a) H1)\/(∃a,x=.ref a/\(∃xs,SqT K H1 a xs)/\R (Itt K a) H1)
theorem qmN {tl:TE} (hl:PE X e tl):PI X tg e (qp1 X.K tl):=by
 intro pins s σ H R I h
 refine thn (hl pins s σ H _ I h) λv s1 ⟨x,H1,I1,r1,q1⟩=>?_
 rcases q1 with⟨a,e,⟨xs,hq⟩,q⟩|⟨a,e,⟨xs,hq⟩,q⟩
 ·subst e
  cases r1
  obtain⟨its,rv,p,hz⟩:=I1.list hq
  refine ybV p.isList ?_
  refine⟨s1.heap.objs.size,[s1.heap.objs.size],_,_,H1,rfl,I1.kept (t':=s1.toks) λb o e=>Heap.get?_push_of_some _ e,qf1 a _,⟨_,Heap.get?_push_size _ rfl,rfl,rfl⟩,λb hb=>?_,q⟩
  have e:b=s1.heap.objs.size:=by simpa using hb
  subst e
  exact I1.fpOk (yad _) (I1.hok.fresh (yad _))
 ·subst e
  cases r1
  obtain⟨its,rv,p,hz⟩:=I1.tuple hq
  refine ych (show s1.heap.IsTuple a its.toArray from p) ?_
  refine⟨s1.heap.objs.size,[s1.heap.objs.size],_,_,H1,rfl,I1.kept (t':=s1.toks) λb o e=>Heap.get?_push_of_some _ e,qe7 a _,⟨_,Heap.get?_push_size _ rfl,rfl,rfl⟩,λb hb=>?_,q⟩
  have e:b=s1.heap.objs.size:=by simpa using hb
  subst e
  exact I1.fpOk (yad _) (I1.hok.fresh (yad _))
def qmO:D->Option (List D)
 |.tup ds=>some ds
 |.lst ds=>some ds
 |.fz ns=>some (ns.map .int)
 |_=>none
theorem SqL.inj {K:Fr0} {H:Hp} {a:Addr} {xs ys:List V} (h:H a=some (.lst xs)) (q:SqL K H a ys) (hk:∀o,K.lookup a=some o->False):ys=xs:=by
 rcases q with(q|⟨o,q⟩)|⟨o,_,_,q,_⟩
 ·rw[h]at q;cases q;rfl
 ·rw[h]at q;cases q
 ·exact(hk o q).elim
theorem qbK {K:Fr0} {A:Addr->Prop} {H:Hp}:∀ns:List Int,IsL K A H (ns.map .int) (ns.map V.int)
 | []=>rfl
 |n::ns=>⟨.int n,ns.map V.int,rfl,rfl,qbK ns⟩
theorem qgu {K:Fr0} {A:Addr->Prop} {H:Hp} {ds:List D} {xs:List V} {a:Addr} (hs:∀H',Ext A H H'->SqL K H' a xs) (il:IsL K A H ds xs):qip K A H ds (Itl K a) where
 go:=λH' i d ex hd=>by
  obtain⟨x,h1,h2⟩:=il.get hd
  exact⟨xs,x,hs H' ex,h1⟩
 yl:=λH' i d x H'' ex hd y=>by
  obtain⟨e,y⟩:=y
  subst e
  obtain⟨x',h1,h2⟩:=il.get hd
  have h3:=y xs (hs _ ex)
  rw[h1]at h3
  cases h3
  exact⟨jE.refl _,Is.ext ex (λ_ h _=>h) h2⟩
 stop:=λH' ex=>⟨xs,hs H' ex,by rw[il.length];exact yad _⟩
theorem qmP {K:Fr0} {A:Addr->Prop} {H:Hp} {ds:List D} {xs:List V} {a:Addr} (hs:qab K H a xs) (il:IsL K A H ds xs):qip K A H ds (Itt K a) where
 go:=λH' i d ex hd=>by
  obtain⟨x,h1,h2⟩:=il.get hd
  exact⟨xs,x,(hs.elim (λh => .inl (ex.tup _ _ h)) .inr:qab K H' a xs).sq,h1⟩
 yl:=λH' i d x H'' ex hd y=>by
  obtain⟨e,y⟩:=y
  subst e
  obtain⟨x',h1,h2⟩:=il.get hd
  have h3:=y xs (hs.elim (λh => .inl (ex.tup _ _ h)) .inr:qab K _ a xs).sq
  rw[h1]at h3
  cases h3
  exact⟨jE.refl _,Is.ext ex (λ_ h _=>h) h2⟩
 stop:=λH' ex=>⟨xs,(hs.elim (λh => .inl (ex.tup _ _ h)) .inr:qab K H' a xs).sq,by rw[il.length];exact yad _⟩
def jD(f:M D):M (List D):=bnd f λd=>lift (qmO d)
theorem v7 {K:Fr0} {σ:St} {H:Hp} {Q:It->Hp->Prop} {o:Option (List D)} {ρ:Env} (h:WpI K c σ H Q (lift o ρ)):∃ds,o=some ds/\∀J H',Rep K c ρ σ H'->qip K (CnT c σ H') H' ds J->Gr c.O σ H H'->Q J H':=by
 cases o with
 |none=>exact h.elim
 |some d=>exact⟨d,rfl,h⟩
theorem WpI.gr {K:Fr0} {σ:St} {H H1:Hp} {Q:It->Hp->Prop}:∀{r:R (List D×Env)},WpI K c σ H Q r->Gr c.O σ H H1->WpI K c σ H1 Q r
 |.ok (d,ρ),h,g=>λv H' hr hi hg=>h v H' hr hi (g.trans hg)
 |.exc x ρ,h,g=>λH' hr hg=>h H' hr (g.trans hg)
 |.bad,h,_=>h
theorem Wp.bndI {K:Fr0} {σ:St} {H:Hp} {Q:It->Hp->Prop} {f:M D} {k:D->M (List D)} {ρ:Env} {Q':VK} (h:WpI K c σ H Q (Sk.bnd f k ρ)) (hQ:∀d ρ' v H',Rep K c ρ' σ H'->Is K (Cn c σ) H' d v->Gr c.O σ H H'->WpI K c σ H' Q (k d ρ')->Q' v H'):Wp K c σ H Q' (f ρ):=by
 unfold Sk.bnd at h
 cases e:f ρ with
 |ok p=>rw[e]at h;exact λv H' hr hi hg=>hQ p.1 p.2 v H' hr hi hg (h.gr hg)
 |exc x ρ'=>rw[e]at h;exact h
 |bad=>rw[e]at h;exact h
theorem WpL.bndI {K:Fr0} {σ:St} {H:Hp} {Q:It->Hp->Prop} {f:M (List D)} {k:List D->M (List D)} {ρ:Env} {Q':List V->Hp->Prop} (h:WpI K c σ H Q (Sk.bnd f k ρ)) (hQ:∀d ρ' v H',Rep K c ρ' σ H'->IsL K (Cn c σ) H' d v->Gr c.O σ H H'->WpI K c σ H' Q (k d ρ')->Q' v H'):WpL K c σ H Q' (f ρ):=by
 unfold Sk.bnd at h
 cases e:f ρ with
 |ok p=>rw[e]at h;exact λv H' hr hi hg=>hQ p.1 p.2 v H' hr hi hg (h.gr hg)
 |exc x ρ'=>rw[e]at h;exact h
 |bad=>rw[e]at h;exact h
theorem Is.tr{K:Fr0}{A:Addr->Prop}{H:Hp}{d:D}{v:V}(h:Is K A H d v):Is K (λa=>A a/\(H a).isSome=true) H d v:=Is.ext Ext.refl (λa h1 h2=>⟨h1,h2⟩) h
theorem yb {f:M D} (h:DE X c e f):DI X c tg e (jD f):=by
 obtain⟨t,p,w⟩:=h
 refine⟨_,qmN p,λρ σ H Q r h=>w ρ σ H _ r (Wp.bndI h λd ρ1 v H1 r1 i1 g1 h1=>?_)⟩
 obtain⟨ds,e,h2⟩:=v7 h1
 have i2:Is X.K (CnT c σ H1) H1 d v:=i1.tr
 cases d<;>simp only[qmO]at e<;>try (cases e;done)
 ·cases e
  obtain⟨a,xs,rfl,ta,il⟩:=i2
  exact .inr ⟨a,rfl,⟨xs,ta.sq⟩,h2 _ H1 r1 (qmP ta il) .refl⟩
 ·cases e
  obtain⟨a,xs,rfl,hA,ta,il⟩:=i2
  exact .inl ⟨a,rfl,⟨xs,.inl (.inl ta)⟩,h2 _ H1 r1 (qgu (λH' ex => .inl (.inl (ex.at_ _ _ hA ta))) il) .refl⟩
 ·cases e
  obtain⟨a,rfl,ta⟩:=i2
  exact .inl ⟨a,rfl,⟨_,ta.sq⟩,h2 _ H1 r1 (qgu (λH' ex=>(ta.elim (λ⟨o,h⟩ => .inl ⟨o,ex.frz _ _ _ h⟩) .inr:qmD X.K H' a _).sq) (qbK _)) .refl⟩
def wZ(lo:Int)(n:Nat):List D:=(yap n).map λi => .int (lo+(i:Nat))
theorem qjA {K:Fr0} {A:Addr->Prop} {H:Hp} (lo:Int) (n:Nat):qip K A H (wZ lo n) (Itr lo n) where
 go:=λH' i d ex hd=>by
  have:i<(wZ lo n).length:=(gI_.mp hd).1
  show i<n
  simpa [wZ] using this
 yl := λH' i d x H'' ex hd y=>by
  obtain⟨e,y⟩:=y
  subst e
  subst y
  refine⟨jE.refl _,?_⟩
  unfold wZ at hd
  rw[gM_]at hd
  cases e2:(yap n)[i]? with
  |none=>rw[e2]at hd;cases hd
  | some j=>
   rw[e2]at hd
   have hj:j=i:=by
    have:=(gI_.mp e2).2
    simpa using this.symm
   subst hj
   cases hd
   rfl
 stop:=λH' ex=>by show n<=(wZ lo n).length;simp[wZ]
def qjB:List D->Option (List D)
 | [.int j]=>if decide (-(2 ^ 62)<=j)&&decide (j<2 ^ 62)then some (wZ 0 j.toNat)else none
 |_=>none
def yC(f:M (List D)):M (List D):=bnd f λds=>lift (qjB ds)
theorem yc {f:M (List D)} {p:Pos} (hg:Gl X "range") (hm:X.mg "range"=none) (ha:DA X c [a] f) (hs:yah [a] X.env=[(false,eval a X.env)]:=by rfl):DI X c tg (.Call (.Name "range" p) [a] [] pos) (yC f):=by
 obtain⟨t,p,w⟩:=ha
 refine⟨_,qf2 hg hm p hs,λρ σ H Q r h=>w ρ σ H _ r (WpL.bndI h λds ρ1 vs H1 r1 i1 g1 h1=>?_)⟩
 obtain⟨es,e,h2⟩:=v7 h1
 unfold qjB at e
 split at e
 ·rename_i j
  obtain⟨v,rfl,e2⟩:=IsL.inv1 i1
  cases e2
  by_cases hb:(decide (-(2 ^ 62)<=j)&&decide (j<2 ^ 62))=true
  ·rw[if_pos hb]at e
   cases e
   rw[yam]at hb
   exact⟨j,rfl,of_decide_eq_true hb.1,of_decide_eq_true hb.2,h2 _ H1 r1 (qjA 0 _) .refl⟩
  ·rw[if_neg hb]at e
   cases e
 ·cases e
def jR (g:D->Env->Option Env) (b:MS):List D->MS
 | [],ρ => .ok (.nx ρ)
 | d::ds,ρ=>match g d ρ with
  |none => .bad
  |some ρ1=>match b ρ1 with
   |.ok (.nx ρ2)=>jR g b ds ρ2
   |.ok (.ct ρ2)=>jR g b ds ρ2
   |.ok (.bk ρ2) => .ok (.nx ρ2)
   |.ok (.rt r ρ2) => .ok (.rt r ρ2)
   |.exc x ρ2 => .exc x ρ2
   |.bad => .bad
def uO(f:M (List D))(g:D->Env->Option Env)(b:MS):MS:=sbnd f λds=>jR g b ds
theorem WpI.sbnd {K:Fr0} {σ:St} {H:Hp} {D':qe6} {f:M (List D)} {k:List D->MS} {ρ:Env} {Q':It->Hp->Prop} (h:WpS K c σ H D' (Sk.sbnd f k ρ))
  (hQ:∀ds ρ' J H',Rep K c ρ' σ H'->qip K (CnT c σ H') H' ds J->Gr c.O σ H H'->WpS K c σ H' D' (k ds ρ')->Q' J H'):WpI K c σ H Q' (f ρ):=by
 unfold Sk.sbnd at h
 cases e:f ρ with
 |ok p=>rw[e]at h;exact λv H' hr hi hg=>hQ p.1 p.2 v H' hr hi hg (h.gr hg.s)
 |exc x ρ'=>rw[e]at h;exact λH' hr hg=>h σ H' hr hg.s
 |bad=>rw[e]at h;exact h
theorem GrS.extT{σ σ':St}{H H':Hp}(g:GrS c.O σ H σ' H'):Ext (CnT c σ H) H H':=⟨g.ext.tup,g.ext.frz,λb o hb h=>g.ext.at_ b o hb.1.2 h⟩
theorem GrS.cnT{σ σ':St}{H H':Hp}(g:GrS c.O σ H σ' H'){a:Addr}(h:CnT c σ H a):Cn c σ' a:=⟨h.1.1,g.cl a h.1.2 h.2⟩
theorem y9{α:Type}{l:List α}{i:Nat}(h:i<l.length):l.drop i=l[i]::l.drop (i+1):=List.drop_eq_getElem_cons h
theorem yD {it:Expr} {body:List Stmt} {f:M (List D)} {g:D->Env->Option Env} {b:MS} (hp:yeJ (model X.prog X.w) X.A X.env X.xe) (hc:X.calm=true) (hi:DI X c tg it f) (hg:DG X c tg g) (hb:DSs X c body b)
  (hs:∀x,ybs it X.env x=pure x:=by intro _;rfl):DS X c (.For tg it body [] pos) (uO f g b):=by
 obtain⟨wi,pi,wI⟩:=hi
 obtain⟨tg',pg,wg⟩:=hg
 obtain⟨tb,pb,wb⟩:=hb
 refine⟨_,qf5 hp hc pi pg pb hs,λρ σ H D' r h=>wI ρ σ H _ r (WpI.sbnd h λds ρ1 J H1 r1 iok g1 h1=>?_)⟩
 refine⟨λi m σ' H'=>m=ds.length-i/\i<=ds.length/\∃ρ',Rep X.K c ρ' σ' H'/\GrS c.O σ H1 σ' H'/\WpS X.K c σ' H' D' (jR g b (ds.drop i) ρ'),⟨ds.length,by simp,yaF _,ρ1,r1,.refl,by simpa using h1⟩,?_⟩
 rintro i m σ' H' ⟨rfl,hi,ρ',r',gs,w⟩
 by_cases hlt:i<ds.length
 ·refine .inr ⟨iok.go H' i ds[i] gs.extT (by simp[hlt]),λσ2 H2=>∃ρ2,Rep X.K c ρ2 σ2 H2/\GrS c.O σ H1 σ2 H2/\WpS X.K c σ2 H2 D' (jR g b (ds.drop (i+1)) ρ2),λσ2 H2 n=>⟨ds.length-(i+1),by omega,rfl,hlt,n⟩,λx H'' y=>?_⟩
  obtain⟨sm,ix⟩:=iok.yl H' i ds[i] x H'' gs.extT (by simp[hlt]) y
  rw[y9 hlt]at w
  unfold jR at w
  have gs2:GrS c.O σ H1 σ' H'':=gs.trans (Gr.of_same sm).s
  have ix2:Is X.K (Cn c σ') H'' ds[i] x:=Is.ext Ext.refl (λa ha _=>gs2.cnT ha) ix
  cases e1:g ds[i] ρ' with
  |none=>simp only[e1]at w;exact w.elim
  | some ρ2=>
   simp only[e1]at w
   refine wg ρ' σ' H'' ds[i] x ρ2 _ (r'.same sm) ix2 e1 λσ2 r2 g2 _=>wb ρ2 σ2 H'' _ r2 ?_
   have w2:=w.gr ((Gr.of_same sm).s.trans g2)
   have gs3:GrS c.O σ H1 σ2 H'':=gs2.trans g2
   cases e2:b ρ2 with
   |ok fl=>
    cases fl with
    |nx ρ3=>simp only[e2]at w2;exact λσ3 H3 r3 g3=>⟨ρ3,r3,gs3.trans g3,w2.gr g3⟩
    |ct ρ3=>simp only[e2]at w2;exact λσ3 H3 r3 g3=>⟨ρ3,r3,gs3.trans g3,w2.gr g3⟩
    |bk ρ3=>simp only[e2]at w2;exact w2
    |rt d ρ3=>simp only[e2]at w2;exact w2
   |exc x ρ3=>simp only[e2]at w2;exact w2
   |bad=>simp only[e2]at w2;exact w2
 ·have hie:i=ds.length:=by omega
  subst hie
  rw[yc4 (yad _)]at w
  exact .inl ⟨iok.stop H' gs.extT,w σ' H' r' .refl⟩
end
def cin (B0:Addr->Prop) (H1:Hp) (O':List Nat) (Io':Addr->Prop) (acc:Addr) (S':Nat->Option (Option V)):Fc where
 O:=O'
 P:=O'
 B:=λa=>B0 a/\a≠acc
 H0:=upd H1 acc (.lst [])
 Io:=λa=>Io' a\/a=acc
 E:=λ_ _=>False
 S:=S'
def zS (g:D->Env->Option Env) (t:M Bool) (e:M D):List D->List D->Env->R (List D×Env)
 | [],acc,ρ => .ok (acc,ρ)
 | d :: ds,acc,ρ=>match g d ρ with
  |none => .bad
  | some ρ1=>match t ρ1 with
   |.ok (true,ρ2)=>match e ρ2 with
    |.ok (y,ρ3)=>if qW (acc.length+1)then zS g t e ds (acc++[y]) ρ3 else .bad
    |_ => .bad
   |.ok (false,ρ2)=>zS g t e ds acc ρ2
   |_ => .bad
def yE(nt:Nat)(fr:List Nat)(ρ:Env):Env:=yau nt none++fr.map λj=>(ρ[j]?).join
def qkJ (fo:Option (Nat×Nat)) (ρe ρ:Env):Env:=match fo with
 |none=>ρ
 |some (i,j)=>ρ.set j (ρe[i]?).join
def z7 (nt:Nat) (fr:List Nat) (fo:Option (Nat×Nat)) (f:M (List D)) (g:D->Env->Option Env) (t:M Bool) (e:M D):M D:=bnd f λds ρ=>match zS g t e ds [] (yE nt fr ρ) with
 |.ok (ys,ρe) => .ok (.lst ys,qkJ fo ρe ρ)
 |_ => .bad
def DF(X:Cx)(c:Fc)(ifs:List Expr)(f:M Bool):Prop:=∃t,PF X ifs t/\∀ρ σ H Q,Rep X.K c ρ σ H->WpB X.K c σ H Q (f ρ)->t σ H Q
def foO (fo:Option (Nat×Nat)):List Nat:=match fo with
 |none=>[]
 |some (i,_)=>[i]
section
variable{X:Cx}{c:Fc}{tg a b e:Expr}{pos:Pos}
theorem uI:DF X c [] (ret true):=⟨_,qmM,λρ σ H Q r h=>h H r .refl⟩
theorem WpI.bnd {K:Fr0} {σ:St} {H:Hp} {Q:VK} {f:M (List D)} {k:List D->M D} {ρ:Env} {Q':It->Hp->Prop} (h:Wp K c σ H Q (Sk.bnd f k ρ))
  (hQ:∀ds ρ' J H',Rep K c ρ' σ H'->qip K (CnT c σ H') H' ds J->Gr c.O σ H H'->Wp K c σ H' Q (k ds ρ')->Q' J H'):WpI K c σ H Q' (f ρ):=by
 unfold Sk.bnd at h
 cases e:f ρ with
 |ok p=>rw[e]at h;exact λv H' hr hi hg=>hQ p.1 p.2 v H' hr hi hg (h.gr hg)
 |exc x ρ'=>rw[e]at h;exact h
 |bad=>rw[e]at h;exact h
theorem Rep.grow {K:Fr0} {B0:Addr->Prop} {H1:Hp} {O':List Nat} {Io':Addr->Prop} {acc:Addr} {S':Nat->Option (Option V)} {ρ:Env} {σ:St} {H:Hp} {xs ys:List V} (r:Rep K (cin B0 H1 O' Io' acc S') ρ σ H) (h:H acc=some (.lst xs)) (ho:∀j∈O',σ[j]? ≠ some (some (.ref acc))) :
  Rep K (cin B0 H1 O' Io' acc S') ρ σ (upd H acc (.lst ys)):=by
 have ext:Ext (λa=>a≠acc) H (upd H acc (.lst ys)):=⟨λb zs hb=>by rw[qv (jp hb h (by intro z;cases z))];exact hb,λb o u hb=>by rw[qv (jp hb h (by intro z;cases z))];exact hb,λb o hb hq=>by rw[qv hb];exact hq⟩
 have cnext:Ext (Cn (cin B0 H1 O' Io' acc S') σ) H (upd H acc (.lst ys)):=⟨ext.tup,ext.frz,λb o hb hq=>ext.at_ b o hb.1.2 hq⟩
 refine⟨r.len,λi d hd=>?_,λj hj v hv=>?_,r.inj,r.b0,λb o hb hio=>?_,λb hb=>?_,r.pO,r.ps⟩
 ·obtain ⟨v,h1,h2⟩:=r.val i d hd
  refine⟨v,h1,?_⟩
  rcases h2 with⟨hi,ds,a,zs,h3,h5,h6,h7⟩|⟨hi,h3⟩
  ·subst h5
   have ne:a≠acc:=λe=>ho i hi (by rw[h1,e])
   exact .inl ⟨hi,ds,a,zs,h3,rfl,by rw[qv ne];exact h6,IsL.ext cnext (λ_ h _=>h) h7⟩
  ·exact .inr ⟨hi,Is.ext cnext (λ_ h _=>h) h3⟩
 ·obtain⟨a,zs,h1,h2,h3⟩:=r.own j hj v hv
  subst h1
  have ne:a≠acc:=λe=>ho j hj (by rw[hv,e])
  exact⟨a,zs,rfl,by rw[qv ne];exact h2,h3⟩
 ·have ne:b≠acc:=λe=>hio (.inr e)
  rw[qv ne]
  exact r.kp b o hb hio
 ·by_cases e:b=acc
  ·subst e;rw[qu]at hb;cases hb
  ·rw[qv e]at hb;exact r.dm b hb
theorem qaE {α:Type} {o:Option (Option α)} {a:α} (h:o.join=some a):o=some (some a):=by
 cases o with
 |none=>cases h
 |some x=>have:x=some a:=h;rw[this]
def qkK (c:Fc) (nt:Nat) (fr:List Nat) (fo:Option (Nat×Nat)):Prop:=match fo with
 |none=>∀j∈fr,j ∉ c.O
 |some (i,j)=>j∈c.O/\nt<=i/\fr[i-nt]? = some j/\∀k j',fr[k]? = some j'->nt+k≠i->j' ∉ c.O
def qce (σ:St) (fo:Option (Nat×Nat)) (a:Addr):Prop:=match fo with
 |none=>False
 |some (_,j)=>σ[j]? = some (some (.ref a))
theorem wG {nt:Nat} {fr:List Nat} {σ:St} {k j:Nat} (h:fr[k]? = some j):(qO nt fr σ)[nt+k]? = some (σ[j]?).join:=by
 unfold qO
 rw[List.getElem?_append_right (by simp),ybl,gM_,show nt+k-nt=k by omega,h]
 rfl
theorem qfj {nt:Nat} {fr:List Nat} {ρ:Env} {i:Nat} {d:D} (hd:(yE nt fr ρ)[i]? = some (some d)):∃k j,i=nt+k/\fr[k]? = some j/\ρ[j]? = some (some d):=by
 have hi:nt<=i:=by
  apply yde
  intro hlt
  unfold yE at hd
  rw[List.getElem?_append_left (by simpa using hlt),List.getElem?_replicate]at hd
  split at hd<;>cases hd
 unfold yE at hd
 rw[List.getElem?_append_right (by simpa using hi),ybl,gM_]at hd
 cases ej:fr[i-nt]? with
 |none=>rw[ej]at hd;cases hd
 |some j=>
  rw[ej]at hd
  exact⟨i-nt,j,by omega,ej,qaE (by simpa using hd)⟩
theorem yv {nt:Nat} {fr:List Nat} {σ:St} {i:Nat} {d:V} (hd:(qO nt fr σ)[i]? = some (some d)):∃k j,i=nt+k/\fr[k]? = some j/\σ[j]? = some (some d):=by
 have hi:nt<=i:=by
  apply yde
  intro hlt
  unfold qO at hd
  rw[List.getElem?_append_left (by simpa using hlt),List.getElem?_replicate]at hd
  split at hd<;>cases hd
 unfold qO at hd
 rw[List.getElem?_append_right (by simpa using hi),ybl,gM_]at hd
 cases ej:fr[i-nt]? with
 |none=>rw[ej]at hd;cases hd
 |some j=>
  rw[ej]at hd
  exact⟨i-nt,j,by omega,ej,qaE (by simpa using hd)⟩
theorem Rep.entry {K:Fr0} {nt:Nat} {fr:List Nat} {fo:Option (Nat×Nat)} {acc:Addr} {ρ:Env} {σ:St} {H:Hp} (r:Rep K c ρ σ H) (hn:H acc=none) (hfo:qkK c nt fr fo) :
  Rep K (cin (Cn c σ) H (foO fo) (qce σ fo) acc λj=>(qO nt fr σ)[j]?) (yE nt fr ρ) (qO nt fr σ) (upd H acc (.lst [])):=by
 have sm:jE H (upd H acc (.lst [])):=qx hn _
 have ownI:∀i∈foO fo,∀v,(qO nt fr σ)[i]? = some (some v)->∃j,fo=some (i,j)/\j∈c.O/\σ[j]? = some (some v):=λi hi v hv=>by
  cases fo with
  |none=>cases hi
  |some p=>
   obtain⟨i',j'⟩:=p
   have e:i=i':=by simpa [foO] using hi
   subst e
   obtain⟨h1,h2,h3,h4⟩:=hfo
   obtain⟨k,j,e1,e2,e3⟩:=yv hv
   have hk:k=i-nt:=by omega
   subst hk
   rw[h3]at e2
   cases e2
   exact⟨j',rfl,h1,e3⟩
 have clI:∀a,Cl c.O σ a->Cl (foO fo) (qO nt fr σ) a:=λa ha i hi e=>by
  obtain⟨j,_,hj,e2⟩:=ownI i hi _ e
  exact ha j hj e2
 refine⟨by simp[yE,qO],λi d hd=>?_,λi hi v hv=>?_,λi j a hi hj h1 h2=>?_,⟨λa ha=>?_,λq P pos eP=>?_⟩,λb o hb hio=>?_,λb hb=>?_,λ_ h=>h,λ_ _=>rfl⟩
 ·obtain ⟨k,j,e1,e2,e3⟩:=qfj hd
  subst e1
  by_cases hO:nt+k∈foO fo
  ·obtain ⟨v,hv⟩:∃v,σ[j]? = some (some v):=by
    obtain⟨v,h1,_⟩:=r.val j d e3
    exact⟨v,h1⟩
   have hc:(qO nt fr σ)[nt+k]? = some (some v):=by rw[wG e2,hv];rfl
   obtain⟨j',f1,f2,f3⟩:=ownI _ hO v hc
   subst f1
   obtain⟨g1,g2,g3,g4⟩:=hfo
   rw[show nt+k-nt=k by omega,e2]at g3
   cases g3
   obtain⟨ds,a,xs,h1,h3,h4,h5⟩:=r.getO g1 e3
   rw[hv]at h3
   cases h3
   exact⟨.ref a,hc,.inl ⟨hO,ds,a,xs,h1,rfl,sm _ _ h4,IsL.ext (Ext.of_same sm) (λb hb hs=>⟨⟨hb,λe=>by subst e;rw[hn]at hs;cases hs⟩,clI b hb.2⟩) h5⟩⟩
  ·have hj:j ∉ c.O:=by
    cases fo with
    |none=>exact hfo j (ybq e2)
    |some p=>
     obtain⟨i',j'⟩:=p
     exact hfo.2.2.2 k j e2 (λe=>hO (by simp[foO,e]))
   obtain⟨v,h1,h2⟩:=r.get hj e3
   refine⟨v,by rw[wG e2,h1];rfl,.inr ⟨hO,?_⟩⟩
   refine Is.ext (Ext.of_same sm) (λa ha hs=>⟨⟨ha,λe=>?_⟩,clI a ha.2⟩) h2
   subst e;rw[hn]at hs;cases hs
 ·obtain⟨j,f1,f2,f3⟩:=ownI i hi v hv
  obtain⟨a,xs,h1,h2,h3⟩:=r.own j f2 v f3
  subst h1 f1
  exact⟨a,xs,rfl,sm _ _ h2,.inr ⟨hi,.inl f3⟩⟩
 ·cases fo with
  |none=>cases hi
  |some p=>
   obtain⟨i',j'⟩:=p
   have e:i=i':=by simpa [foO,cin] using hi
   have e2:j=i':=by simpa [foO,cin] using hj
   rw[e,e2]
 ·have ha':upd H acc (.lst []) a=none:=ha
  by_cases e:a=acc
  ·subst e;rw[qu]at ha';cases ha'
  ·rw[qv e]at ha';exact⟨r.new ha',e⟩
 ·have hP:=(r.tb q P pos eP).1
  refine⟨sm _ _ hP,λz=>?_⟩
  rcases z with z|z
  ·cases fo with
   |none=>exact z
   |some p=>
    obtain⟨b,xs,e1,e2,_⟩:=r.own _ hfo.1 _ z
    cases e1
    rw[hP]at e2;cases e2
  ·rw[z,hn]at hP;cases hP
 ·exact hb
 ·exact hb
theorem Rep.leave {K:Fr0} {nt:Nat} {fr:List Nat} {fo:Option (Nat×Nat)} {acc:Addr} {ρ ρe:Env} {σ σe:St} {H H':Hp} (r:Rep K c ρ σ H) (hn:H acc=none) (hfo:qkK c nt fr fo) (hf:∀i j,fo=some (i,j)->σe[i]? = (qO nt fr σ)[i]?)
  (q:Rep K (cin (Cn c σ) H (foO fo) (qce σ fo) acc λj=>(qO nt fr σ)[j]?) ρe σe H'):Rep K c (qkJ fo ρe ρ) σ H'/\Gr c.O σ H H':=by
 have kp:∀b o,H b=some o->¬qce σ fo b->H' b=some o:=λb o hb hio=>q.kp b o (by show upd H acc (.lst []) b=some o;rw[qv (qA hb hn)];exact hb) λz=>z.elim hio λe=>absurd e (qA hb hn)
 have clean:∀b,Cl c.O σ b->¬qce σ fo b:=λb hb hio=>by
  cases fo with
  |none=>exact hio
  |some p=>exact hb p.2 hfo.1 hio
 have dom:∀b,H' b=none->H b=none:=λb hb=>by
  have:=q.dm b hb
  by_cases e:b=acc
  ·subst e;exact hn
  ·have this:upd H acc (.lst []) b=none:=this
   rw[qv e]at this;exact this
 have notT:∀b xs,H b=some (.tup xs)->¬qce σ fo b:=λb xs hb hio=>by
  cases fo with
  |none=>exact hio
  |some p=>
   obtain⟨a,ys,e1,e2,_⟩:=r.own p.2 hfo.1 _ hio
   cases e1;rw[hb]at e2;cases e2
 have notF:∀b o u,H b=some (.frz o u)->¬qce σ fo b:=λb o u hb hio=>by
  cases fo with
  |none=>exact hio
  |some p=>
   obtain⟨a,ys,e1,e2,_⟩:=r.own p.2 hfo.1 _ hio
   cases e1;rw[hb]at e2;cases e2
 have gr:Gr c.O σ H H':=⟨⟨λb xs hb=>kp b _ hb (notT b xs hb),λb o u hb=>kp b _ hb (notF b o u hb),λb o hc hb=>kp b o hb (clean b hc)⟩,dom⟩
 refine⟨⟨?_,λk d hd=>?_,λj hj v hv=>?_,r.inj,r.b0,λb o hb hio=>?_,λb hb=>r.dm b (dom b hb),r.pO,r.ps⟩,gr⟩
 ·cases fo with
  |none=>exact r.len
  |some p=>show(ρ.set _ _).length=_;rw[lS_];exact r.len
 ·-- an old slot,or the one that came qkJ
  have oldSlot:ρ[k]? = some (some d)->(∀i,fo≠some (i,k))->∃v,σ[k]? = some (some v)/\((k∈c.O/\∃ds a xs,d=.lst ds/\v=.ref a/\H' a=some (.lst xs)/\IsL K (Cn c σ) H' ds xs)\/(k ∉ c.O/\Is K (Cn c σ) H' d v)):=λhk hne=>by
   obtain⟨v,h1,h2⟩:=r.val k d hk
   refine⟨v,h1,?_⟩
   rcases h2 with⟨hi,ds,a,xs,h3,h5,h6,h7⟩|⟨hi,h3⟩
   ·subst h5
    refine .inl ⟨hi,ds,a,xs,h3,rfl,kp a _ h6 (λhio=>?_),gr.isL h7⟩
    cases fo with
    |none=>exact hio
    |some p=>
     obtain⟨i',j'⟩:=p
     have e:=r.inj k j' a hi hfo.1 h1 hio
     exact hne i' (by rw[e])
   ·exact .inr ⟨hi,gr.is h3⟩
  cases fo with
  |none=>exact oldSlot hd (λi e=>by cases e)
  | some p=>
   obtain⟨i',j'⟩:=p
   have hd':(ρ.set j' (ρe[i']?).join)[k]? = some (some d):=hd
   by_cases e:k=j'
   ·subst e
    have hl:k<ρ.length:=by
     have:=(gI_.mp hd').1
     rwa [lS_]at this
    rw[List.getElem?_set_self hl]at hd'
    have he:ρe[i']? = some (some d):=qaE (yaz hd')
    obtain⟨ds,a,xs,h1,h3,h4,h5⟩:=q.getO (show i'∈foO (some (i',k)) by simp[foO]) he
    have h3':=hf i' k rfl
    rw[h3]at h3'
    obtain⟨k2,j2,e1,e2,e3⟩:=yv h3'.symm
    have hk2:k2=i'-nt:=by omega
    subst hk2
    rw[hfo.2.2.1]at e2
    cases e2
    exact⟨.ref a,e3,.inl ⟨hfo.1,ds,a,xs,h1,rfl,h4,IsL.ext Ext.refl (λb hb _=>hb.1.1) h5⟩⟩
   ·rw[qP e]at hd'
    exact oldSlot hd' (λi e2=>e (by cases e2;rfl))
 ·obtain ⟨a,xs,h1,h2,h3⟩:=r.own j hj v hv
  subst h1
  by_cases hio:qce σ fo a
  ·cases fo with
   |none=>exact hio.elim
   | some p=>
    obtain⟨i',j'⟩:=p
    have hc:(qO nt fr σ)[i']? = some (some (.ref a)):=by
     have:=wG (σ:=σ) (nt:=nt) hfo.2.2.1
     rw[show nt+(i'-nt)=i' by have:=hfo.2.1;omega]at this
     rw[this]
     have hio':σ[j']? = some (some (.ref a)):=hio
     rw[hio'];rfl
    have h3':=hf i' j' rfl
    rw[hc]at h3'
    obtain⟨a',ys,e1,e2,_⟩:=q.own i' (by simp[foO,cin]) _ h3'
    cases e1
    exact⟨a,ys,rfl,e2,h3⟩
  ·exact⟨a,xs,rfl,kp a _ h2 hio,h3⟩
 ·by_cases hio2:qce σ fo b
  ·cases fo with
   |none=>exact hio2.elim
   |some p=>
    obtain⟨a,ys,e1,e2,e3⟩:=r.own p.2 hfo.1 _ hio2
    cases e1
    rcases e3 with e3|e3
    ·rw[hb]at e3;cases e3
    ·exact absurd e3.2 hio
  ·exact kp b o (r.kp b o hb hio) hio2
theorem uo {it elt:Expr} {ifs:List Expr} {scope:Scope} {N':List Str} {nt:Nat} {fr:List Nat} {fo:Option (Nat×Nat)} {f:M (List D)} {g:D->Env->Option Env} {t:M Bool} {k:M D} (hc:X.calm=true) (hi:DI X c tg it f) (S:ya X scope N' nt fr)
  (hfo:qkK c nt fr fo)
  (hb:∀fp cl C s₀ H₀ pn B0 H1 Io' acc S',DG (zR X scope N' fp cl C s₀ H₀ pn) (cin B0 H1 (foO fo) Io' acc S') tg g/\DF (zR X scope N' fp cl C s₀ H₀ pn) (cin B0 H1 (foO fo) Io' acc S') ifs t/\DE (zR X scope N' fp cl C s₀ H₀ pn) (cin B0 H1 (foO fo) Io' acc S') elt k)
  (hs:∀x,ybs it X.env x=pure x:=by intro _;rfl):DE X c (.ListComp elt [⟨tg,it,ifs,0⟩] scope pos) (z7 nt fr fo f g t k):=by
 obtain⟨wi,pi,wI⟩:=hi
 refine⟨_,qkI hc pi S hs,λρ σ H Q r h=>wI ρ σ H _ r (WpI.bnd h λds ρ1 J H1 r1 iok g1 h1=>?_)⟩
 intro acc fp cl C s₀ H₀ pn hn
 obtain⟨⟨tg',pg,wg⟩,⟨tt,pt,wt⟩,⟨te,pe,we⟩⟩:=hb fp cl C s₀ H₀ pn (Cn c σ) H1 (qce σ fo) acc λj=>(qO nt fr σ)[j]?
 refine⟨tg',tt,te,pg,pt,pe,?_⟩
 cases ew:zS g t k ds [] (yE nt fr ρ1) with
 |exc x ρ'=>rw[ew]at h1;exact h1.elim
 |bad=>rw[ew]at h1;exact h1.elim
 | ok p =>
  rw[ew]at h1
  obtain⟨ys,ρe⟩:=p
  have h1:∀v H',Rep X.K c (qkJ fo ρe ρ1) σ H'->Is X.K (Cn c σ) H' (.lst ys) v->Gr c.O σ H1 H'->Q v H':=h1
  have accO:∀j∈foO fo,(qO nt fr σ)[j]? ≠ some (some (.ref acc)):=λj hj e=>by
   have r0:=r1.entry (acc:=acc) hn hfo
   cases fo with
   |none=>cases hj
   |some p=>
    obtain⟨i',j'⟩:=p
    have e2:j=i':=by simpa [foO] using hj
    subst e2
    obtain⟨k2,j2,e1,e2,e3⟩:=yv e
    have hk2:k2=j-nt:=by omega
    subst hk2
    rw[hfo.2.2.1]at e2
    cases e2
    obtain⟨a,us,e4,e5,_⟩:=r1.own j' hfo.1 _ e3
    cases e4;rw[hn]at e5;cases e5
  refine ⟨λi m σ' H'=>m=ds.length-i/\i<=ds.length/\∃ρ' zs xs,Rep X.K (cin (Cn c σ) H1 (foO fo) (qce σ fo) acc λj=>(qO nt fr σ)[j]?) ρ' σ' H'/\(∀j∈foO fo,σ'[j]? = (qO nt fr σ)[j]?)/\H' acc=some (.lst xs)/\IsL X.K (Cn (cin (Cn c σ) H1 (foO fo) (qce σ fo) acc λj=>(qO nt fr σ)[j]?) σ') H' zs xs/\zS g t k (ds.drop i) zs ρ'=.ok (ys,ρe),
   ⟨ds.length,by simp,yaF _,yE nt fr ρ1,[],[],r1.entry hn hfo,λ_ _=>rfl,qu,rfl,by simpa using ew⟩,?_⟩
  rintro i m σ' H' ⟨rfl,hi,ρ',zs,xs,r',so,ha,iz,w⟩
  obtain⟨_,gr⟩:=r1.leave hn hfo (λi j e=>so i (by rw[e];simp[foO])) r'
  have ex:Ext (CnT c σ H1) H1 H':=⟨gr.ext.tup,gr.ext.frz,λb o hb hq=>gr.ext.at_ b o hb.1.2 hq⟩
  have accC:∀τ:St,(∀j∈foO fo,τ[j]? = (qO nt fr σ)[j]?)->Cl (foO fo) τ acc:=λτ hτ j hj e=>accO j hj (by rw[<-hτ j hj];exact e)
  by_cases hlt:i<ds.length
  ·refine .inr ⟨iok.go H' i ds[i] ex (by simp[hlt]),λx H'' y=>?_⟩
   obtain⟨sm,ix⟩:=iok.yl H' i ds[i] x H'' ex (by simp[hlt]) y
   rw[y9 hlt]at w
   unfold zS at w
   have ix2:Is X.K (Cn (cin (Cn c σ) H1 (foO fo) (qce σ fo) acc λj=>(qO nt fr σ)[j]?) σ') H'' ds[i] x:=Is.ext Ext.refl (λa ha _=>⟨⟨ha.1,λe=>by
    have:=ha.2
    rw [e,hn]at this;cases this⟩,λj hj e=>by
     rw[so j hj]at e
     cases fo with
     |none=>cases hj
     |some p=>
      obtain⟨i',j'⟩:=p
      have e2:j=i':=by simpa [foO,cin] using hj
      subst e2
      obtain⟨k2,j2,e1,e2,e3⟩:=yv e
      have hk2:k2=j-nt:=by omega
      subst hk2
      rw[hfo.2.2.1]at e2
      cases e2
      exact ha.1.2 j' hfo.1 e3⟩) ix
   cases e1:g ds[i] ρ' with
   |none=>simp only[e1]at w;cases w
   | some ρ2=>
    simp only[e1]at w
    refine wg ρ' σ' H'' ds[i] x ρ2 _ (r'.same sm) ix2 e1 λσ2 r2 g2 o2=>?_
    have so2:∀j∈foO fo,σ2[j]? = (qO nt fr σ)[j]? := λj hj=>(o2 j hj).trans (so j hj)
    have ha2:H'' acc=some (.lst xs):=sm _ _ ha
    have iz2:=g2.isL (IsL.ext (Ext.of_same sm) (λ_ h _=>h) iz)
    cases e2:t ρ2 with
    |exc x ρ3=>simp only[e2]at w;cases w
    |bad=>simp only[e2]at w;cases w
    | ok p2=>
     obtain⟨bb,ρ3⟩:=p2
     refine wt ρ2 σ2 H'' _ r2 ?_
     rw[e2]
     intro H3 r3 g3
     have ha3:H3 acc=some (.lst xs):=g3.ext.at_ _ _ (accC σ2 so2) ha2
     have iz3:=g3.isL iz2
     cases bb with
     |false=>
      rw[if_neg yas]
      simp only[e2]at w
      exact⟨ds.length-(i+1),by omega,rfl,hlt,ρ3,zs,xs,r3,so2,ha3,iz3,w⟩
     | true=>
      rw[if_pos rfl]
      simp only[e2]at w
      cases e3:k ρ3 with
      |exc x ρ4=>simp only[e3]at w;cases w
      |bad=>simp only[e3]at w;cases w
      | ok p3=>
       obtain⟨d4,ρ4⟩:=p3
       simp only[e3]at w
       refine we ρ3 σ2 H3 _ r3 ?_
       rw[e3]
       intro y4 H4 r4 i4 g4
       have ha4:H4 acc=some (.lst xs):=g4.ext.at_ _ _ (accC σ2 so2) ha3
       have hsz:qW (zs.length+1)=true:=by
        cases e5:qW (zs.length+1) with
        |true=>rfl
        |false=>rw[e5]at w;simp at w
       rw[if_pos hsz]at w
       have hsz':zs.length+1<=yai:=of_decide_eq_true hsz
       have r5:=r4.grow (ys:=xs++[y4]) ha4 (λj hj e=>accC σ2 so2 j hj e)
       have ext5:Ext (Cn (cin (Cn c σ) H1 (foO fo) (qce σ fo) acc λj=>(qO nt fr σ)[j]?) σ2) H4 (upd H4 acc (.lst (xs++[y4]))):=⟨λb us hb=>by rw[qv (jp hb ha4 (by intro z;cases z))];exact hb,λb o u hb=>by rw[qv (jp hb ha4 (by intro z;cases z))];exact hb,λb o hb hq=>by rw[qv hb.1.2];exact hq⟩
       refine⟨xs,ha4,by rw[iz3.length];omega,ds.length-(i+1),by omega,rfl,hlt,ρ4,zs++[d4],xs++[y4],r5,so2,qu,?_,w⟩
       exact IsL.append (IsL.ext ext5 (λ_ h _=>h) (g4.isL iz3)) (IsL.one (Is.ext ext5 (λ_ h _=>h) i4))
  ·have hie:i=ds.length:=by omega
   subst hie
   rw[yc4 (yad _)]at w
   unfold zS at w
   cases w
   obtain⟨r6,g6⟩:=r1.leave hn hfo (λi j e=>so i (by rw[e];simp[foO])) r'
   exact .inl ⟨iok.stop H' ex,h1 _ H' r6 ⟨acc,xs,rfl,r1.new hn,ha,IsL.ext Ext.refl (λa ha hs=>ha.1.1) iz⟩ g6⟩
end
theorem Rep.io {K:Fr0} {c:Fc} {ρ:Env} {σ:St} {H H':Hp} {i:Nat} {a:Addr} {bs:List D} {xs:List V} (r:Rep K c ρ σ H) (hi:i∈c.O) (hs:σ[i]? = some (some (.ref a))) (kp:∀b o,b≠a->H b=some o->H' b=some o)
  (ha:H' a=some (.lst xs)) (him:True) (il:IsL K (Cn c σ) H' bs xs) (dm:∀b,H' b=none->H b=none):Rep K c (ρ.set i (some (.lst bs))) σ H'/\Gr c.O σ H H':=by
 obtain⟨a',xs0,e0,h0,hown⟩:=r.own i hi _ hs
 cases e0
 have gr:Gr c.O σ H H':=⟨⟨λb us hb=>kp b _ (jp hb h0 (by intro z;cases z)) hb,λb o u hb=>kp b _ (jp hb h0 (by intro z;cases z)) hb,λb o hc hb=>kp b o (λe=>hc i hi (by rw[hs,e])) hb⟩,dm⟩
 refine⟨⟨by rw[lS_];exact r.len,λk d hk=>?_,λj hj v hv=>?_,r.inj,r.b0,λb o hb hio=>?_,λb hb=>r.dm b (dm b hb),r.pO,r.ps⟩,gr⟩
 ·by_cases e:k=i
  ·subst e
   have hl:k<ρ.length:=by
    have:=(gI_.mp hk).1
    rwa [lS_]at this
   rw[List.getElem?_set_self hl]at hk
   cases hk
   exact⟨.ref a,hs,.inl ⟨hi,bs,a,xs,rfl,rfl,ha,il⟩⟩
  ·rw [qP e]at hk
   obtain⟨v,h1,h2⟩:=r.val k d hk
   refine⟨v,h1,?_⟩
   rcases h2 with⟨hk2,ds,b,ys,h3,h5,h6,h7⟩|⟨hk2,h3⟩
   ·subst h5
    have ne:b≠a:=λe2=>e (r.inj k i a hk2 hi (by rw[h1,e2]) hs)
    exact .inl ⟨hk2,ds,b,ys,h3,rfl,kp b _ ne h6,gr.isL h7⟩
   ·exact .inr ⟨hk2,gr.is h3⟩
 ·obtain⟨b,ys,h1,h2,h3⟩:=r.own j hj v hv
  subst h1
  by_cases e:b=a
  ·subst e;exact⟨b,xs,rfl,ha,h3⟩
  ·exact⟨b,ys,rfl,kp b _ e h2,h3⟩
 ·have ne:b≠a:=λe=>by
   subst e
   rcases hown with z|z
   ·rw[hb]at z;cases z
   ·exact hio z.2
  exact kp b o ne (r.kp b o hb hio)
def zH (i:Nat) (ρ:Env):Option (List D):=match ρ[i]? with
 |some (some (.lst ds))=>some ds
 |_=>none
theorem qgv {i:Nat} {ρ:Env} {ds:List D} (h:zH i ρ=some ds):ρ[i]? = some (some (.lst ds)):=by
 unfold zH at h
 split at h
 ·rename_i e;cases h;exact e
 ·cases h
theorem Rep.getLO {K:Fr0} {c:Fc} {ρ:Env} {σ:St} {H:Hp} (r:Rep K c ρ σ H) {i:Nat} {ds:List D} (hi:i∈c.O) (h:zH i ρ=some ds) :
  ∃a xs,True/\σ[i]? = some (some (.ref a))/\H a=some (.lst xs)/\IsL K (Cn c σ) H ds xs:=by
 obtain⟨ds',a,xs,h1,h3,h4,h5⟩:=r.getO hi (qgv h)
 cases h1
 exact⟨a,xs,trivial,h3,h4,h5⟩
theorem zh{H:Hp}{a b:Addr}{o u:HO}(h:b≠a)(hb:H b=some o):upd H a u b=some o:=by rw[qv h];exact hb
theorem uq {H:Hp} {a b:Addr} {u:HO} (h:upd H a u b=none):H b=none:=by
 by_cases e:b=a
 ·subst e;rw[qu]at h;cases h
 ·rw[qv e]at h;exact h
section
variable{X:Cx}{c:Fc}{a b e:Expr}{pos:Pos}
def yU (i:Nat) (f:M D):M D:=λρ=>match zH i ρ with
 |none => .bad
 |some _=>(bnd f λd ρ=>match zH i ρ with
  |some ds=>if imm d&&qW (ds.length+1)then .ok (.non,ρ.set i (some (.lst (ds++[d]))))else .bad
  |none => .bad) ρ
theorem qcB {i:Nat} {x:Str} {p1 apos:Pos} {f:M D} (he:DE X c e f) (ho:i∈c.O:=by exact of_decide_eq_true rfl) (hN:X.N[i]? = some x:=by rfl) (hv:Vis X.env.scope x:=by first|exact ya7 rfl|exact yaN (ya7 rfl)|exact yaN (yaN rfl)) (hd:(x==("__debug__":Str))=false:=by decide) (hcd:(x==("__classdict__":Str))=false:=by decide)
  (hbase:yc9 (.Name x p1) "append" X.env (eval (.Name x p1) X.env)=eval (.Name x p1) X.env:=by rfl)
  (hfew:((yaX pos (yah [e] X.env)).all (λx => !x.1)&&(yfj pos (ydE [] X.env)).all (λx=>x.1.isSome)
   && decide ([e].length+([]:List ycy).length+(if([]:List ycy).isEmpty then 0 else 1)<30))=true:=by rfl)
  (hline:(apos.endLine==pos.line)=true:=by rfl) (hs:yah [e] X.env=(false,eval e X.env)::yah [] X.env:=by rfl) (hplain:(yaX pos (yah [] X.env)).any (·.1)=false:=by rfl) :
  DE X c (.Call (.Attribute (.Name x p1) "append" apos) [e] [] pos) (yU i f):=by
 obtain⟨t,p,w⟩:=he
 refine⟨_,qmy yeB PySem.F.slot_list_append PySem.F.type_list_append qau (wW hN hv hd hcd) (yS p qar hs) hbase hfew hline hs hplain,λρ σ H Q r h=>?_⟩
 unfold yU at h
 cases e0:zH i ρ with
 |none=>rw[e0]at h;exact h.elim
 | some ds0=>
  simp only[e0]at h
  obtain⟨l,xs0,_,hl,hH,_⟩:=r.getLO ho e0
  refine⟨.ref l,hl,.inl ⟨rfl,xs0,.inl (.inl hH)⟩,w ρ σ H _ r (Wp.bnd h λd ρ1 v H1 r1 i1 g1 h1=>?_)⟩
  cases e1:zH i ρ1 with
  |none=>simp only[e1]at h1;exact h1.elim
  | some ds=>
   simp only[e1]at h1
   by_cases hb:(imm d&&qW (ds.length+1))=true
   ·rw [if_pos hb]at h1
    rw[yam]at hb
    obtain⟨l',xs,him,hl',hH',il⟩:=r1.getLO ho e1
    rw[hl]at hl'
    cases hl'
    have hsz:ds.length+1<=yai:=of_decide_eq_true hb.2
    have ext:Ext (Cn c σ) H1 (upd H1 l (.lst (xs++[v]))):=⟨λb us hb=>zh (jp hb hH' (by intro z;cases z)) hb,λb o u hb=>zh (jp hb hH' (by intro z;cases z)) hb,λb o hb hq=>zh (λe=>hb.2 i ho (by rw[hl,e])) hq⟩
    obtain ⟨r2,g2⟩:=r1.io (H':=upd H1 l (.lst (xs++[v]))) (bs:=ds++[d]) ho hl (λb o hb ho=>zh hb ho) qu trivial
     (IsL.append (IsL.ext ext (λ_ h _=>h) il) (IsL.one (Is.ext ext (λ_ h _=>h) i1))) (λb hb=>uq hb)
    exact⟨l,xs,v,rfl,rfl,hH',by rw[il.length];omega,h1 _ _ r2 rfl g2⟩
   ·rw[if_neg hb]at h1;exact h1.elim
def qbL (i:Nat) (k f:M D):MS:=sbnd f λd ρ=>match zH i ρ with
 |none => .bad
 | some _=>(sbnd k λj ρ=>match j,zH i ρ with
  |.int n,some ds=>match ixN ds.length n with
   |some q=>if imm d then .ok (.nx (ρ.set i (some (.lst (ds.set q d)))))else .bad
   |none => .bad
  |_,_ => .bad) ρ
theorem qgw {i:Nat} {x:Str} {p1 p2:Pos} {ke:Expr} {f k:M D} (he:DE X c e f) (hk:DE X c ke k) (ho:i∈c.O:=by exact of_decide_eq_true rfl) (hN:X.N[i]? = some x:=by rfl) (hv:Vis X.env.scope x:=by first|exact ya7 rfl|exact yaN (ya7 rfl)|exact yaN (yaN rfl)) (hd:(x==("__debug__":Str))=false:=by decide) (hcd:(x==("__classdict__":Str))=false:=by decide)
  (ha:∀v,yb3 (.Subscript (.Name x p1) ke p2) X.env v=(do
   let ov <-ybZ [v] (eval (.Name x p1) X.env)
   let iv <-ybZ [v,ov] (eval ke X.env)
   ye2 p2
   ybZ [v,ov,iv] (ye3 ov iv v)
   release [v,ov,iv] []):=by intro _;rfl)
  (hs:yct [.Subscript (.Name x p1) ke p2] e pos.line X.env=pure false:=by rfl) (hw:ycu [.Subscript (.Name x p1) ke p2] e X.env=pure none:=by rfl) (h1:(ybw [.Subscript (.Name x p1) ke p2] X.env).map (·.2)=[yb3 (.Subscript (.Name x p1) ke p2) X.env]:=by rfl) :
  DS X c (.Assign [.Subscript (.Name x p1) ke p2] e pos) (qbL i k f):=by
 obtain⟨t,p,w⟩:=he
 obtain⟨tk,pk,wk⟩:=hk
 refine⟨_,qf0 p (qfZ (wW hN hv hd hcd) pk qbG ha) hs hw h1,λρ σ H D r h=>w ρ σ H _ r (Wp.sbnd h λd ρ1 v H1 r1 i1 g1 h1=>?_)⟩
 cases e0:zH i ρ1 with
 |none=>simp only[e0]at h1;exact h1.elim
 | some ds0=>
  simp only[e0]at h1
  obtain⟨l,xs0,_,hl,hH,_⟩:=r1.getLO ho e0
  refine⟨.ref l,hl,wk ρ1 σ H1 _ r1 (Wp.sbnd h1 λj ρ2 u H2 r2 i2 g2 h2=>?_)⟩
  cases j with
  | int n=>
   cases e1:zH i ρ2 with
   |none=>simp only[e1]at h2;exact h2.elim
   | some ds=>
    simp only[e1]at h2
    cases e2:ixN ds.length n with
    |none=>simp only[e2]at h2;exact h2.elim
    | some q=>
     simp only[e2]at h2
     by_cases hb:imm d=true
     ·rw [if_pos hb]at h2
      obtain⟨l',xs,him,hl',hH',il⟩:=r2.getLO ho e1
      rw[hl]at hl'
      cases hl'
      cases i2
      have i3:=g2.is i1
      have ext:Ext (Cn c σ) H2 (upd H2 l (.lst (xs.set q v))):=⟨λb us hb=>zh (jp hb hH' (by intro z;cases z)) hb,λb o u hb=>zh (jp hb hH' (by intro z;cases z)) hb,λb o hb hq=>zh (λe=>hb.2 i ho (by rw[hl,e])) hq⟩
      obtain ⟨r3,g3⟩:=r2.io (H':=upd H2 l (.lst (xs.set q v))) (bs:=ds.set q d) ho hl (λb o hb ho=>zh hb ho) qu trivial
       (IsL.set (Is.ext ext (λ_ h _=>h) i3) q (IsL.ext ext (λ_ h _=>h) il)) (λb hb=>uq hb)
      exact⟨l,xs,n,q,rfl,rfl,hH',by rw[il.length];exact e2,h2 σ _ r3 g3.s⟩
     ·rw[if_neg hb]at h2;exact h2.elim
  |_=>exact h2.elim
structure qiq (K:Fr0) (c:Fc) (ρ:Env) (σ:St) (H:Hp) (a:Addr):Prop where
 val:∀i d v,ρ[i]? = some (some d)->i ∉ c.O->σ[i]? = some (some v)->Is K (λb=>Cn c σ b/\b≠a) H d v
 cont:∀i ds b xs,ρ[i]? = some (some (.lst ds))->i∈c.O->σ[i]? = some (some (.ref b))->H b=some (.lst xs)->IsL K (Cn c σ) H ds xs->IsL K (λb=>Cn c σ b/\b≠a) H ds xs
 own:∀j∈c.O,σ[j]? ≠ some (some (.ref a))
 new:c.H0 a=none
theorem Is.fresh{K:Fr0}{A:Addr->Prop}{H:Hp}{d:D}{v:V}{a:Addr}(h:Is K A H d v)(hn:H a=none):Is K (λb=>A b/\b≠a) H d v:=Is.ext Ext.refl (λb h1 h2=>⟨h1,λe=>by rw[e,hn]at h2;cases h2⟩) h
theorem Rep.apart {K:Fr0} {ρ:Env} {σ:St} {H:Hp} {a:Addr} {o:HO} (r:Rep K c ρ σ H) (hn:H a=none):qiq K c ρ σ (upd H a o) a where
 val:=λi d v h1 h2 h3=>by
  obtain⟨w,h4,h5⟩:=r.get h2 h1
  rw[h3]at h4
  cases h4
  exact Is.ext (Ext.of_same (qx hn _)) (λ_ h _=>h) (h5.fresh hn)
 cont:=λi ds b xs h1 h2 h3 h4 _=>by
  obtain⟨ds',a',ys,e1,e2,e3,e4⟩:=r.getO h2 h1
  cases e1
  rw[h3]at e2
  cases e2
  have:=qx hn o _ _ e3
  rw[h4]at this
  cases this
  exact IsL.ext (Ext.of_same (qx hn _)) (λb hb hs=>⟨hb,λe=>by rw[e,hn]at hs;cases hs⟩) e4
 own:=λj hj e=>(r.new hn).2 j hj e
 new:=r.dm a hn
theorem Rep.apart_same {K:Fr0} {ρ:Env} {σ:St} {H H':Hp} {a:Addr} (r:Rep K c ρ σ H) (hn:H a=none) (sm:jE H H'):qiq K c ρ σ H' a where
 val:=λi d v h1 h2 h3=>by
  obtain⟨w,h4,h5⟩:=r.get h2 h1
  rw[h3]at h4
  cases h4
  exact Is.ext (Ext.of_same sm) (λ_ h _=>h) (h5.fresh hn)
 cont:=λi ds b xs h1 h2 h3 h4 _=>by
  obtain⟨ds',a',ys,e1,e2,e3,e4⟩:=r.getO h2 h1
  cases e1
  rw[h3]at e2
  cases e2
  have:=sm _ _ e3
  rw[h4]at this
  cases this
  exact IsL.ext (Ext.of_same sm) (λb hb hs=>⟨hb,λe=>by rw[e,hn]at hs;cases hs⟩) e4
 own:=λj hj e=>(r.new hn).2 j hj e
 new:=r.dm a hn
def WpN (K:Fr0) (c:Fc) (σ:St) (H:Hp) (Q:VK):R (List D×Env)->Prop
 |.ok (ds,ρ)=>∀a xs H',H a=none->Rep K c ρ σ H'->qiq K c ρ σ H' a->H' a=some (.lst xs)->True->IsL K (λb=>Cn c σ b/\b≠a) H' ds xs->Gr c.O σ H H'->Q (.ref a) H'
 |.exc x ρ=>∀H',Rep K c ρ σ H'->Gr c.O σ H H'->c.E x H'
 |.bad=>False
def DN(X:Cx)(c:Fc)(e:Expr)(f:M (List D)):Prop:=∃t,PE X e t/\∀ρ σ H Q,Rep X.K c ρ σ H->WpN X.K c σ H Q (f ρ)->t σ H Q
theorem WpN.gr {K:Fr0} {σ:St} {H H1:Hp} {Q:VK}:∀{r:R (List D×Env)},WpN K c σ H Q r->Gr c.O σ H H1->WpN K c σ H1 Q r
 |.ok (d,ρ),h,g=>λa xs H' hn h1 h2 h3 h4 h5 hg=>h a xs H' (g.dom a hn) h1 h2 h3 h4 h5 (g.trans hg)
 |.exc x ρ,h,g=>λH' hr hg=>h H' hr (g.trans hg)
 |.bad,h,_=>h
theorem WpL.bndN {K:Fr0} {σ:St} {H:Hp} {Q:VK} {f:M (List D)} {k:List D->M (List D)} {ρ:Env} {Q':List V->Hp->Prop} (h:WpN K c σ H Q (Sk.bnd f k ρ)) (hQ:∀d ρ' v H',Rep K c ρ' σ H'->IsL K (Cn c σ) H' d v->Gr c.O σ H H'->WpN K c σ H' Q (k d ρ')->Q' v H'):WpL K c σ H Q' (f ρ):=by
 unfold Sk.bnd at h
 cases e:f ρ with
 |ok p=>rw[e]at h;exact λv H' hr hi hg=>hQ p.1 p.2 v H' hr hi hg (h.gr hg)
 |exc x ρ'=>rw[e]at h;exact h
 |bad=>rw[e]at h;exact h
def qmQ(f:M (List D)):M (List D):=bnd f λds=>lift (if immL ds&&qW ds.length then some ds else none)
theorem qjC {es:List Expr} {f:M (List D)} (h:DA X c es f):DN X c (.List es pos) (qmQ f):=by
 obtain⟨t,p,w⟩:=h
 refine⟨_,qjt p,λρ σ H Q r h=>w ρ σ H _ r (WpL.bndN h λds ρ1 vs H1 r1 i1 g1 h1=>?_)⟩
 by_cases hb:(immL ds&&qW ds.length)=true
 ·rw[if_pos hb]at h1
  rw[yam]at hb
  refine⟨by rw[i1.length];exact of_decide_eq_true hb.2,λp hp=>?_⟩
  exact h1 p vs _ hp (r1.laid hp _) (r1.apart hp) qu trivial (IsL.ext (Ext.of_same (qx hp _)) (λb h hs=>⟨h,λe=>by rw[e,hp]at hs;cases hs⟩) i1) (.of_same (qx hp _))
 ·rw[if_neg hb]at h1;exact h1.elim
theorem Cl.setO {O:List Nat} {σ:St} {i:Nat} {a b:Addr} (h:Cl O σ b) (hb:b≠a):Cl O (σ.set i (some (.ref a))) b:=λj hj e=>by
 by_cases hji:j=i
 ·subst hji
  have hl:j<σ.length:=by
   have:=(gI_.mp e).1
   rwa [lS_]at this
  rw[List.getElem?_set_self hl]at e
  cases e
  exact hb rfl
 ·rw[qP hji]at e
  exact h j hj e
theorem Rep.setO {K:Fr0} {ρ:Env} {σ:St} {H:Hp} {i:Nat} {a:Addr} {ds:List D} {xs:List V} (r:Rep K c ρ σ H) (hi:i∈c.O) (hP:i ∉ c.P) (ap:qiq K c ρ σ H a) (ha:H a=some (.lst xs)) (him:True) (il:IsL K (λb=>Cn c σ b/\b≠a) H ds xs) :
  Rep K c (ρ.set i (some (.lst ds))) (σ.set i (some (.ref a))) H where
 len:=by rw[lS_,lS_];exact r.len
 val := λj e hj=>by
  by_cases e1:j=i
  ·subst e1
   have hl:j<ρ.length:=by
    have:=(gI_.mp hj).1
    rwa [lS_]at this
   rw[List.getElem?_set_self hl]at hj
   cases hj
   exact⟨.ref a,List.getElem?_set_self (by rw[<-r.len];exact hl),.inl ⟨hi,ds,a,xs,rfl,rfl,ha,IsL.ext Ext.refl (λb hb _=>⟨hb.1.1,hb.1.2.setO hb.2⟩) il⟩⟩
  ·rw [qP e1]at hj
   obtain⟨w,h1,h2⟩:=r.val j e hj
   refine⟨w,by rw[qP e1];exact h1,?_⟩
   rcases h2 with⟨g1,ds',b',xs',g3,g5,g6,g7⟩|⟨h3,h4⟩
   ·subst g3 g5
    exact .inl ⟨g1,ds',b',xs',rfl,rfl,g6,IsL.ext Ext.refl (λb hb _=>⟨hb.1.1,hb.1.2.setO hb.2⟩) (ap.cont j ds' b' xs' hj g1 h1 g6 g7)⟩
   ·exact .inr ⟨h3,Is.ext Ext.refl (λb hb _=>⟨hb.1.1,hb.1.2.setO hb.2⟩) (ap.val j e w hj h3 h1)⟩
 own := λj hj w h=>by
  by_cases e1:j=i
  ·subst e1
   have hl:j<σ.length:=by
    have:=(gI_.mp h).1
    rwa [lS_]at this
   rw[List.getElem?_set_self hl]at h
   cases h
   exact⟨a,xs,rfl,ha,.inl ap.new⟩
  ·rw[qP e1]at h
   exact r.own j hj w h
 inj := λj k b hj hk h1 h2=>by
  by_cases e1:j=i
  ·by_cases e2:k=i
   ·rw[e1,e2]
   ·subst e1
    have hl:j<σ.length:=by
     have:=(gI_.mp h1).1
     rwa [lS_]at this
    rw[List.getElem?_set_self hl]at h1
    cases h1
    rw[qP e2]at h2
    exact absurd h2 (ap.own k hk)
  ·by_cases e2:k=i
   ·subst e2
    have hl:k<σ.length:=by
     have:=(gI_.mp h2).1
     rwa [lS_]at this
    rw[List.getElem?_set_self hl]at h2
    cases h2
    rw[qP e1]at h1
    exact absurd h1 (ap.own j hj)
   ·rw[qP e1]at h1
    rw[qP e2]at h2
    exact r.inj j k b hj hk h1 h2
 b0:=r.b0
 kp:=r.kp
 dm:=r.dm
 pO:=r.pO
 ps:=λj hj=>by
  have e:j≠i:=λe=>hP (e▸hj)
  rw[qP e];exact r.ps j hj
def vN(i:Nat)(f:M (List D)):MS:=sbnd f λds ρ => .ok (.nx (ρ.set i (some (.lst ds))))
theorem qaF {i:Nat} {x:Str} {pos':Pos} {f:M (List D)} (hN:X.N.Nodup) (he:DN X c e f) (ho:i∈c.O:=by exact of_decide_eq_true rfl) (hP:i ∉ c.P:=by exact of_decide_eq_false rfl) (hi:X.N[i]? = some x:=by rfl) (hx:Loc X.env.scope x:=by first|exact ya7 rfl|exact yaN rfl) (hs:ycK e (some (.Name x pos')) pos.line X.env=pure false:=by rfl) (hf:X.fn x=true\/X.env.scope.names.lookup x=some .local:=by first|exact .inl rfl|exact .inr rfl|assumption) :
  DS X c (.Assign [.Name x pos'] e pos) (vN i f):=by
 obtain⟨t,p,w⟩:=he
 refine⟨_,qbl hN hi hx p hs hf,λρ σ H D r h=>w ρ σ H _ r ?_⟩
 unfold vN sbnd at h
 cases ef:f ρ with
 |bad=>rw[ef]at h;exact h
 |exc z ρ'=>rw[ef]at h;exact λH' hr hg=>h σ H' hr hg.s
 |ok q=>
  rw[ef]at h
  intro a xs H' hn r' ap ha him il g'
  exact h _ H' (r'.setO ho hP ap ha him il) ⟨g'.ext,λb hb hs=>hb.setO (λe=>by rw[e,hn]at hs;exact absurd hs (by simp)),g'.dom⟩
def qmR (i:Nat):M D:=λρ=>match zH i ρ with
 |some ds => .ok (.int ds.length,ρ)
 |none => .bad
def qbM (i:Nat):M D:=λρ=>match zH i ρ with
 |some ds => .ok (.tup ds,ρ)
 |none => .bad
theorem qgx {i:Nat} {x:Str} {p p1:Pos} (hg:Gl X "tuple") (hm:X.mg "tuple"=none) (hb:yaA "tuple"=some (.type "tuple"):=by first|rfl|exact PySem.boot_tuple) (ho:i∈c.O:=by exact of_decide_eq_true rfl) (hN:X.N[i]? = some x:=by rfl) (hv:Vis X.env.scope x:=by first|exact ya7 rfl|exact yaN (ya7 rfl)|exact yaN (yaN rfl)) (hd:(x==("__debug__":Str))=false:=by decide) (hcd:(x==("__classdict__":Str))=false:=by decide) :
  DE X c (.Call (.Name "tuple" p) [.Name x p1] [] pos) (qbM i):=by
 refine⟨_,vZ yo hg hm hb (yS (wW hN hv hd hcd) qar),λρ σ H Q r h=>?_⟩
 unfold qbM at h
 cases e0:zH i ρ with
 |none=>simp only[e0]at h;exact h.elim
 |some ds=>
  simp only[e0]at h
  obtain⟨l,xs,him,hl,hH,il⟩:=r.getLO ho e0
  refine⟨.ref l,hl,l,xs,rfl,.inl ⟨.inl (.inl hH),λp hp=>h _ _ (r.laid hp _) ⟨p,xs,rfl,.inl qu,?_⟩ (.of_same (qx hp _))⟩⟩
  exact IsL.ext (Ext.of_same (qx hp _)) (λ_ h _=>h) il
def qc9 (i:Nat) (g:M D):M D:=λρ=>match zH i ρ with
 |none => .bad
 | some _=>(bnd g λk ρ=>match k,zH i ρ with
  |.int n,some ds=>match atI ds n with
   |some d => .ok (d,ρ)
   |none => .bad
  |_,_ => .bad) ρ
theorem qd9 {i:Nat} {x:Str} {p1:Pos} {g:M D} (hb:DE X c b g) (hs:qdi b:=by intro _ _;rfl) (ho:i∈c.O:=by exact of_decide_eq_true rfl) (hN:X.N[i]? = some x:=by rfl) (hv:Vis X.env.scope x:=by first|exact ya7 rfl|exact yaN (ya7 rfl)|exact yaN (yaN rfl)) (hd:(x==("__debug__":Str))=false:=by decide) (hcd:(x==("__classdict__":Str))=false:=by decide) :
  DE X c (.Subscript (.Name x p1) b pos) (qc9 i g):=by
 obtain⟨tb,pb,wb⟩:=hb
 refine⟨_,qmv qgj (wW hN hv hd hcd) pb hs,λρ σ H Q r h=>?_⟩
 unfold qc9 at h
 cases e0:zH i ρ with
 |none=>simp only[e0]at h;exact h.elim
 | some ds0=>
  simp only[e0]at h
  obtain⟨l,xs0,_,hl,hH,_⟩:=r.getLO ho e0
  refine⟨.ref l,hl,wb ρ σ H _ r (Wp.bnd h λk ρ1 v H1 r1 i1 g1 h1=>?_)⟩
  cases k with
  | int n=>
   cases e1:zH i ρ1 with
   |none=>simp only[e1]at h1;exact h1.elim
   | some ds=>
    simp only[e1]at h1
    cases e2:atI ds n with
    |none=>simp only[e2]at h1;exact h1.elim
    |some d=>
     simp only[e2]at h1
     obtain⟨l',xs,him,hl',hH',il⟩:=r1.getLO ho e1
     rw[hl]at hl'
     cases hl'
     cases i1
     obtain⟨w,h3,h4⟩:=il.atI e2
     exact⟨l,xs,n,w,rfl,rfl,.inl (.inl hH'),h3,h1 w H1 r1 h4 .refl⟩
  |_=>exact h1.elim
def qir (i:Nat):MS:=λρ=>match zH i ρ with
 |some ds => .ok (.rt (.lst ds) ρ)
 |none => .bad
theorem qgy {i:Nat} {x:Str} {p1:Pos} (ho:i∈c.O:=by exact of_decide_eq_true rfl) (hP:i ∉ c.P:=by exact of_decide_eq_false rfl) (hN:X.N[i]? = some x:=by rfl) (hv:Vis X.env.scope x:=by first|exact ya7 rfl|exact yaN (ya7 rfl)|exact yaN (yaN rfl)) (hd:(x==("__debug__":Str))=false:=by decide) (hcd:(x==("__classdict__":Str))=false:=by decide) :
  DS X c (.Return (some (.Name x p1)) pos) (qir i):=by
 refine⟨_,qjp (wW hN hv hd hcd),λρ σ H D r h=>?_⟩
 unfold qir at h
 cases e0:zH i ρ with
 |none=>simp only[e0]at h;exact h.elim
 | some ds=>
  simp only[e0]at h
  obtain⟨l,xs,him,hl,hH,il⟩:=r.getLO ho e0
  obtain⟨a,ys,e1,e2,e3⟩:=r.own i ho _ hl
  cases e1
  have hB:c.B l:=by
   rcases e3 with z|z
   ·exact r.b0.1 l z
   ·exact absurd z.1 hP
  exact⟨.ref l,hl,h (.ref l) σ H r ⟨l,xs,rfl,hB,hH,IsL.ext Ext.refl (λ_ h _=>h.1) il⟩ .refl⟩
end
def cfn (O P:List Nat) (A:Addr->Prop) (H:Hp) (Io:Addr->Prop) (E:Exn->Hp->Prop) (S:Nat->Option (Option V)):Fc where
 O:=O
 P:=P
 B:=λa=>A a\/H a=none
 H0:=H
 Io:=Io
 E:=E
 S:=S
def uS(n:Nat)(ds:List D):Env:=ds.map some++yau (n-ds.length) none
def spD (K:Fr0) (F:List D->R D):Sp:=λvs H Q _=>∃ds A,IsL K A H ds vs/\qgm K H/\match F ds with
 |.ok d=>∀v H',jE H H'->Is K (λa=>A a\/H a=none) H' d v->Q v H'
 |_=>False
def qfT (K:Fr0) (F:List D->List D->R (D×List D)):Sp:=λvs H Q _=>∃(bs ds:List D)(A:Addr->Prop)(a:Addr)(xs vs':List V),vs=.ref a::vs'/\H a=some (.lst xs)/\qgm K H/\IsL K A H bs xs/\¬A a/\IsL K A H ds vs'/\match F bs ds with
 |.ok (d,bs')=>∀v H' xs',(∀b o,b≠a->H b=some o->H' b=some o)->(∀b,H' b=none->H b=none)->H' a=some (.lst xs')->True->IsL K (λb=>A b\/H b=none) H' bs' xs'->Is K (λb=>A b\/H b=none) H' d v->Q v H'
 |_=>False
def dfn (n p:Nat) (body:MS) (ds:List D):R D:=if ds.length=p then match body (uS n ds) with
 |.ok (.rt d _) => .ok d
 |.ok (.nx _) => .ok .non
 |_ => .bad else .bad
def wH (n p:Nat) (body:MS) (bs ds:List D):R (D×List D):=if ds.length+1=p then match body (uS n (.lst bs::ds)) with
 |.ok (.rt d ρ)=>match zH 0 ρ with
  |some bs' => .ok (d,bs')
  |none => .bad
 |.ok (.nx ρ)=>match zH 0 ρ with
  |some bs' => .ok (.non,bs')
  |none => .bad
 |_ => .bad else .bad
theorem v8 {N:List Str} {vs:List V} {i:Nat} {v:V} (h:(start N vs)[i]? = some (some v)):vs[i]? = some v:=by
 unfold start at h
 by_cases hi:i<vs.length
 ·rw[List.getElem?_append_left (by simpa using hi),gM_]at h
  cases e:vs[i]? with
  |none=>rw[e]at h;cases h
  |some w=>rw[e]at h;cases h;rfl
 ·rw[List.getElem?_append_right (by simpa using hi),List.getElem?_replicate]at h
  split at h<;>cases h
theorem qak {N:List Str} {vs:List V} {i:Nat} {v:V} (h:vs[i]? = some v):(start N vs)[i]? = some (some v):=by
 unfold start
 have hi:i<vs.length:=(gI_.mp h).1
 rw[List.getElem?_append_left (by simpa using hi),gM_,h];rfl
theorem qcC {n:Nat} {ds:List D} {i:Nat} {d:D} (h:(uS n ds)[i]? = some (some d)):ds[i]? = some d:=by
 unfold uS at h
 by_cases hi:i<ds.length
 ·rw[List.getElem?_append_left (by simpa using hi),gM_]at h
  cases e:ds[i]? with
  |none=>rw[e]at h;cases h
  |some w=>rw[e]at h;cases h;rfl
 ·rw[List.getElem?_append_right (by simpa using hi),List.getElem?_replicate]at h
  split at h<;>cases h
theorem qgz {K:Fr0} {N:List Str} {O:List Nat} {A:Addr->Prop} {H:Hp} {E:Exn->Hp->Prop} {ds:List D} {vs:List V} (il:IsL K A H ds vs) (tb:qgm K H) (hO:∀i∈O,ds.length<=i) :
  Rep K (cfn O [] A H (λ_=>False) E λ_=>none) (uS N.length ds) (start N vs) H where
 len:=by unfold uS start;simp[il.length]
 val:=λi d h=>by
  have h1:=qcC h
  obtain⟨v,h2,h3⟩:=il.get h1
  have hi:i ∉ O:=λz=>by
   have:=(gI_.mp h1).1
   have:=hO i z
   omega
  refine⟨v,qak h2,.inr ⟨hi,Is.ext Ext.refl (λa ha _=>⟨.inl ha,λj hj e=>?_⟩) h3⟩⟩
  have:=(gI_.mp (v8 e)).1
  have:=hO j hj
  rw[il.length]at *
  omega
 own:=λj hj v h=>by
  have:=(gI_.mp (v8 h)).1
  have:=hO j hj
  rw[il.length]at *
  omega
 inj:=λi j a hi hj h1 h2=>by
  have:=(gI_.mp (v8 h1)).1
  have:=hO i hi
  rw[il.length]at *
  omega
 b0:=⟨λa h => .inr h,tb⟩
 kp:=λb o h _=>h
 dm:=λb h=>h
 pO:=λj hj=>by cases hj
 ps:=λj hj=>by cases hj
section
variable{P:yan}{w:World}{K:yal}{mg:Str->Option Value}{base:Heap}
theorem qT {x qual:Str} {st:Stmt} {f:Addr} {fd:yaZ} {N ps:List Str} {k:Nat} {O:List Nat} {body:MS} (F:Fun K x qual st f fd) (S:qH N ps (qd st)) (hO:∀i∈O,ps.length<=i)
  (hb:∀(cdv:Value)(A:yav)(outer:List ydk)(s:yab)(H:Hp)(E:XK)(B:Addr->Prop),uE k (A.deeper (yc2 qual (qd st) s.heap.objs.size f cdv)) ->
   DSs (qju CX0 P w K mg base N qual (qd st) f cdv A outer s H E).nox (cfn O [] B H (λ_=>False) (λ_ _=>False) λ_=>none) (qC st) body) :
  qbd P w K mg base CX0 (k+1) f fd ps (spD K (dfn N.length ps.length body)):=by
 refine F.ok S (λvs H Q E h=>?_) (λcdv A outer s H vs Q E hr h=>?_)
 ·obtain⟨ds,B,il,_,h⟩:=h
  unfold dfn at h
  by_cases e:ds.length=ps.length
  ·rw[il.length];exact e
  ·rw[if_neg e]at h;exact h.elim
 ·obtain ⟨ds,B,il,tb,h⟩:=h
  obtain⟨t,p,wt⟩:=hb cdv A outer s H E B hr
  refine⟨t,p,?_⟩
  unfold dfn at h
  by_cases e:ds.length=ps.length
  ·rw [if_pos e]at h
   refine wt (uS N.length ds) (start N vs) H _ (qgz il tb (λi hi=>by rw[e];exact hO i hi)) ?_
   have same:∀{ρ:Env}{σ:St}{H':Hp},Rep K (cfn O [] B H (λ_=>False) (λ_ _=>False) λ_=>none) ρ σ H'->jE H H':=λr b o hb=>r.kp b o hb λz=>z
   cases eb:body (uS N.length ds) with
   |bad=>rw[eb]at h;exact h.elim
   |exc z ρ=>rw[eb]at h;exact h.elim
   |ok fl=>
    rw[eb]at h
    cases fl with
    |nx ρ=>exact λσ' H' r' _=>h .non H' (same r') rfl
    |rt d ρ=>exact λv σ' H' r' i' _=>h v H' (same r') i'
    |bk ρ=>exact h.elim
    |ct ρ=>exact h.elim
  ·rw[if_neg e]at h;exact h.elim
theorem qis {x qual:Str} {st:Stmt} {f:Addr} {fd:yaZ} {N ps:List Str} {k:Nat} {O:List Nat} {body:MS} (F:Fun K x qual st f fd) (S:qH N ps (qd st)) (hO:∀i∈O,i=0\/ps.length<=i) (h0:0∈O)
  (hb:∀(cdv:Value)(A:yav)(outer:List ydk)(s:yab)(H:Hp)(E:XK)(B Io:Addr->Prop)(S:Nat->Option (Option V)),uE k (A.deeper (yc2 qual (qd st) s.heap.objs.size f cdv)) ->
   DSs (qju CX0 P w K mg base N qual (qd st) f cdv A outer s H E).nox (cfn O [0] B H Io (λ_ _=>False) S) (qC st) body) :
  qbd P w K mg base CX0 (k+1) f fd ps (qfT K (wH N.length ps.length body)):=by
 refine F.ok S (λvs H Q E h=>?_) (λcdv A outer s H vs Q E hr h=>?_)
 ·obtain⟨bs,ds,B,a,xs,vs',rfl,ha,him,ib,nA,il,h⟩:=h
  unfold wH at h
  by_cases e:ds.length+1=ps.length
  ·rw[lC_,il.length];exact e
  ·rw[if_neg e]at h;exact h.elim
 ·obtain ⟨bs,ds,B,a,xs,vs',rfl,ha,him,ib,nA,il,h⟩:=h
  obtain⟨t,p,wt⟩:=hb cdv A outer s H E B (λb=>b=a) (λj=>(start N (.ref a::vs'))[j]?) hr
  refine⟨t,p,?_⟩
  unfold wH at h
  by_cases e:ds.length+1=ps.length
  ·rw [if_pos e]at h
   have only:∀j∈O,∀v,(start N (.ref a::vs'))[j]? = some (some v)->j=0/\v=.ref a:=λj hj v hv=>by
    have h1:=v8 hv
    rcases hO j hj with z|z
    ·subst z;cases h1;exact⟨rfl,rfl⟩
    ·have:=(gI_.mp h1).1
     rw[lC_,il.length]at this
     omega
   have r0:Rep K (cfn O [0] B H (λb=>b=a) (λ_ _=>False) λj=>(start N (.ref a::vs'))[j]?) (uS N.length (.lst bs::ds)) (start N (.ref a::vs')) H:=by
    refine⟨by unfold uS start;simp[il.length],λi d hd=>?_,λj hj v hv=>?_,λi j b hi hj h1 h2=>?_,⟨λb hb => .inr hb,λq P pos eP=>⟨(him q P pos eP).1,λz=>by have:=(him q P pos eP).1;rw[z,ha]at this;cases this⟩⟩,λb o hb _=>hb,λb hb=>hb,λj hj=>?_,λ_ _=>rfl⟩
    ·have h1:=qcC hd
     cases i with
     |zero=>
      cases h1
      exact⟨.ref a,qak rfl,.inl ⟨h0,bs,a,xs,rfl,rfl,ha,IsL.ext Ext.refl (λb hb _=>⟨.inl hb,λj hj e2=>by obtain⟨_,e3⟩:=only j hj _ e2;cases e3;exact nA hb⟩) ib⟩⟩
     | succ i=>
      have h1':ds[i]? = some d:=by simpa using h1
      obtain⟨v,h2,h3⟩:=il.get h1'
      have hi:i+1 ∉ O:=λz=>by
       have h4:=(gI_.mp h1').1
       rcases hO _ z with q|q
       ·cases q
       ·omega
      refine⟨v,qak (by simpa using h2),.inr ⟨hi,Is.ext Ext.refl (λb hb _=>⟨.inl hb,λj hj e2=>?_⟩) h3⟩⟩
      obtain⟨_,e3⟩:=only j hj _ e2
      cases e3
      exact nA hb
    ·obtain⟨rfl,rfl⟩:=only j hj v hv
     exact⟨a,xs,rfl,ha,.inr ⟨by simp[cfn],rfl⟩⟩
    ·rw[(only i hi _ h1).1,(only j hj _ h2).1]
    ·have:j=0:=by simpa [cfn] using hj
     rw[this];exact h0
   refine wt _ _ H _ r0 ?_
   have fin:∀{ρ:Env}{σ:St}{H':Hp}{bs':List D},Rep K (cfn O [0] B H (λb=>b=a) (λ_ _=>False) λj=>(start N (.ref a::vs'))[j]?) ρ σ H'->zH 0 ρ=some bs' ->
     ∃xs',H' a=some (.lst xs')/\True/\IsL K (λb=>B b\/H b=none) H' bs' xs':=λ{ρ σ H' bs'} r e1=>by
    obtain⟨l,ys,h1,h2,h3,h4⟩:=r.getLO h0 e1
    have h5:=r.ps 0 (by simp[cfn])
    have h6:(cfn O [0] B H (λb=>b=a) (λ_ _=>False) λj=>(start N (.ref a::vs'))[j]?).S 0=some (some (.ref a)):=qak rfl
    rw[h2,h6]at h5
    cases h5
    exact⟨ys,h3,h1,IsL.ext Ext.refl (λb hb _=>hb.1) h4⟩
   have kps:∀{ρ:Env}{σ:St}{H':Hp},Rep K (cfn O [0] B H (λb=>b=a) (λ_ _=>False) λj=>(start N (.ref a::vs'))[j]?) ρ σ H'->∀b o,b≠a->H b=some o->H' b=some o:=λr b o hb ho=>r.kp b o ho hb
   cases eb:body (uS N.length (.lst bs::ds)) with
   |bad=>rw[eb]at h;exact h.elim
   |exc z ρ=>rw[eb]at h;exact h.elim
   | ok fl=>
    rw[eb]at h
    cases fl with
    | nx ρ=>
     cases eg:zH 0 ρ with
     |none=>simp only[eg]at h
     | some bs'=>
      simp only[eg]at h
      exact λσ' H' r' _=>by
       obtain⟨xs',h1,h2,h3⟩:=fin r' eg
       exact h .non H' xs' (kps r') (λb hb=>r'.dm b hb) h1 h2 h3 rfl
    | rt d ρ=>
     cases eg:zH 0 ρ with
     |none=>simp only[eg]at h
     | some bs'=>
      simp only[eg]at h
      exact λv σ' H' r' i' _=>by
       obtain⟨xs',h1,h2,h3⟩:=fin r' eg
       exact h v H' xs' (kps r') (λb hb=>r'.dm b hb) h1 h2 h3 i'
    |bk ρ=>exact h.elim
    |ct ρ=>exact h.elim
  ·rw[if_neg e]at h;exact h.elim
end
section
variable{X:Cx}{c:Fc}{a b e:Expr}{pos:Pos}
def qh (F:List D->R D) (g:M (List D)):M D:=bnd g λds ρ=>match F ds with
 |.ok d => .ok (d,ρ)
 |_ => .bad
theorem qkL {k:Nat} {f:Addr} {fd:yaZ} {ps:List Str} {F:List D->R D} {x:Str} {p:Pos} {es:List Expr} {g:M (List D)} (G:qbd X.prog X.w X.K X.mg X.base CX0 k f fd ps (spD X.K F)) (hr:uE k X.A) (hg:Gl X x) (hm:X.mg x=some (.ref f)) (hk:yak X.K (.ref f)=true) (hb:vI X.K fd ps [])
  (ha:DA X c (e::es) g) (hd:(x==("__debug__":Str))=false:=by decide) (he:yah (e::es) X.env=(false,eval e X.env)::yah es X.env:=by rfl) (hpl:(yaX pos (yah es X.env)).any (·.1)=false:=by rfl):DE X c (.Call (.Name x p) (e::es) [] pos) (qh F g):=by
 obtain⟨t,pa,w⟩:=ha
 refine⟨_,qbC G hr hg hm hk hb .nil qkx pa hd he hpl,λρ σ H Q r h=>w ρ σ H _ r (WpL.bnd h λds ρ1 vs H1 r1 i1 g1 h1=>?_)⟩
 rw[ybS]
 refine⟨ds,Cn c σ,i1,r1.tb,?_⟩
 cases ef:F ds with
 |bad=>simp only[ef]at h1;exact h1.elim
 |exc z ρ'=>simp only[ef]at h1;exact h1.elim
 |ok d=>
  simp only[ef]at h1
  exact λv H' sm i=>h1 v H' (r1.same sm) (Is.ext Ext.refl (λa ha _=>ha.elim id r1.new) i) (.of_same sm)
def qy (F:List D->List D->R (D×List D)) (i:Nat) (g:M (List D)):M D:=λρ=>match zH i ρ with
 |none => .bad
 | some _=>(bnd g λds ρ=>match zH i ρ with
  |none => .bad
  |some bs=>match F bs ds with
   |.ok (d,bs') => .ok (d,ρ.set i (some (.lst bs')))
   |_ => .bad) ρ
theorem qgA {k i:Nat} {f:Addr} {fd:yaZ} {ps:List Str} {F:List D->List D->R (D×List D)} {x y:Str} {p p1:Pos} {es:List Expr} {g:M (List D)} (G:qbd X.prog X.w X.K X.mg X.base CX0 k f fd ps (qfT X.K F)) (hr:uE k X.A) (hg:Gl X x) (hm:X.mg x=some (.ref f)) (hk:yak X.K (.ref f)=true) (hb:vI X.K fd ps [])
  (ha:DA X c es g) (ho:i∈c.O:=by exact of_decide_eq_true rfl) (hN:X.N[i]? = some y:=by rfl) (hv:Vis X.env.scope y:=by first|exact ya7 rfl|exact yaN (ya7 rfl)|exact yaN (yaN rfl)) (hdy:(y==("__debug__":Str))=false:=by decide) (hcd:(y==("__classdict__":Str))=false:=by decide)
  (hd:(x==("__debug__":Str))=false:=by decide) (he:yah (.Name y p1::es) X.env=(false,eval (.Name y p1) X.env)::yah es X.env:=by rfl) (hpl:(yaX pos (yah es X.env)).any (·.1)=false:=by rfl):DE X c (.Call (.Name x p) (.Name y p1::es) [] pos) (qy F i g):=by
 obtain⟨t,pa,w⟩:=ha
 refine⟨_,qbC G hr hg hm hk hb .nil qkx (yS (wW hN hv hdy hcd) pa he) hd he hpl,λρ σ H Q r h=>?_⟩
 unfold qy at h
 cases e0:zH i ρ with
 |none=>simp only[e0]at h;exact h.elim
 | some ds0=>
  simp only[e0]at h
  obtain⟨l,xs0,_,hl,hH,_⟩:=r.getLO ho e0
  refine⟨.ref l,hl,w ρ σ H _ r (WpL.bnd h λds ρ1 vs H1 r1 i1 g1 h1=>?_)⟩
  show qfT X.K F (.ref l::vs++[]) H1 Q E0
  rw[ybS]
  cases e1:zH i ρ1 with
  |none=>simp only[e1]at h1;exact h1.elim
  | some bs=>
   simp only[e1]at h1
   obtain⟨l',xs,him,hl',hH',il⟩:=r1.getLO ho e1
   rw[hl]at hl'
   cases hl'
   refine⟨bs,ds,Cn c σ,l,xs,vs,rfl,hH',r1.tb,il,λhc=>hc.2 i ho hl,i1,?_⟩
   cases ef:F bs ds with
   |bad=>simp only[ef]at h1;exact h1.elim
   |exc z ρ'=>simp only[ef]at h1;exact h1.elim
   |ok q=>
    obtain⟨d,bs'⟩:=q
    simp only[ef]at h1
    intro v H' xs' kp dm ha2 him2 il2 i2
    obtain⟨r2,g2⟩:=r1.io (bs:=bs') ho hl kp ha2 him2 (IsL.ext Ext.refl (λa ha _=>ha.elim id r1.new) il2) dm
    exact h1 v H' r2 (Is.ext Ext.refl (λa ha _=>ha.elim id r1.new) i2) g2
end
def qit:Key->PyData
 |.inl i => .int i
 |.inr x => .str x
mutual
def qM:D->PyData
 |.non => .none
 |.bl b => .bool b
 |.int i => .int i
 |.str x => .str x
 |.tup ds => .tuple (toPDs ds)
 |.lst ds => .list (toPDs ds)
 |.dic kvs => .dict (kvs.map λp=>(qit p.1,.int p.2))
 |.fz ns => .list (ns.map .int)
 |.exc _ => .dict [(.int (2 ^ 2000),.none)]
def toPDs:List D->List PyData
 | []=>[]
 |d::ds=>qM d::toPDs ds
end
mutual
def noL:D->Bool
 |.tup ds=>noLs ds
 |.lst _=>false
 |.fz _=>false
 |_=>true
def noLs:List D->Bool
 | []=>true
 |d::ds=>noL d&&noLs ds
end
mutual
def noX:D->Bool
 |.tup ds=>noXs ds
 |.lst ds=>noXs ds
 |.exc _=>false
 |_=>true
def noXs:List D->Bool
 | []=>true
 |d::ds=>noX d&&noXs ds
end
mutual
theorem qbp:∀{d:D},(qM d).showable=true->noX d=true
 |.non,_=>rfl
 |.bl _,_=>rfl
 |.int _,_=>rfl
 |.str _,_=>rfl
 |.tup ds,h=>by unfold noX;exact noXs_sh (by simpa [qM,ybv] using h)
 |.lst ds,h=>by unfold noX;exact noXs_sh (by simpa [qM,ybv] using h)
 |.dic _,_=>rfl
 |.fz _,_=>rfl
 |.exc _,h=>by
  have e:(PyData.dict [(.int (2 ^ 2000),.none)]).showable=false:=by decide +kernel
  rw[show qM (.exc _)=PyData.dict [(.int (2 ^ 2000),.none)]from rfl,e]at h
  cases h
theorem noXs_sh:∀{ds:List D},yaI (toPDs ds)=true->noXs ds=true
 | [],_=>rfl
 |d::ds,h=>by
  have h':(qM d).showable=true/\yaI (toPDs ds)=true:=by simpa [toPDs,yaI] using h
  unfold noXs
  rw[qbp h'.1,noXs_sh h'.2];rfl
end
mutual
theorem qgB:∀{d:D},(qM d).canLay0=true->noX d=true
 |.non,_=>rfl
 |.bl _,_=>rfl
 |.int _,_=>rfl
 |.str _,_=>rfl
 |.tup ds,h=>by unfold noX;exact noXs_lay (by simpa [qM,ycp] using h)
 |.lst ds,h=>by unfold noX;exact noXs_lay (by simpa [qM,ycp] using h)
 |.dic _,_=>rfl
 |.fz _,_=>rfl
 |.exc _,h=>by simp[qM,ycp]at h
theorem noXs_lay:∀{ds:List D},ybt (toPDs ds)=true->noXs ds=true
 | [],_=>rfl
 |d::ds,h=>by
  have h':(qM d).canLay0=true/\ybt (toPDs ds)=true:=by simpa [toPDs,ybt] using h
  unfold noXs
  rw[qgB h'.1,noXs_lay h'.2];rfl
end
theorem v9 {h:Heap}:∀{ns:List Int}{us:List Value},zt (ns.map V.int) us->∃as,ygj h us (ns.map .int) as
 | [],us,r=>by
  rw[ycP]at r;cases r;exact⟨[],.nil⟩
 | n::ns,us,r=>by
  rw[mC_]at r
  cases r with
  |cons r1 r2=>
   obtain⟨t,e⟩:=r1
   subst e
   obtain⟨as,q⟩:=v9 (ns:=ns) r2
   exact⟨[]++as,.cons (.int n t) q⟩
theorem qdp{α:Type}{x:α}{l l':List α}(h1:x ∉ l)(h2:x ∉ l'):x ∉ l++l':=λh=>(mA_.mp h).elim h1 h2
theorem qaG {P:yan} {w:World} {h:Heap}:∀{kvs:List (Key×Int)}{es:List DictEntry}{vs:List (Key×Value)},KV (kvs.map λp=>(p.1,V.int p.2)) vs->Pairs (zA P w) es vs ->
  ygj h (es.map (·.key)) ((kvs.map λp=>(qit p.1,PyData.int p.2)).map (·.1)) []/\ygj h (es.map (·.val)) ((kvs.map λp=>(qit p.1,PyData.int p.2)).map (·.2)) []
 | [],es,vs,r,p=>by
  have r':KV ([]:List (Key×V)) vs:=r
  unfold KV at r'
  cases r'
  cases p
  exact⟨.nil,.nil⟩
 | (k,i)::kvs,es,vs,r,p=>by
  have r':KV ((k,V.int i)::kvs.map λp=>(p.1,V.int p.2)) vs:=r
  unfold KV at r'
  cases r' with
  | cons r1 r2=>
   cases p with
   | cons p1 p2 p3=>
    obtain⟨q1,q2⟩:=qaG (h:=h) (kvs:=kvs) r2 p3
    obtain⟨e1,t,e2⟩:=r1
    have hk:∀{e:DictEntry}{kv:Key×Value},k=kv.1->(zA P w).is kv.1 e.key=true->Reads h e.key (qit k) []:=λ{e kv} hk hi=>by
     subst hk
     rcases zr hi with⟨i,t,e1,e2⟩|⟨x,t,e1,e2⟩
     ·rw[e1,e2];exact .int i t
     ·rw[e1,e2];exact .str x t
    refine⟨.cons (as:=[]) (bs:=[]) (hk e1 p1) q1,.cons (as:=[]) (bs:=[]) ?_ q2⟩
    show Reads h _ (.int i) []
    dsimp only
    rw[p2,e2]
    exact .int i t
section
variable{X:Cx}{pins:List (Addr×Obj)}{σ:St}{H:Hp}{s:yab}{A:Addr->Prop}
mutual
theorem jG (I:Inv X pins σ H s):∀{d:D}{v:V}{u:Value},noX d=true->Is X.K A H d v->zY v u->∃as,Reads s.heap u (qM d) as/\(noL d=true->ybh ∉ as)
 |.non,_,_,_,h,r=>by cases h;cases r;exact⟨[],.none,by simp⟩
 |.bl b,_,_,_,h,r=>by cases h;cases r;exact⟨[],.bool b,by simp⟩
 |.int i,_,_,_,h,r=>by cases h;obtain⟨t,rfl⟩:=r;exact⟨[],.int i t,by simp⟩
 |.str x,_,_,_,h,r=>by cases h;obtain⟨t,rfl⟩:=r;exact⟨[],.str x t,by simp⟩
 |.tup ds,_,_,nx,⟨a,xs,hv,ta,il⟩,r=>by
  subst hv
  cases r
  obtain⟨its,rv,p,_⟩:=I.tuple ta.sq
  obtain⟨o,h1,h2,n,h3⟩:=p
  obtain⟨as,q,nl⟩:=readsL_of I (by simpa [noX] using nx) il rv
  exact⟨as,.tuple h1 h2 h3 (by simpa using q),λz=>nl (by simpa [noL] using z)⟩
 |.lst ds,_,_,nx,⟨a,xs,hv,_,ta,il⟩,r=>by
  subst hv
  cases r
  obtain⟨its,rv,p,_⟩:=I.list (SqL.of ta)
  obtain⟨o,h1,h2,n,h3⟩:=p.isList
  obtain⟨as,q,nl⟩:=readsL_of I (by simpa [noX] using nx) il rv
  exact⟨a::as,.list h1 h2 h3 (by simpa using q),λz=>by simp[noL]at z⟩
 |.dic kvs,_,_,_,⟨a,hv,_,ta⟩,r=>by
  subst hv
  cases r
  obtain⟨hz,hS,vs,rk,o,es,ep,h1,h2,h3,h4,h5,h6⟩:=(show jd X.prog X.w H s.heap a (.dK _)from I.hok a _ ta)
  obtain⟨q1,q2⟩:=qaG (h:=s.heap) rk h5
  refine⟨_,Reads.dict (as:=[]) (bs:=[]) h1 h2.1 h3 q1 q2,λ_ hm=>?_⟩
  have:ybh=a:=by simpa using hm
  rw[<-this]at hS
  simp at hS
 |.exc _,_,_,nx,_,_=>by simp[noX]at nx
 |.fz ns,_,_,_,⟨a,hv,ta⟩,r=>by
  subst hv
  cases r
  obtain⟨its,rv,p,_⟩:=I.list ta.sq
  obtain⟨o,h1,h2,n,h3⟩:=p.isList
  obtain⟨as,q⟩:=v9 rv
  exact⟨a::as,.list h1 h2 h3 (by simpa using q),λz=>by simp[noL]at z⟩
theorem readsL_of (I:Inv X pins σ H s):∀{ds:List D}{xs:List V}{us:List Value},noXs ds=true->IsL X.K A H ds xs->zt xs us->∃as,ygj s.heap us (toPDs ds) as/\(noLs ds=true->ybh ∉ as)
 | [],_,_,_,h,r=>by cases h;cases r;exact⟨[],.nil,by simp⟩
 | d :: ds,_,_,nx,⟨x,ys,hx,h1,h2⟩,r=>by
  subst hx
  cases r with
  | cons r1 r2=>
   have nx':noX d=true/\noXs ds=true:=by simpa [noXs] using nx
   obtain⟨as,q1,n1⟩:=jG I nx'.1 h1 r1
   obtain⟨bs,q2,n2⟩:=readsL_of I nx'.2 h2 r2
   exact ⟨as++bs,.cons q1 q2,λz=>by
    have z':noL d=true/\noLs ds=true:=by simpa [noLs] using z
    exact qdp (n1 z'.1) (n2 z'.2)⟩
end
end
def qea(d:D):Bool:=(qM d).showable&&decide ((qM d).shown.length<=yai)&&decide ((qM d).depth<=50)&&(!(qM d).hasDict||noL d)
def qov(K:Fr0):List V->Hp->VK->Prop:=λxs H Q=>∃v d A,xs=[v]/\Is K A H d v/\qea d=true/\Q (.str (qM d).shown) H
section
variable{X:Cx}
theorem qfk {k:Nat} (hr:uE k X.A):jN X (.builtin "repr") (qov X.K):=by
 intro pins s σ H xs us Q I r h
 obtain⟨v,d,A,rfl,hi,ok,q⟩:=h
 obtain⟨u,rfl,ru⟩:=zt.one r
 unfold qea at ok
 simp only[yam,decide_eq_true_eq]at ok
 obtain⟨⟨⟨o1,o2⟩,o3⟩,o4⟩:=ok
 obtain⟨as,rd,nl⟩:=jG I (qbp o1) hi ru
 have hun:=hr.un
 have big:∀a,u=.ref a->wpAny (model X.prog X.w) X.A (call (.builtin "repr") [u]) (EP X pins σ Q) X.xe s:=λa e=>by
  subst e
  refine repr_of_reads' rd o1 (λhd=>nl ?_) hr.gd (by omega) (λ_ _ e=>e) (λh' u tk hk=>⟨.str _,H,I.kept hk,⟨_,rfl⟩,q⟩) o2
  rw[hd]at o4
  simpa using o4
 cases d with
 |non=>cases hi;cases ru;exact PySem.P.repr_of_none ⟨.str _,H,I.tok _,⟨_,rfl⟩,q⟩
 |bl b=>cases hi;cases ru;exact PySem.P.repr_of_bool ⟨.str _,H,I.tok _,⟨s.toks,by cases b<;>rfl⟩,q⟩
 |int i=>
  cases hi;obtain⟨t,rfl⟩:=ru
  exact PySem.P.repr_of_int (of_decide_eq_true o1) ⟨.str _,H,I.tok _,⟨_,rfl⟩,q⟩
 |str x=>cases hi;obtain⟨t,rfl⟩:=ru;exact PySem.P.repr_of_str ⟨.str _,H,I.tok _,⟨_,rfl⟩,q⟩ o2
 |tup ds=>obtain⟨a,zs,rfl,_⟩:=hi;exact big a ru
 |lst ds=>obtain⟨a,zs,rfl,_⟩:=hi;exact big a ru
 |dic kvs=>obtain⟨a,rfl,_⟩:=hi;exact big a ru
 |fz ns=>obtain⟨a,rfl,_⟩:=hi;exact big a ru
 |exc C=>obtain⟨a,rfl,_⟩:=hi;exact big a ru
end
def qp2:List D->Option D
 | [d]=>if qea d then some (.str (qM d).shown)else none
 |_=>none
def qad(d:D):Bool:=(qM d).canLay0&&decide ((qM d).depth<=50)
def qjD(K:Fr0)(neg:Bool):R2:=λx y H Q=>∃d e A,Is K A H d x/\Is K A H e y/\qad d=true/\qad e=true/\Q (.bl (if neg then !ya4 (qM d) (qM e)else ya4 (qM d) (qM e))) H
section
variable{X:Cx}
theorem qbN {d:D} (h:qad d=true):SeqAt.shaped (qM d)=true:=by
 unfold qad at h
 unfold SeqAt.shaped
 simp only[yam,decide_eq_true_eq]at h |-
 exact⟨h.1,by omega⟩
theorem qbq {d:D} (h:qad d=true):noX d=true:=by
 unfold qad at h
 rw[yam]at h
 exact qgB h.1
theorem qmS {k:Nat} (hr:uE k X.A):OpR X (ybg .Eq) (qjD X.K false):=by
 intro pins s σ H x y v u Q I rx ry h
 obtain⟨d,e,A,h1,h2,o1,o2,q⟩:=h
 obtain⟨as,r1,_⟩:=jG I (qbq o1) h1 rx
 obtain⟨bs,r2,_⟩:=jG I (qbq o2) h2 ry
 exact SeqAt.compareEq_shaped r1 r2 (qbN o1) (qbN o2) hr.units ⟨.bl _,H,I,rfl,by simpa using q⟩
theorem qmT {k:Nat} (hr:uE k X.A):OpR X (ybg .NotEq) (qjD X.K true):=by
 intro pins s σ H x y v u Q I rx ry h
 obtain⟨d,e,A,h1,h2,o1,o2,q⟩:=h
 obtain⟨as,r1,_⟩:=jG I (qbq o1) h1 rx
 obtain⟨bs,r2,_⟩:=jG I (qbq o2) h2 ry
 exact SeqAt.compareNe_shaped r1 r2 (qbN o1) (qbN o2) hr.units ⟨.bl _,H,I,rfl,by simpa using q⟩
end
def eqA(x y:D):Option D:=if qad x&&qad y then some (.bl (ya4 (qM x) (qM y)))else none
def neA(x y:D):Option D:=if qad x&&qad y then some (.bl (!ya4 (qM x) (qM y)))else none
theorem qkM {K:Fr0}:OpS K eqA (qjD K false):=by
 intro A H x y d v u Q hn ix iy e k
 obtain⟨e1,e2⟩:=jj e
 rw[yam]at e1
 subst e2
 exact⟨x,y,A,ix,iy,e1.1,e1.2,k _ H (jE.refl H) rfl⟩
theorem qkN {K:Fr0}:OpS K neA (qjD K true):=by
 intro A H x y d v u Q hn ix iy e k
 obtain⟨e1,e2⟩:=jj e
 rw[yam]at e1
 subst e2
 exact⟨x,y,A,ix,iy,e1.1,e1.2,k _ H (jE.refl H) rfl⟩
section
variable{X:Cx}{c:Fc}{a b e:Expr}{pos:Pos}
def qpn (i:Nat) (g:M D):M D:=λρ=>match zH i ρ with
 |none => .bad
 |some _=>(bnd g λy ρ=>match zH i ρ with
  |none => .bad
  |some ds=>lift (neA (.lst ds) y) ρ) ρ
end
section
variable{prog:yan}{w:World}{A:yav}{E:Value->yab->Prop}{s:yab}
theorem qkO {it tu:Addr} {k:Nat} {arr:Array Value} {x:Value} {Q:Value->yab->Prop} (hI:s.heap.IsTupleIter it tu k) (hT:s.heap.IsTuple tu arr) (hx:arr[k]? = some x)
  (q:∀h',h'.IsTupleIter it tu (k+1)->yb2 it s.heap h'->Q x {s with heap:=h' }):wpAny (model prog w) A (yaB (.ref it)) Q E s:=by
 obtain⟨ob,e1,e2,e3⟩:=id hI
 obtain⟨ot,f1,_,m,f2⟩:=hT
 unfold yaB
 refine yaa (wpAny_callSpecial?_slot (name:=ybb "__next__") hI.typeIs ybU (ybL ybU hI.typeIs ydL ?_ (ydB _)))
 show wpAny (model prog w) _ (field (yag it) 0 >>= _) _ _ s
 refine yaa (yaE e1 e3 (x:=yag tu) rfl ?_)
 show wpAny (model prog w) _ (if(yag tu==yaQ)=true then _ else _) _ _ s
 rw[if_neg (show ¬((yag tu==yaQ)=true)from yas)]
 show wpAny (model prog w) _ (field (yag it) 1 >>= _) _ _ s
 refine yaa (yaE e1 e3 (x:=ycq k 0) rfl ?_)
 show wpAny (model prog w) _ (seqItems? (yag tu) >>= _) _ _ s
 refine yaa (ya2 f1 f2 ?_)
 simp only[yaW,hx]
 refine yaa (wpAny_setField e1 e3 (by simp) (yac ⟨x,rfl,yac (q _ ?_ (ycA ..))⟩))
 exact⟨_,Heap.get?_update_self _ e1 (Obj.isFreed_of_fields (yfT e3 _)),(Obj.cls_mapFields ..).trans e2,by rw[yfT e3];simp[ycb]⟩
theorem qkP {it tu:Addr} {k:Nat} {arr:Array Value} {Q:Value->yab->Prop} (hh:A.handled=none) (hI:s.heap.IsTupleIter it tu k) (hT:s.heap.IsTuple tu arr) (hx:arr[k]? = none)
  (q:∀h' e,Heap.ExtBut it s.heap h'->(∃o,h'.get? e=some o/\o.cls=.type "StopIteration")->E (.ref e) {s with heap:=h' }):wpAny (model prog w) A (yaB (.ref it)) Q E s:=by
 obtain⟨ob,e1,e2,e3⟩:=id hI
 obtain⟨ot,f1,_,m,f2⟩:=hT
 unfold yaB
 refine yaa (wpAny_callSpecial?_slot (name:=ybb "__next__") hI.typeIs ybU (ybL ybU hI.typeIs ydL ?_ (ydB _)))
 show wpAny (model prog w) _ (field (yag it) 0 >>= _) _ _ s
 refine yaa (yaE e1 e3 (x:=yag tu) rfl ?_)
 show wpAny (model prog w) _ (if(yag tu==yaQ)=true then _ else _) _ _ s
 rw[if_neg (show ¬((yag tu==yaQ)=true)from yas)]
 show wpAny (model prog w) _ (field (yag it) 1 >>= _) _ _ s
 refine yaa (yaE e1 e3 (x:=ycq k 0) rfl ?_)
 show wpAny (model prog w) _ (seqItems? (yag tu) >>= _) _ _ s
 refine yaa (ya2 f1 f2 ?_)
 simp only[yaW,hx]
 refine yaa (ydp (yaa (wpAny_setField e1 e3 (by simp) ?_)))
 show wpAny (model prog w) _ (newExc (yca "StopIteration") [] >>= _) _ _ _
 refine yaa ?_
 simp only[newExc,newTuple]
 refine yaa (yaK ?_ (by size_fits))
 refine yaa (m:=firstArgMember _ _) (wpAny_of_eq (a:=yaQ) (by first|rfl|(simp only[firstArgMember];rfl)) ?_)
 refine yaK ?_ (by size_fits)
 simp only[raiseNew]
 refine yaa (wpAny_handled ?_)
 first|rw[show A.in1.handled=none from hh]|rw[hh]
 exact yaa (yac (wpAny_throw (q _ _ (((ycA ..).extBut.push _).push _) ⟨_,Heap.get?_push_size _ rfl,rfl⟩)))
end
theorem vp {prog:yan} {w:World} {A:yav} (hh:A.handled=none) (it tu:Addr) (hne:tu≠it) (arr:Array Value) :
  Draws prog w A it [it,tu] arr.size (λi x=>arr[i]? = some x) (λi h=>h.IsTupleIter it tu i/\h.IsTuple tu arr) where
 live:=λi h st=>by obtain⟨⟨o,e,_⟩,_⟩:=st;exact⟨o,e⟩
 frame:=λi h h' st k=>by
  obtain⟨h1,o,e,r⟩:=st
  exact⟨h1.at λo q=>k it (by simp) o q,o,k tu (by simp) o e,r⟩
 item:=λi s Q E hi st q=>qkO st.1 st.2 (Array.getElem?_eq_getElem hi) λh' h1 sb=>q _ h' s.toks (Array.getElem?_eq_getElem hi) ⟨h1,by
  obtain⟨o,e,r⟩:=st.2
  exact⟨o,sb.extBut _ _ hne e,r⟩⟩ sb
 done:=λs Q E st q=>qkP hh st.1 st.2 (Array.getElem?_eq_none (yad _)) q
structure ZAp (z TI TO i1 i2:Addr) (fp1 fp2:List Addr):Prop where
 zTI:z≠TI
 zTO:z≠TO
 zi1:z≠i1
 zi2:z≠i2
 IO:TI≠TO
 Ii1:TI≠i1
 Ii2:TI≠i2
 Oi1:TO≠i1
 Oi2:TO≠i2
 ii:i1≠i2
 z1:z ∉ fp1
 z2:z ∉ fp2
 O1:TO ∉ fp1
 O2:TO ∉ fp2
 i21:i2 ∉ fp1
 i12:i1 ∉ fp2
section
variable{prog:yan}{w:World}{A:yav}{E:Value->yab->Prop}{s:yab}{z TI TO i1 i2:Addr}{fp1 fp2:List Addr}{n1 n2 k:Nat}{P1 P2:Nat->Value->Prop}{S1 S2:Nat->Heap->Prop}
theorem zM{fp:List Addr}{a:Addr}{h h':Heap}(sb:yb2 a h h')(ha:a ∉ fp):∀b∈fp,∀o,h.get? b=some o->h'.get? b=some o:=λb hb o e=>sb.extBut _ _ (λq=>ha (q▸hb)) e
theorem qmU (D1:Draws prog w A i1 fp1 n1 P1 S1) (D2:Draws prog w A i2 fp2 n2 P2 S2) (ap:ZAp z TI TO i1 i2 fp1 fp2) {p q:Value} (zz:IsZip s.heap z TI TO .none) (zI:ybn s.heap TI (.ref i1) (.ref i2)) (zO:ybn s.heap TO p q)
  (t1:S1 k s.heap) (t2:S2 k s.heap) (l1:k<n1) (l2:k<n2) {Q:Value->yab->Prop}
  (fin:∀x y h' tk,P1 k x->P2 k y->IsZip h' z TI TO (ycb s.heap.objs.size)->ybn h' TO x y->S1 (k+1) h'->S2 (k+1) h'->ybn h' s.heap.objs.size x y ->
   (∀c o,c≠z->c≠TO->c≠i1->c≠i2->s.heap.get? c=some o->h'.get? c=some o)->Q (.ref s.heap.objs.size) {s with heap:=h',toks:=tk}) :
  wpAny (model prog w) A (yb0.«zip.__next__» ⟨[.ref z],[]⟩) (λr s'=>∃v,r=.done (.ret v)/\Q v s') E s:=by
 show wpAny (model prog w) A (field (yag z) 2 >>= _) _ _ _
 refine yaa (yaE zz rfl (x:=ybp false) rfl ?_)
 show wpAny (model prog w) A (field (yag z) 3 >>= _) _ _ _
 refine yaa (yaE zz rfl (x:=yag TI) rfl (yaa (ya2 zI rfl ?_)))
 show wpAny (model prog w) A (yaC (yag z) >>= _) _ _ _
 refine yaa ?_
 unfold yaC
 refine yaa (yaE zz rfl (x:=yaQ) rfl (yac ?_))
 simp only[if_true]
 refine yaa (ydp (yaa (yaE zz rfl (x:=yag TO) rfl (yaa (ybz zz (by simp) λh1 zz1 b1=>?_)))))
 replace zz1:IsZip h1 z TI TO .ellipsis:=zz1
 refine yaa ?_
 simp only[List.zipIdx_cons,List.zipIdx_nil,ycI,ydC]
 refine yaa (yaa (ydW ?_))
 show wpAny (model prog w) A (yaB (yag i1) >>= _) _ _ _
 refine yaa (D1.item k _ _ _ l1 (D1.frame _ _ _ t1 (zM b1 ap.z1)) λx h2 tk2 px u1 b2=>yac ?_)
 have zO2:ybn h2 TO p q:=b2.extBut _ _ ap.Oi1 (b1.extBut _ _ ap.zTO.symm zO)
 refine yaa (ya2 zO2 rfl (yaa (yds zO2 λh3 zO3 b3=>?_)))
 replace zO3:ybn h3 TO x q:=zO3
 refine yaa (ycn (yac (yaa (yaa (ydW ?_)))))
 show wpAny (model prog w) A (yaB (yag i2) >>= _) _ _ _
 have t2':S2 k h3:=D2.frame _ _ _ (D2.frame _ _ _ (D2.frame _ _ _ t2 (zM b1 ap.z2)) (zM b2 ap.i12)) (zM b3 ap.O2)
 refine yaa (D2.item k _ _ _ l2 t2' λy h4 tk4 py u2 b4=>yac ?_)
 have zO4:ybn h4 TO x q:=b4.extBut _ _ ap.Oi2 zO3
 refine yaa (ya2 zO4 rfl (yaa (yds zO4 λh5 zO5 b5=>?_)))
 replace zO5:ybn h5 TO x y:=zO5
 refine yaa (ycn (yac (yac (yaa (ya2 zO5 rfl (yaa (ye8 ?_)))))))
 have sz:h5.objs.size=s.heap.objs.size:=by rw[b5.1,b4.1,b3.1,b2.1,b1.1]
 have zz5:IsZip h5 z TI TO .ellipsis:=b5.extBut _ _ ap.zTO (b4.extBut _ _ ap.zi2 (b3.extBut _ _ ap.zTO (b2.extBut _ _ ap.zi1 zz1)))
 have keep5:∀c o,c≠z->c≠TO->c≠i1->c≠i2->s.heap.get? c=some o->h5.get? c=some o:=λc o c1 c2 c3 c4 e=>b5.extBut _ _ c2 (b4.extBut _ _ c4 (b3.extBut _ _ c2 (b2.extBut _ _ c3 (b1.extBut _ _ c1 e))))
 have v1:S1 (k+1) h5:=D1.frame _ _ _ (D1.frame _ _ _ (D1.frame _ _ _ u1 (zM b3 ap.O1)) (zM b4 ap.i21)) (zM b5 ap.O1)
 have v2:S2 (k+1) h5:=D2.frame _ _ _ u2 (zM b5 ap.O2)
 have lz:z<h5.objs.size:=yae zz5
 show wpAny (model prog w) A (ycR (yag z) (yag h5.objs.size) >>= _) _ _ _
 refine yaa ?_
 unfold ycR
 have zz6:IsZip (h5.push {cls:=.type "tuple",data:=.seq #[x,y]}) z TI TO .ellipsis:=Heap.get?_push_of_some _ zz5
 refine yaa (ybz zz6 (by simp) λh7 zz7 b7=>?_)
 replace zz7:IsZip h7 z TI TO (ycb h5.objs.size):=zz7
 refine ybz zz7 (by simp) λh8 zz8 b8=>?_
 replace zz8:IsZip h8 z TI TO (ycb h5.objs.size):=zz8
 have up:∀c o,c≠z->h5.get? c=some o->h8.get? c=some o:=λc o c1 e=>b8.extBut _ _ c1 (b7.extBut _ _ c1 (Heap.get?_push_of_some _ e))
 have new8:ybn h8 h5.objs.size x y:=b8.extBut _ _ (yb4 lz) (b7.extBut _ _ (yb4 lz) (Heap.get?_push_size _ rfl))
 rw[sz]at zz8 new8
 refine yac ⟨_,rfl,?_⟩
 show Q (yag h5.objs.size) _
 rw[sz]
 exact fin x y h8 tk4 px py zz8 (up _ _ ap.zTO.symm zO5) (D1.frame _ _ _ v1 λb hb o e=>up b o (λq=>ap.z1 (q▸hb)) e) (D2.frame _ _ _ v2 λb hb o e=>up b o (λq=>ap.z2 (q▸hb)) e) new8 λc o c1 c2 c3 c4 e=>up c o c1 (keep5 c o c1 c2 c3 c4 e)
theorem qiu (hh:A.handled=none) (D1:Draws prog w A i1 fp1 n1 P1 S1) (D2:Draws prog w A i2 fp2 n2 P2 S2) (ap:ZAp z TI TO i1 i2 fp1 fp2) {p q:Value} (zz:IsZip s.heap z TI TO .none) (zI:ybn s.heap TI (.ref i1) (.ref i2)) (zO:ybn s.heap TO p q)
  (t1:S1 k s.heap) (t2:S2 k s.heap) (hk:k=min n1 n2) {Q:Fin->yab->Prop}
  (fin:∀h' tk e,(∀c o,c≠z->c≠TO->c≠i1->c≠i2->s.heap.get? c=some o->h'.get? c=some o)->(∃o,h'.get? e=some o/\o.cls=.type "StopIteration")->E (.ref e) {s with heap:=h',toks:=tk}) :
  wpAny (model prog w) A (yb0.«zip.__next__» ⟨[.ref z],[]⟩) Q E s:=by
 show wpAny (model prog w) A (field (yag z) 2 >>= _) _ _ _
 refine yaa (yaE zz rfl (x:=ybp false) rfl ?_)
 show wpAny (model prog w) A (field (yag z) 3 >>= _) _ _ _
 refine yaa (yaE zz rfl (x:=yag TI) rfl (yaa (ya2 zI rfl ?_)))
 show wpAny (model prog w) A (yaC (yag z) >>= _) _ _ _
 refine yaa ?_
 unfold yaC
 refine yaa (yaE zz rfl (x:=yaQ) rfl (yac ?_))
 simp only[if_true]
 refine yaa (ydp (yaa (yaE zz rfl (x:=yag TO) rfl (yaa (ybz zz (by simp) λh1 zz1 b1=>?_)))))
 replace zz1:IsZip h1 z TI TO .ellipsis:=zz1
 refine yaa ?_
 simp only[List.zipIdx_cons,List.zipIdx_nil,ycI,ydC]
 refine yaa (yaa (ydW ?_))
 show wpAny (model prog w) A (yaB (yag i1) >>= _) _ _ _
 have t1':S1 k h1:=D1.frame _ _ _ t1 (zM b1 ap.z1)
 by_cases h12:n1<=n2
 ·have e1:k=n1:=by rw[hk];exact ydt h12
  rw[e1]at t1'
  refine yaa (D1.done _ _ _ t1' λh2 e b2 he=>?_)
  obtain⟨oe,f1,f2⟩:=he
  have zz2:IsZip h2 z TI TO .ellipsis:=b2 _ _ ap.zi1 zz1
  have ez:e≠z:=λx=>by subst x;rw[zz2]at f1;cases f1;simp at f2
  refine ybz zz2 (by simp) λh3 _ b3=>?_
  exact fin h3 s.toks e (λc o c1 _ c3 _ x=>b3.extBut _ _ c1 (b2 _ _ c3 (b1.extBut _ _ c1 x))) ⟨oe,b3.extBut _ _ ez f1,f2⟩
 ·have e1:k=n2:=by rw[hk];exact yep (by omega)
  refine yaa (D1.item k _ _ _ (by omega) t1' λx h2 tk2 px u1 b2=>yac ?_)
  have zO2:ybn h2 TO p q:=b2.extBut _ _ ap.Oi1 (b1.extBut _ _ ap.zTO.symm zO)
  refine yaa (ya2 zO2 rfl (yaa (yds zO2 λh3 zO3 b3=>?_)))
  refine yaa (ycn (yac (yaa (yaa (ydW ?_)))))
  show wpAny (model prog w) A (yaB (yag i2) >>= _) _ _ _
  have t2':S2 k h3:=D2.frame _ _ _ (D2.frame _ _ _ (D2.frame _ _ _ t2 (zM b1 ap.z2)) (zM b2 ap.i12)) (zM b3 ap.O2)
  rw[e1]at t2'
  refine yaa (D2.done _ _ _ t2' λh4 e b4 he=>?_)
  obtain⟨oe,f1,f2⟩:=he
  have zz4:IsZip h4 z TI TO .ellipsis:=b4 _ _ ap.zi2 (b3.extBut _ _ ap.zTO (b2.extBut _ _ ap.zi1 zz1))
  have ez:e≠z:=λx=>by subst x;rw[zz4]at f1;cases f1;simp at f2
  refine ybz zz4 (by simp) λh5 _ b5=>?_
  exact fin h5 tk2 e (λc o c1 c2 c3 c4 x=>b5.extBut _ _ c1 (b4 _ _ c4 (b3.extBut _ _ c2 (b2.extBut _ _ c3 (b1.extBut _ _ c1 x))))) ⟨oe,b5.extBut _ _ ez f1,f2⟩
end
section
variable{X:Cx}{pins:List (Addr×Obj)}{σ:St}{H:Hp}{s:yab}{h':Heap}
theorem qgC {ch:List Addr} {T:Addr} {o:HO} {t':Nat} (I:Inv X pins σ H s) (k:∀b u,b ∉ ch->s.heap.get? b=some u->h'.get? b=some u) (hf:∀b∈ch,qc7 X pins H b) (hT:s.heap.objs.size<=T) (new:jd X.prog X.w (upd H T o) h' T o) :
  Inv X pins σ (upd H T o) {s with heap:=h',toks:=t' }:=by
 have hn:H T=none:=I.hok.fresh hT
 have nch:∀b u,H b=some u->b ∉ ch:=λb u e z=>by rw[(hf b z).1]at e;cases e
 refine I.step (g':=s.gens) (d':=s.drawn) (ch:=ch) (λb hb=>⟨(hf b hb).2.2.2.1,(hf b hb).2.1,(hf b hb).2.2.2.2.1,(hf b hb).2.2.2.2.2⟩) (λb u _ _ hc e _=>k b u hc e) (λb u _ _ hc e _=>⟨u.slots,k b u hc e⟩) (λb u hc e n=>?_)
  (λb u hc e=>⟨u,k b u hc e⟩) (λb xs e=>by rw[qv (qA e hn)];exact e) (λb u xs e=>by rw[qv (qA e hn)];exact e) (λb ps y e=>by rw[qv (qA e hn)];exact e) (λm hm=>?_) (λb u e=>?_) I.bare
 ·rw[qv (yao (yaw (yae e) hT))];exact n
 ·obtain⟨ob,es,ep,ho,r⟩:=hm
  exact⟨ob,es,ep,k _ ob (λz=>(hf _ z).2.1 rfl) ho,r⟩
 ·by_cases hb:b=T
  ·subst hb;rw[qu]at e;cases e;exact new
  ·rw[qv hb]at e
   refine(I.hok b u e).stay (λc v hc q=>k c v ?_ q) (λc q=>by rw[qv (qA q hn)];exact q) (λc xs q=>by rw[qv (qA q hn)];exact q) λc ob y q=>by rw[qv (qA q hn)];exact q
   rcases hc with z|z
   ·rw[z];exact nch b u e
   ·exact nch c _ z
theorem qgD {ch:List Addr} {t':Nat} (I:Inv X pins σ H s) (k:∀b u,b ∉ ch->s.heap.get? b=some u->h'.get? b=some u) (hf:∀b∈ch,qc7 X pins H b):Inv X pins σ H {s with heap:=h',toks:=t' }:=by
 have nch:∀b u,H b=some u->b ∉ ch:=λb u e z=>by rw[(hf b z).1]at e;cases e
 refine I.step (g':=s.gens) (d':=s.drawn) (ch:=ch) (λb hb=>⟨(hf b hb).2.2.2.1,(hf b hb).2.1,(hf b hb).2.2.2.2.1,(hf b hb).2.2.2.2.2⟩) (λb u _ _ hc e _=>k b u hc e) (λb u _ _ hc e _=>⟨u.slots,k b u hc e⟩) (λb u hc e n=>n)
  (λb u hc e=>⟨u,k b u hc e⟩) (λb xs e=>e) (λb u xs e=>e) (λ_ _ _ e=>e) (λm hm=>?_) (λb u e=>?_) I.bare
 ·obtain⟨ob,es,ep,ho,r⟩:=hm
  exact⟨ob,es,ep,k _ ob (λz=>(hf _ z).2.1 rfl) ho,r⟩
 ·refine(I.hok b u e).stay (λc v hc q=>k c v ?_ q) (λc q=>q) λc xs q=>q
  rcases hc with z|z
  ·rw[z];exact nch b u e
  ·exact nch c _ z
end
section
variable{X:Cx}{c:Fc}{a b e:Expr}{pos:Pos}{es:List Expr}{kk:Nat}{tp:Pos}
def qpo:List D->List D->List D
 |x::xs,y::ys => .tup [x,y]::qpo xs ys
 |_,_=>[]
def qow:List D->Option (List D)
 | [.tup xs,.tup ys]=>some (qpo xs ys)
 |_=>none
def qpp(f:M (List D)):M (List D):=bnd f λds=>lift (qow ds)
end
theorem ur:fillsNumberSlot (.type "tuple") "mul"=pure false:=by
 first|kernel_rfl|(unfold fillsNumberSlot;kernel_rfl)|decide +kernel
theorem wJ:seqRepeat? (.type "tuple")=pure (some (.builtin "tuple.__mul__")):=by
 first|kernel_rfl|(unfold seqRepeat?;kernel_rfl)|decide +kernel
theorem uT (a:Int) (t:Tok) (l:Addr) (dd:Option Addr) (items:Array Value) (n:Nat) (sl:Array (Option Value)) :
  Meets (yb0.«int.__rmul__» ⟨[.int a t,.ref l],[]⟩) (λ_ R s=>s.heap.get? l=some {cls:=.type "tuple",dict:=dd,data:=.seq items n,slots:=sl}/\R (.ok (.ret .notImplemented)) s) :=
 .of_wp λprog w A R s h=>by
  obtain⟨hp,g,d,tk,os⟩:=s
  obtain⟨hl,h⟩:=h
  wp_walk using ybC hl
  exact⟨_,rfl,h⟩
theorem qmV (l:Addr) (dd:Option Addr) (items:Array Value) (n:Nat) (sl:Array (Option Value)) (k:Int) (t:Tok) (h0:¬items.isEmpty=true) (h1:¬(k==1)=true) (h2:¬k<=0) (h3:¬(decide (k < -(2 ^ 63))||decide (k >= 2 ^ 63))=true)
  (h4:¬(items.size:Int)*k>(2 ^ 63-1)/8) (h5:¬Builtin.Tuple.tupleTooMany ((items.size:Int)*k)=true) (h6:((yau k.toNat items).foldl (·++·) #[]).size<=yai) :
  Meets (yb0.«tuple.__mul__» ⟨[.ref l,.int k t],[]⟩) (λ_ R s=>s.heap.get? l=some {cls:=.type "tuple",dict:=dd,data:=.seq items n,slots:=sl} /\
   R (.ok (.ret (.ref s.heap.objs.size))) {s with heap:=s.heap.push {cls:=.type "tuple",data:=.seq ((yau k.toNat items).foldl (·++·) #[])} }) :=
 .of_wp λprog w A R s h=>by
  obtain⟨hp,g,d,tk,os⟩:=s
  obtain⟨hl,h⟩:=h
  have f1:=yeq
  have f2:=yb5
  have h01:¬(items.isEmpty||k==1)=true:=by simp only[ycH,not_or];exact⟨h0,h1⟩
  have h02:¬(decide (k<=0)||items.isEmpty)=true:=by simp only[ycH,decide_eq_true_eq,not_or];exact⟨h2,h0⟩
  wp_walk using ybC hl
  rw[if_neg h3]
  wp_walk using ybC hl
  rw[if_neg h4]
  wp_walk using ybC hl
  exact⟨_,rfl,h⟩
section
variable{X:Cx}
def qmW(K:Fr0):R2:=λx y H Q=>∃a xs k,x=.ref a/\y=.int k/\SqT K H a xs/\xs≠[]/\2<=k/\xs.length*k.toNat<=yai/\∀p,H p=none->Q (.ref p) (upd H p (.tup (yau k.toNat xs).flatten))
theorem qkQ:OpR X (ya8 .Mult) (qmW X.K):=by
 intro pins s σ H x y v u Q I rx ry h
 obtain⟨a,xs,k,rfl,rfl,hx,hne,hk,hz,q⟩:=h
 cases rx
 obtain⟨t,rfl⟩:=ry
 obtain⟨its,r,p1,_⟩:=I.tuple hx
 obtain⟨⟨cls,dd,data,sl⟩,ho,hc,n,hd⟩:=id p1
 simp only at hc hd
 subst hc hd
 have hl:=r.length
 have hnew:yfl (λx1 x2=>x1++x2) #[] (yau k.toNat its.toArray)=(yau k.toNat its).flatten.toArray:=by
  have:=qat its k.toNat []
  rw[ycf]at this
  exact this
 have hlen:(yau k.toNat its).flatten.length=k.toNat*its.length:=qdj its k.toNat
 have hsl:(yai:Nat)=16777216:=ybY
 have e0:¬its.toArray.isEmpty=true:=by
  intro e
  have:its=[]:=by simpa using e
  rw[this]at hl
  exact hne (List.length_eq_zero_iff.mp hl)
 have pos1:1<=its.length:=by
  cases its with
  |nil=>simp at e0
  |cons z zs=>simp
 have kk:((k.toNat:Nat):Int)=k:=ycB (by omega)
 have mm:(its.toArray.size:Int)*k=((its.length*k.toNat:Nat):Int):=by rw[sT_,ybF,kk]
 have zz:its.length*k.toNat<=yai:=by rw[<-hl];exact hz
 have kle:k.toNat<=its.length*k.toNat:=Nat.le_mul_of_pos_left _ pos1
 have T1:s.TypeIs (.ref a) "tuple":=⟨_,ho,rfl⟩
 refine ybW (T:="tuple") (U:="int") (by decide) T1 (λs'=>yce s' k t) ur ydr ybD wJ F.slot_int_index.lookup
  (ybM ybD (yce s k t) ydd (ycW _ _) (uT k t a dd its.toArray n sl)
   ⟨ho,rfl,T1,ybM yer T1 yd6 (ydM _ _) (qmV a dd its.toArray n sl k t e0 (by simp;omega) (by omega) (by simp;omega) (by rw[mm];omega) ?_ (by rw[hnew,sT_,hlen,yb8];exact zz)) ⟨ho,?_⟩⟩)
 ·rw[mm]
  show ¬decide (((its.length*k.toNat:Nat):Int)>(yai:Int))=true
  rw[decide_eq_true_eq]
  omega
 ·rw[hnew]
  refine⟨.ref s.heap.objs.size,_,I.laid (t':=s.toks) (o:=.tup (yau k.toNat xs).flatten) (λb ob q=>Heap.get?_push_of_some _ q) (yad _) ?_,rfl,q _ (I.hok.fresh (yad _))⟩
  exact⟨by rw[qdj,yb8];exact hz,_,r.rep k.toNat,ydh _ _⟩
def qfl(K:Fr0):R2:=λx y H Q=>(rI qmm (λi j => .int (i*j))) x y H Q\/(qmW K x y H Q\/qpj x y H Q)
theorem zV:OpR X (ya8 .Mult) (qfl X.K):=OpR.or qmn (OpR.or qkQ qmB)
end
def ym:D->D->Option D
 |.int i,.int j=>if qdk i j then some (.int (i*j))else none
 |.tup ds,.int k=>if(!ds.isEmpty&&decide (2<=k))&&qW (ds.length*k.toNat)then some (.tup (yau k.toNat ds).flatten)else none
 |.lst ds,.int k=>if(decide (-(2 ^ 62)<=k)&&decide (k<2 ^ 62))&&qW (ds.length*k.toNat)then some (.lst (yau k.toNat ds).flatten)else none
 |_,_=>none
theorem IsL.rep {K:Fr0} {A:Addr->Prop} {H:Hp} {ds:List D} {xs:List V} (h:IsL K A H ds xs):∀k:Nat,IsL K A H (yau k ds).flatten (yau k xs).flatten
 |0=>by simp[IsL]
 |k+1=>by
  rw[rS_,rS_,ybG,ybG]
  exact IsL.append h (IsL.rep h k)
theorem zm {K:Fr0}:OpS K ym (qfl K):=by
 intro A H x y d v u Q hn ix iy e k
 cases x<;>cases y<;>simp only[ym]at e<;>try (cases e;done)
 ·rename_i i j
  obtain⟨e1,e2⟩:=jj e
  subst e2
  cases ix;cases iy
  exact .inl ⟨i,j,rfl,rfl,qih e1,k _ H (jE.refl H) rfl⟩
 ·rename_i ds j
  obtain⟨a,xs,rfl,ta,il⟩:=ix
  cases iy
  obtain⟨e1,e2⟩:=jj e
  subst e2
  rw[yam,yam]at e1
  obtain⟨⟨e3,e4⟩,e5⟩:=e1
  refine .inr (.inl ⟨a,xs,j,rfl,rfl,ta.sq,λz=>?_,of_decide_eq_true e4,by rw[il.length];exact of_decide_eq_true e5,λp hp=>k _ _ (qx hp _) ⟨p,_,rfl,.inl qu,IsL.ext (Ext.of_same (qx hp _)) (λ_ h _=>h) (IsL.rep il _)⟩⟩)
  have:=il.length
  rw[z]at this
  have:ds=[]:=List.length_eq_zero_iff.mp this.symm
  rw[this]at e3
  simp at e3
 ·rename_i ds j
  obtain⟨a,xs,rfl,_,ta,il⟩:=ix
  cases iy
  obtain⟨e1,e2⟩:=jj e
  subst e2
  rw[yam,yam]at e1
  obtain⟨⟨e3,e4⟩,e5⟩:=e1
  have e3':=of_decide_eq_true e3
  have e4':=of_decide_eq_true e4
  refine .inr (.inr ⟨a,j,xs,rfl,rfl,ta,by omega,by omega,by rw[il.length];exact of_decide_eq_true e5,λp hp=>k _ _ (qx hp _) ⟨p,_,rfl,hn p hp,qu,IsL.ext (Ext.of_same (qx hp _)) (λ_ h _=>h) (IsL.rep il _)⟩⟩)
def qkR:D->Option D
 |.int i=>some (.int (-i))
 |_=>none
def d1(F:D->Option D)(f:M D):M D:=bnd f λx=>lift (F x)
def qgE(i j:Int):Bool:=decide (0<=j)&&decide (j<=1000000)&&decide (i.natAbs<2 ^ 64)
def qda:D->D->Option D:=qfe qgE λi j => .int (i ^ j.toNat)
theorem qdq {K:Fr0}:OpS K qda (rI qpg λi j => .int (i ^ j.toNat)):=qd4 (λi j h=>by
 unfold qgE at h
 rw[yam,yam]at h
 exact⟨of_decide_eq_true h.1.1,of_decide_eq_true h.1.2,of_decide_eq_true h.2⟩) λ_ _ _ _=>rfl
section
variable{X:Cx}{c:Fc}{a b e:Expr}{pos:Pos}
theorem qeb {f:M D} (h:DE X c a f):DE X c (.UnaryOp .USub a pos) (d1 qkR f):=by
 obtain⟨t,p,w⟩:=h
 refine⟨_,qod qmo p,λρ σ H Q r h=>w ρ σ H _ r (Wp.bnd h λd ρ1 v H1 r1 i1 g1 h1=>?_)⟩
 obtain⟨d',e,h2⟩:=h1.lift
 cases d<;>simp only[qkR]at e<;>try (cases e;done)
 rename_i i
 cases e
 cases i1
 exact⟨i,rfl,h2 _ H1 r1 rfl .refl⟩
def qkS(X:Cx)(key:Key)(n:Int):TE:=λ_ H Q=>∀p,H p=none->Q (.ref p) (upd H p (.dK [(key,.int n)]))
theorem qmX {pins:List (Addr×Obj)} {σ:St} {H:Hp} {s:yab} (I:Inv X pins σ H s):ybh<s.heap.objs.size:=by
 obtain⟨mb,h1,_⟩:=I.ok.mod.blt
 have hlt:ycc<X.base.objs.size:=h1.lt
 have hle:X.base.objs.size<=s.heap.objs.size:=yay I.ok.bsz I.sz
 have hd:ybh<ycc\/ybh<yaf:=by decide
 have hg:yaf<X.base.objs.size:=I.ok.mod.glob.lt
 rcases hd with z|z
 ·exact yaw (yes z hlt) hle
 ·exact yaw (yes z hg) hle
theorem qiv {key:Key} {n:Int} {ke:Expr} {j:Nat} {p1:Pos} (hk:∀(s:yab)(Q:Value->yab->Prop)(E:Value->yab->Prop),(∀u tk,qcf key u=true->Q u {s with toks:=tk})->wpAny (model X.prog X.w) X.A (eval ke X.env) Q E s) :
  PE X (.Dict [some ke] [.Constant (.int n) j p1] pos) (qkS X key n):=by
 intro pins s σ H Q I h
 have hf:H s.heap.objs.size=none:=I.hok.fresh (yad _)
 refine wpAny_Dict_walk (knd:=zA X.prog X.w) rfl rfl (by simp) (by show 1<=15;decide) ?_
 refine evalPairs_cons (hk _ _ _ λu tk hu=>?_)
 refine yaa (ydH (yaa (yc8 (yac (evalPairs_nil ?_)))))
 refine⟨[(key,.int n tk)],⟨hu,rfl,trivial⟩,Heap.DictOf.new _,λh' hd sb=>?_⟩
 have e:merged [] [(key,ycq n tk)]=[(key,ycq n tk)]:=by simp[merged,stored]
 rw[e]at hd
 refine⟨.ref s.heap.objs.size,upd H s.heap.objs.size (.dK [(key,.int n)]),I.laid (λb o q=>sb.extBut _ _ (yao (yae q)) (Heap.get?_push_of_some _ q)) (yad _) ?_,rfl,h _ hf⟩
 exact⟨by show 1<=yai;decide,beq_eq_false_iff_ne.mpr (ybk (yao (qmX I))),[(key,.int n tk)],.cons ⟨rfl,tk,rfl⟩ .nil,hd⟩
theorem qec {key:Key} {n:Int} {ke:Expr} {j:Nat} {p1:Pos} (hk:∀(s:yab)(Q:Value->yab->Prop)(E:Value->yab->Prop),(∀u tk,qcf key u=true->Q u {s with toks:=tk})->wpAny (model X.prog X.w) X.A (eval ke X.env) Q E s) :
  DE X c (.Dict [some ke] [.Constant (.int n) j p1] pos) (ret (.dic [(key,n)])):=by
 refine⟨_,qiv hk,λρ σ H Q r h p hp=>h _ _ (r.laid hp _) ⟨p,rfl,r.new hp,qu⟩ (.of_same (qx hp _))⟩
theorem qiw {i n:Int} {j j2:Nat} {p1 p2:Pos}:DE X c (.Dict [some (.Constant (.int i) j2 p2)] [.Constant (.int n) j p1] pos) (ret (.dic [(.inl i,n)])) :=
 qec λs Q E h=>ydH (h _ _ (qcg _ _))
theorem qix {x:Str} {n:Int} {j j2:Nat} {p1 p2:Pos}:DE X c (.Dict [some (.Constant (.str x) j2 p2)] [.Constant (.int n) j p1] pos) (ret (.dic [(.inr x,n)])) :=
 qec λs Q E h=>yfI (h _ _ (qch _ _))
def qkT (i j:Nat) (f:M (List D)):MS:=sbnd f λds ρ=>match ds with
 | [d,e] => .ok (.nx ((ρ.set i (some d)).set j (some e)))
 |_ => .bad
theorem qjE {i j:Nat} {x y:Str} {f:M (List D)} {px py pt:Pos} {kt k2 pt2} (hN:X.N.Nodup) (ha:DA X c [a,b] f) (hw:ycu [.Tuple [.Name x px,.Name y py] kt pt] (.Tuple [a,b] k2 pt2) X.env=pure (some [x,y])) (hc:X.calm=true:=by rfl) (hi:X.N[i]? = some x:=by rfl) (hj:X.N[j]? = some y:=by rfl) (hij:i≠j:=by decide)
  (hx:X.env.scope.names.lookup x=some .local:=by rfl) (hy:X.env.scope.names.lookup y=some .local:=by rfl) (ho:i ∉ c.O:=by exact of_decide_eq_false rfl) (hp:j ∉ c.O:=by exact of_decide_eq_false rfl)
  (hs:yct [.Tuple [.Name x px,.Name y py] kt pt] (.Tuple [a,b] k2 pt2) pos.line X.env=pure false:=by rfl) :
  DS X c (.Assign [.Tuple [.Name x px,.Name y py] kt pt] (.Tuple [a,b] k2 pt2) pos) (qkT i j f):=by
 obtain⟨t,p,w⟩:=ha
 refine⟨_,qmi hc hN hi hj hij hx hy p hw hs,λρ σ H D r h=>w ρ σ H _ r (WpL.sbnd h λds ρ1 vs H1 r1 i1 g1 h1=>?_)⟩
 match ds,i1,h1 with
 | [],_,h1=>exact h1.elim
 | [_],_,h1=>exact h1.elim
 | [d,e],i1,h1=>
  obtain⟨v,u,rfl,j1,j2⟩:=IsL.inv2 i1
  refine⟨v,u,rfl,h1 _ H1 ((r1.set ho j1).set hp ?_) ((GrS.set ho).trans (GrS.set hp))⟩
  exact(GrS.set (H:=H1) ho).is j2
 |_::_::_::_,_,h1=>exact h1.elim
mutual
def immF:D->Bool
 |.tup ds=>immFs ds
 |.lst _=>false
 |.dic _=>false
 |_=>true
def immFs:List D->Bool
 | []=>true
 |d::ds=>immF d&&immFs ds
end
mutual
theorem Is.immF {K:Fr0} {A B:Addr->Prop} {H:Hp}:∀{d:D}{v:V},immF d=true->Is K A H d v->Is K B H d v
 |.non,_,_,h=>h
 |.bl _,_,_,h=>h
 |.int _,_,_,h=>h
 |.str _,_,_,h=>h
 |.tup ds,_,i,⟨a,xs,hv,h,r⟩=>⟨a,xs,hv,h,IsL.immF (by simpa [Sk.immF] using i) r⟩
 |.lst _,_,i,_=>by simp[Sk.immF]at i
 |.dic _,_,i,_=>by simp[Sk.immF]at i
 |.fz _,_,_,h=>h
 |.exc _,_,_,h=>h
theorem IsL.immF {K:Fr0} {A B:Addr->Prop} {H:Hp}:∀{ds:List D}{xs:List V},immFs ds=true->IsL K A H ds xs->IsL K B H ds xs
 | [],_,_,h=>h
 |d::ds,_,i,⟨x,ys,hx,h,r⟩=>by
  have i':Sk.immF d=true/\immFs ds=true:=by simpa [immFs] using i
  exact⟨x,ys,hx,Is.immF i'.1 h,IsL.immF i'.2 r⟩
end
def qcD (F:List D->R D) (g:M (List D)):M (List D):=bnd g λds ρ=>if immFs ds then match F ds with
 |.ok (.lst bs)=>if immL bs then .ok (bs,ρ)else .bad
 |_ => .bad else .bad
theorem qkU {k:Nat} {f:Addr} {fd:yaZ} {ps:List Str} {F:List D->R D} {x:Str} {p:Pos} {es:List Expr} {g:M (List D)} (G:qbd X.prog X.w X.K X.mg X.base CX0 k f fd ps (spD X.K F)) (hr:uE k X.A) (hg:Gl X x) (hm:X.mg x=some (.ref f)) (hk:yak X.K (.ref f)=true) (hb:vI X.K fd ps [])
  (ha:DA X c (e::es) g) (hd:(x==("__debug__":Str))=false:=by decide) (he:yah (e::es) X.env=(false,eval e X.env)::yah es X.env:=by rfl) (hpl:(yaX pos (yah es X.env)).any (·.1)=false:=by rfl):DN X c (.Call (.Name x p) (e::es) [] pos) (qcD F g):=by
 obtain⟨t,pa,w⟩:=ha
 refine⟨_,qbC G hr hg hm hk hb .nil qkx pa hd he hpl,λρ σ H Q r h=>w ρ σ H _ r (WpL.bndN h λds ρ1 vs H1 r1 i1 g1 h1=>?_)⟩
 rw[ybS]
 by_cases him:immFs ds=true
 ·rw [if_pos him]at h1
  refine⟨ds,λ_=>False,IsL.immF him i1,r1.tb,?_⟩
  cases ef:F ds with
  |bad=>simp only[ef]at h1;exact h1.elim
  |exc z ρ'=>simp only[ef]at h1;exact h1.elim
  | ok d=>
   cases d with
   | lst bs=>
    simp only[ef]at h1
    by_cases hb2:immL bs=true
    ·rw[if_pos hb2]at h1
     intro v H' sm i
     obtain⟨a,xs,rfl,hA,ha2,il⟩:=i
     have hn:H1 a=none:=hA.elim ya9 id
     exact h1 a xs H' hn (r1.same sm) (r1.apart_same hn sm) ha2 trivial (IsL.imm hb2 il) (.of_same sm)
    ·rw[if_neg hb2]at h1;exact h1.elim
   |_=>simp only[ef]at h1;exact h1.elim
 ·rw[if_neg him]at h1;exact h1.elim
end
structure qkV (outer:Scope) (N:List Str) (scope:Scope) (N':List Str) (nt:Nat) (fr:List Nat):Prop where
 kind:scope.kind=.function
 nocell:∀y∈scope.names,y.2 ≠ .cell
 names:∀y∈scope.names,y.2=.local->scope.names.lookup y.1=some .local
 frees:∀y∈scope.names,y.2=.free->outer.names.lookup y.1=some .cell
 len:N'.length=nt+fr.length
 slots:∀p∈fr.zipIdx,N'[nt+p.2]? = N[p.1]? /\ ((N[p.1]?).bind λx=>scope.names.lookup x)=some .free
theorem qkV.ok {X:Cx} {outer:Scope} {N:List Str} {scope:Scope} {N':List Str} {nt:Nat} {fr:List Nat} (S:qkV outer N scope N' nt fr) (h1:X.env.scope=outer) (h2:X.N=N):ya X scope N' nt fr:=by
 subst h1 h2
 refine⟨S.kind,S.nocell,S.names,S.frees,S.len,λi j h=>?_⟩
 have hm:(j,i)∈fr.zipIdx:=by
  rw[ye9]
  refine⟨i,?_⟩
  rw[List.getElem?_zipIdx,h]
  simp
 obtain⟨h3,h4⟩:=S.slots (j,i) hm
 cases e:X.N[j]? with
 |none=>
  have h4':((X.N[j]?).bind λx=>scope.names.lookup x)=some .free:=h4
  rw[e]at h4';cases h4'
 | some x=>
  have h4':((X.N[j]?).bind λx=>scope.names.lookup x)=some .free:=h4
  rw[e]at h4'
  exact ⟨x,by
    have h3':N'[nt+i]? = X.N[j]? := h3
    rw[h3',e],rfl,h4'⟩
structure zd (P:yan) (w:World) (K:yal) (mg:Str->Option Value) (base:Heap) (k:Nat) (x:Str) (ps:List Str) (sp:Sp):Prop where
 ex:∃f fd,qbd P w K mg base CX0 k f fd ps sp/\mg x=some (.ref f)/\yak K (.ref f)=true/\vI K fd ps []
theorem uU:yaA "len"=some (.builtin "len"):=by decide +kernel
theorem qjF:yaA "max"=some (.builtin "max"):=by decide +kernel
theorem qcE:yaA "min"=some (.builtin "min"):=by decide +kernel
theorem qed:yaA "all"=some (.builtin "all"):=by decide +kernel
theorem qgF:yaA "divmod"=some (.builtin "divmod"):=by decide +kernel
theorem wK:yaA "repr"=some (.builtin "repr"):=by decide +kernel
theorem qjG:yaA "int"=some (.type "int"):=by decide +kernel
theorem qgG:yaA "bool"=some (.type "bool"):=by decide +kernel
theorem qmY:yaA "str"=some (.type "str"):=by decide +kernel
theorem yp:yaA "tuple"=some (.type "tuple"):=by decide +kernel
theorem qkW:yaA "list"=some (.type "list"):=by decide +kernel
theorem qkX:yaA "dict"=some (.type "dict"):=by decide +kernel
theorem zC:yaA "isinstance"=some (.builtin "isinstance"):=by decide +kernel
def yq:MS:=λρ => .ok (.nx ρ)
def qcF:MS:=λ_ => .bad
theorem zn{X:Cx}{c:Fc}:DSs X c [] yq:=qkB
theorem wd{X:Cx}{c:Fc}{st:Stmt}:DS X c st qcF:=qig
theorem qE{X:Cx}:IxR X (λx y H Q=>qoo X.K x y H Q\/qop X.K x y H Q):=qgj.or qmw
theorem qkY {c:Fc} {nt:Nat} {fr:List Nat} {i j:Nat} (h1:j∈c.O) (h2:nt<=i) (h3:fr[i-nt]? = some j) (h4:∀p∈fr.zipIdx,nt+p.2≠i->p.1 ∉ c.O):qkK c nt fr (some (i,j)) :=
 ⟨h1,h2,h3,λk j' h hk=>h4 (j',k) (by rw[ye9];exact⟨k,by rw[List.getElem?_zipIdx,h];simp⟩) hk⟩
def eqB (x y:D):Option D:=match sc2 x y with
 |some b=>some (.bl b)
 |none=>eqA x y
def neB (x y:D):Option D:=match sc2 x y with
 |some b=>some (.bl (!b))
 |none=>neA x y
theorem qee{X:Cx}{k:Nat}(hr:uE k X.A):OpR X (ybg .Eq) (λx y H Q=>rEq x y H Q\/qjD X.K false x y H Q):=OpR.or qog (qmS hr)
theorem w5{X:Cx}{k:Nat}(hr:uE k X.A):OpR X (ybg .NotEq) (λx y H Q=>rNe x y H Q\/qjD X.K true x y H Q):=OpR.or qoh (qmT hr)
theorem qbO {K:Fr0}:OpS K eqB (λx y H Q=>rEq x y H Q\/qjD K false x y H Q):=by
 intro A H x y d v u Q hn ix iy e k
 unfold eqB at e
 cases e1:sc2 x y with
 |some b=>simp only[e1]at e;exact .inl (qkC A H x y d v u Q hn ix iy (by unfold eqS;rw[e1];exact e) k)
 |none=>simp only[e1]at e;exact .inr (qkM A H x y d v u Q hn ix iy e k)
theorem uV {K:Fr0}:OpS K neB (λx y H Q=>rNe x y H Q\/qjD K true x y H Q):=by
 intro A H x y d v u Q hn ix iy e k
 unfold neB at e
 cases e1:sc2 x y with
 |some b=>simp only[e1]at e;exact .inl (qkD A H x y d v u Q hn ix iy (by unfold neS;rw[e1];exact e) k)
 |none=>simp only[e1]at e;exact .inr (qkN A H x y d v u Q hn ix iy e k)
end L2.Sk
namespace L2.Sk
section
variable{α β:Type}{ρ:Env}{f g k:M D}{t u:M Bool}{l m:M (List D)}{p q r:MS}
theorem qbP(a:α):ret a ρ=.ok (a,ρ):=rfl
theorem qgH(o:Option α):lift o ρ=match o with|some a => .ok (a,ρ)|none => .bad:=by cases o<;>rfl
theorem qox{f:M α}{k:α->M β}:bnd f k ρ=match f ρ with|.ok (a,ρ')=>k a ρ'|.exc x ρ' => .exc x ρ'|.bad => .bad:=rfl
theorem qpq(i:Nat):dv i ρ=match ρ[i]? with|some (some d) => .ok (d,ρ)|_ => .bad:=rfl
theorem zW:qa f l ρ=match f ρ with|.ok (d,ρ1)=>(match l ρ1 with|.ok (ds,ρ2) => .ok (d::ds,ρ2)|.exc x ρ' => .exc x ρ'|.bad => .bad)|.exc x ρ' => .exc x ρ'|.bad => .bad:=by
 simp only[qa,bnd,sbnd]
 cases f ρ with
 |ok z=>
  obtain⟨z1,ρ1⟩:=z
  simp only[ret]
  cases l ρ1 with
  |ok z=>obtain⟨z2,ρ2⟩:=z;rfl
  |exc x ρ'=>rfl
  |bad=>rfl
 |exc x ρ'=>rfl
 |bad=>rfl
theorem w6:jO l ρ=match l ρ with|.ok (ds,ρ1)=>(if qW ds.length then .ok (.tup ds,ρ1)else .bad)|.exc x ρ' => .exc x ρ'|.bad => .bad:=by
 simp only[jO,bnd,sbnd]
 cases l ρ with
 |ok z=>
  obtain⟨z1,ρ1⟩:=z
  cases h:qW z1.length<;>simp[h,lift,ret]
 |exc x ρ'=>rfl
 |bad=>rfl
theorem qcG:wE l ρ=match l ρ with|.ok (ds,ρ1)=>(if qW ds.length then .ok (.lst ds,ρ1)else .bad)|.exc x ρ' => .exc x ρ'|.bad => .bad:=by
 simp only[wE,bnd,sbnd]
 cases l ρ with
 |ok z=>
  obtain⟨z1,ρ1⟩:=z
  cases h:qW z1.length<;>simp[h,lift,ret]
 |exc x ρ'=>rfl
 |bad=>rfl
theorem qgI:qmQ l ρ=match l ρ with|.ok (ds,ρ1)=>(if immL ds&&qW ds.length then .ok (ds,ρ1)else .bad)|.exc x ρ' => .exc x ρ'|.bad => .bad:=by
 simp only[qmQ,bnd,sbnd]
 cases l ρ with
 |ok z=>
  obtain⟨z1,ρ1⟩:=z
  cases h:(immL z1&&qW z1.length)<;>simp[h,lift,ret]
 |exc x ρ'=>rfl
 |bad=>rfl
theorem qmZ (F:D->D->Option D):d2 F f g ρ=match f ρ with|.ok (x,ρ1)=>(match g ρ1 with|.ok (y,ρ2)=>(match F x y with|some d => .ok (d,ρ2)|none => .bad)|.exc x ρ' => .exc x ρ'|.bad => .bad)|.exc x ρ' => .exc x ρ'|.bad => .bad:=by
 simp only[d2,bnd,sbnd]
 cases f ρ with
 |ok z=>
  obtain⟨z1,ρ1⟩:=z
  dsimp only <;>
  cases g ρ1 with
  |ok z=>obtain⟨z2,ρ2⟩:=z;(dsimp only;cases F z1 z2<;>rfl)
  |exc x ρ'=>rfl
  |bad=>rfl
 |exc x ρ'=>rfl
 |bad=>rfl
theorem qoy (F:D->Option D):d1 F f ρ=match f ρ with|.ok (x,ρ1)=>(match F x with|some d => .ok (d,ρ1)|none => .bad)|.exc x ρ' => .exc x ρ'|.bad => .bad:=by
 simp only[d1,bnd,sbnd]
 cases f ρ with
 |ok z=>
  obtain⟨z1,ρ1⟩:=z
  (dsimp only;cases F z1<;>rfl)
 |exc x ρ'=>rfl
 |bad=>rfl
theorem qaH (F:List D->Option D):qw F l ρ=match l ρ with|.ok (xs,ρ1)=>(match F xs with|some d => .ok (d,ρ1)|none => .bad)|.exc x ρ' => .exc x ρ'|.bad => .bad:=by
 simp only[qw,bnd,sbnd]
 cases l ρ with
 |ok z=>
  obtain⟨z1,ρ1⟩:=z
  (dsimp only;cases F z1<;>rfl)
 |exc x ρ'=>rfl
 |bad=>rfl
theorem wf (F:List D->R D):qh F l ρ=match l ρ with|.ok (xs,ρ1)=>(match F xs with|.ok d => .ok (d,ρ1)|_ => .bad)|.exc x ρ' => .exc x ρ'|.bad => .bad:=by
 simp only[qh,bnd,sbnd]
 cases l ρ with
 |ok z=>
  obtain⟨z1,ρ1⟩:=z
  cases F z1<;>rfl
 |exc x ρ'=>rfl
 |bad=>rfl
theorem qgJ (T:String):qdm T f ρ=match f ρ with|.ok (d,ρ1) => .ok (.bl (qcA (tyD d) T),ρ1)|.exc x ρ' => .exc x ρ'|.bad => .bad:=by
 simp only[qdm,bnd,sbnd]
 cases f ρ with
 |ok z=>
  obtain⟨z1,ρ1⟩:=z
  rfl
 |exc x ρ'=>rfl
 |bad=>rfl
theorem qgK:tst f ρ=match f ρ with|.ok (d,ρ1)=>(match asB d with|some b => .ok (b,ρ1)|none => .bad)|.exc x ρ' => .exc x ρ'|.bad => .bad:=by
 simp only[tst,bnd,sbnd]
 cases f ρ with
 |ok z=>
  obtain⟨z1,ρ1⟩:=z
  (dsimp only;cases asB z1<;>rfl)
 |exc x ρ'=>rfl
 |bad=>rfl
theorem uW(b:Bool):asB (.bl b)=some b:=rfl
theorem qef:qay t ρ=match t ρ with|.ok (b,ρ1) => .ok (!b,ρ1)|.exc x ρ' => .exc x ρ'|.bad => .bad:=by
 simp only[qay,bnd,sbnd]
 cases t ρ with
 |ok z=>
  obtain⟨z1,ρ1⟩:=z
  rfl
 |exc x ρ'=>rfl
 |bad=>rfl
theorem qgL:qlX t u ρ=match t ρ with|.ok (b,ρ1)=>(bif b then u ρ1 else .ok (false,ρ1))|.exc x ρ' => .exc x ρ'|.bad => .bad:=by
 simp only[qlX,bnd,sbnd]
 cases t ρ with
 |ok z=>
  obtain⟨z1,ρ1⟩:=z
  cases z1<;>rfl
 |exc x ρ'=>rfl
 |bad=>rfl
theorem qdr:tor t u ρ=match t ρ with|.ok (b,ρ1)=>(bif b then .ok (true,ρ1)else u ρ1)|.exc x ρ' => .exc x ρ'|.bad => .bad:=by
 simp only[tor,bnd,sbnd]
 cases t ρ with
 |ok z=>
  obtain⟨z1,ρ1⟩:=z
  cases z1<;>rfl
 |exc x ρ'=>rfl
 |bad=>rfl
theorem qjH:qkA f g ρ=match f ρ with|.ok (d,ρ1)=>(match asB d with|some b=>(bif b then g ρ1 else .ok (.bl false,ρ1))|none => .bad)|.exc x ρ' => .exc x ρ'|.bad => .bad:=by
 simp only[qkA,bnd,sbnd]
 cases f ρ with
 |ok z=>
  obtain⟨z1,ρ1⟩:=z
  simp only[qgH]
  cases asB z1 with
  |none=>rfl
  |some b=>cases b<;>rfl
 |exc x ρ'=>rfl
 |bad=>rfl
theorem qm0:dor f g ρ=match f ρ with|.ok (d,ρ1)=>(match asB d with|some b=>(bif b then .ok (.bl true,ρ1)else g ρ1)|none => .bad)|.exc x ρ' => .exc x ρ'|.bad => .bad:=by
 simp only[dor,bnd,sbnd]
 cases f ρ with
 |ok z=>
  obtain⟨z1,ρ1⟩:=z
  simp only[qgH]
  cases asB z1 with
  |none=>rfl
  |some b=>cases b<;>rfl
 |exc x ρ'=>rfl
 |bad=>rfl
theorem qjI:qmF f ρ=match f ρ with|.ok (d,ρ1)=>(match asB d with|some b => .ok (.bl (!b),ρ1)|none => .bad)|.exc x ρ' => .exc x ρ'|.bad => .bad:=by
 simp only[qmF,bnd,sbnd]
 cases f ρ with
 |ok z=>
  obtain⟨z1,ρ1⟩:=z
  simp only[qgH]
  cases asB z1 with
  |none=>rfl
  |some b=>cases b<;>rfl
 |exc x ρ'=>rfl
 |bad=>rfl
theorem qiy:dif t f g ρ=match t ρ with|.ok (b,ρ1)=>(bif b then f ρ1 else g ρ1)|.exc x ρ' => .exc x ρ'|.bad => .bad:=by
 simp only[dif,bnd,sbnd]
 cases t ρ with
 |ok z=>
  obtain⟨z1,ρ1⟩:=z
  cases z1<;>rfl
 |exc x ρ'=>rfl
 |bad=>rfl
theorem qgM:sif t p q ρ=match t ρ with|.ok (b,ρ1)=>(bif b then p ρ1 else q ρ1)|.exc x ρ' => .exc x ρ'|.bad => .bad:=by
 simp only[sif,bnd,sbnd]
 cases t ρ with
 |ok z=>
  obtain⟨z1,ρ1⟩:=z
  cases z1<;>rfl
 |exc x ρ'=>rfl
 |bad=>rfl
theorem qjJ:qN p q ρ=match p ρ with|.ok (.nx ρ')=>q ρ'|z=>z:=by
 unfold qN
 cases p ρ with
 |ok z=>cases z<;>rfl
 |exc x ρ'=>rfl
 |bad=>rfl
theorem qaI:ji f ρ=match f ρ with|.ok (d,ρ1) => .ok (.rt d ρ1)|.exc x ρ' => .exc x ρ'|.bad => .bad:=by
 simp only[ji,bnd,sbnd]
 cases f ρ with
 |ok z=>
  obtain⟨z1,ρ1⟩:=z
  rfl
 |exc x ρ'=>rfl
 |bad=>rfl
theorem qbr (i:Nat):zp i f ρ=match f ρ with|.ok (d,ρ1) => .ok (.nx (ρ1.set i (some d)))|.exc x ρ' => .exc x ρ'|.bad => .bad:=by
 simp only[zp,bnd,sbnd]
 cases f ρ with
 |ok z=>
  obtain⟨z1,ρ1⟩:=z
  rfl
 |exc x ρ'=>rfl
 |bad=>rfl
theorem qaJ (i:Nat):vN i l ρ=match l ρ with|.ok (ds,ρ1) => .ok (.nx (ρ1.set i (some (.lst ds))))|.exc x ρ' => .exc x ρ'|.bad => .bad:=by
 simp only[vN,bnd,sbnd]
 cases l ρ with
 |ok z=>
  obtain⟨z1,ρ1⟩:=z
  rfl
 |exc x ρ'=>rfl
 |bad=>rfl
theorem vO:uL f ρ=match f ρ with|.ok (_,ρ1) => .ok (.nx ρ1)|.exc x ρ' => .exc x ρ'|.bad => .bad:=by
 simp only[uL,bnd,sbnd]
 cases f ρ with
 |ok z=>
  obtain⟨z1,ρ1⟩:=z
  rfl
 |exc x ρ'=>rfl
 |bad=>rfl
theorem qgN:yq ρ=.ok (.nx ρ):=rfl
theorem qeg (i j:Nat):qkT i j l ρ=match l ρ with|.ok ([d,e],ρ1) => .ok (.nx ((ρ1.set i (some d)).set j (some e)))|.ok _ => .bad|.exc x ρ' => .exc x ρ'|.bad => .bad:=by
 simp only[qkT,bnd,sbnd]
 cases l ρ with
 |ok z=>
  obtain⟨z1,ρ1⟩:=z
  match z1 with
  | []=>rfl
  | [_]=>rfl
  | [_,_]=>rfl
  |_::_::_::_=>rfl
 |exc x ρ'=>rfl
 |bad=>rfl
theorem qcH (G:D->Env->Option Env):qfR f G ρ=match f ρ with|.ok (d,ρ1)=>(match G d ρ1 with|some ρ2 => .ok (.nx ρ2)|none => .bad)|.exc x ρ' => .exc x ρ'|.bad => .bad:=by
 simp only[qfR,bnd,sbnd]
 cases f ρ with
 |ok z=>
  obtain⟨z1,ρ1⟩:=z
  dsimp only <;>
  cases G z1 ρ1<;>rfl
 |exc x ρ'=>rfl
 |bad=>rfl
theorem yd (G:D->Env->Option Env) (b:MS):uO l G b ρ=match l ρ with|.ok (ds,ρ1)=>jR G b ds ρ1|.exc x ρ' => .exc x ρ'|.bad => .bad:=by
 simp only[uO,bnd,sbnd]
 cases l ρ with
 |ok z=>
  obtain⟨z1,ρ1⟩:=z
  rfl
 |exc x ρ'=>rfl
 |bad=>rfl
theorem qcI:jD f ρ=match f ρ with|.ok (d,ρ1)=>(match qmO d with|some ds => .ok (ds,ρ1)|none => .bad)|.exc x ρ' => .exc x ρ'|.bad => .bad:=by
 simp only[jD,bnd,sbnd]
 cases f ρ with
 |ok z=>
  obtain⟨z1,ρ1⟩:=z
  (dsimp only;cases qmO z1<;>rfl)
 |exc x ρ'=>rfl
 |bad=>rfl
theorem qgO:yC l ρ=match l ρ with|.ok (d,ρ1)=>(match qjB d with|some ds => .ok (ds,ρ1)|none => .bad)|.exc x ρ' => .exc x ρ'|.bad => .bad:=by
 simp only[yC,bnd,sbnd]
 cases l ρ with
 |ok z=>
  obtain⟨z1,ρ1⟩:=z
  (dsimp only;cases qjB z1<;>rfl)
 |exc x ρ'=>rfl
 |bad=>rfl
theorem qjK:qpp l ρ=match l ρ with|.ok (d,ρ1)=>(match qow d with|some ds => .ok (ds,ρ1)|none => .bad)|.exc x ρ' => .exc x ρ'|.bad => .bad:=by
 simp only[qpp,bnd,sbnd]
 cases l ρ with
 |ok z=>
  obtain⟨z1,ρ1⟩:=z
  (dsimp only;cases qow z1<;>rfl)
 |exc x ρ'=>rfl
 |bad=>rfl
theorem qds {nt:Nat} {fr:List Nat} {fo:Option (Nat×Nat)} {G:D->Env->Option Env} {e:M D}:z7 nt fr fo l G t e ρ=match l ρ with
  |.ok (ds,ρ1)=>(match zS G t e ds [] (yE nt fr ρ1) with|.ok (ys,ρe) => .ok (.lst ys,qkJ fo ρe ρ1)|_ => .bad)|.exc x ρ' => .exc x ρ'|.bad => .bad:=by
 simp only[z7,bnd,sbnd]
 cases l ρ with
 |ok z=>
  obtain⟨z1,ρ1⟩:=z
  dsimp only <;>
  cases zS G t e z1 [] (yE nt fr ρ1) with
  |ok z=>obtain⟨z2,ρ2⟩:=z;rfl
  |exc x ρ'=>rfl
  |bad=>rfl
 |exc x ρ'=>rfl
 |bad=>rfl
theorem wj (F:List D->List D->R (D×List D)) (i:Nat):qy F i l ρ=match zH i ρ with
  |none => .bad
  | some _=>(match l ρ with
   |.ok (ds,ρ1)=>(match zH i ρ1 with
    |none => .bad
    |some bs=>(match F bs ds with|.ok (d,bs') => .ok (d,ρ1.set i (some (.lst bs')))|_ => .bad))
   |.exc x ρ' => .exc x ρ'|.bad => .bad):=by
 simp only[qy,bnd]
 cases zH i ρ with
 |none=>rfl
 | some _=>
  dsimp only <;>
  cases l ρ with
  | ok z=>
   obtain⟨z1,ρ1⟩:=z
   dsimp only <;>
   cases zH i ρ1 with
   |none=>rfl
   |some bs=>
    dsimp only <;>
    cases F bs z1 with
    |ok z=>obtain⟨z2,z3⟩:=z;rfl
    |exc x ρ'=>rfl
    |bad=>rfl
  |exc x ρ'=>rfl
  |bad=>rfl
theorem qgP (F:List D->R D):qcD F l ρ=match l ρ with
  |.ok (ds,ρ1)=>(if immFs ds then(match F ds with|.ok (.lst bs)=>(if immL bs then .ok (bs,ρ1)else .bad)|_ => .bad)else .bad)|.exc x ρ' => .exc x ρ'|.bad => .bad:=by
 simp only[qcD,bnd,sbnd]
 cases l ρ with
 | ok z=>
  obtain⟨z1,ρ1⟩:=z
  dsimp only <;>
  cases immFs z1 with
  |false=>rfl
  |true=>
   simp only[if_true]
   cases F z1 with
   |ok z=>cases z<;>rfl
   |exc x ρ'=>rfl
   |bad=>rfl
 |exc x ρ'=>rfl
 |bad=>rfl
theorem qgQ (i:Nat):qc9 i f ρ=match zH i ρ with
  |none => .bad
  | some _=>(match f ρ with
   |.ok (k,ρ1)=>(match k,zH i ρ1 with
    |.int n,some ds=>(match atI ds n with|some d => .ok (d,ρ1)|none => .bad)
    |_,_ => .bad)
   |.exc x ρ' => .exc x ρ'|.bad => .bad):=by
 simp only[qc9,bnd]
 cases zH i ρ with
 |none=>rfl
 | some _=>
  dsimp only <;>
  cases f ρ with
  |ok z=>
   obtain⟨z1,ρ1⟩:=z
   dsimp only <;>
   cases z1<;>cases zH i ρ1<;>try rfl
  |exc x ρ'=>rfl
  |bad=>rfl
theorem qdt (i:Nat):qbL i k f ρ=match f ρ with
  | .ok (d,ρ1)=>(match zH i ρ1 with
   |none => .bad
   | some _=>(match k ρ1 with
    | .ok (j,ρ2)=>(match j,zH i ρ2 with
     |.int n,some ds=>(match ixN ds.length n with
      |some q=>if imm d then .ok (.nx (ρ2.set i (some (.lst (ds.set q d)))))else .bad
      |none => .bad)
     |_,_ => .bad)
    |.exc x ρ' => .exc x ρ'|.bad => .bad))
  |.exc x ρ' => .exc x ρ'|.bad => .bad:=by
 simp only[qbL,bnd,sbnd]
 cases f ρ with
 | ok z=>
  obtain⟨z1,ρ1⟩:=z
  dsimp only <;>
  cases zH i ρ1 with
  |none=>rfl
  | some _=>
   dsimp only <;>
   cases k ρ1 with
   |ok z=>
    obtain⟨z2,ρ2⟩:=z
    dsimp only <;>
    cases z2<;>cases zH i ρ2<;>try rfl
   |exc x ρ'=>rfl
   |bad=>rfl
 |exc x ρ'=>rfl
 |bad=>rfl
theorem qgR (i:Nat):qmR i ρ=match zH i ρ with|some ds => .ok (.int ds.length,ρ)|none => .bad:=by
 unfold qmR
 cases zH i ρ<;>rfl
theorem qgS (i:Nat):qbM i ρ=match zH i ρ with|some ds => .ok (.tup ds,ρ)|none => .bad:=by
 unfold qbM
 cases zH i ρ<;>rfl
theorem qjL (i:Nat):qpn i f ρ=match zH i ρ with
  |none => .bad
  | some _=>(match f ρ with
   |.ok (y,ρ1)=>(match zH i ρ1 with
    |none => .bad
    |some ds=>(match neA (.lst ds) y with|some d => .ok (d,ρ1)|none => .bad))
   |.exc x ρ' => .exc x ρ'|.bad => .bad):=by
 simp only[qpn,bnd]
 cases zH i ρ with
 |none=>rfl
 | some _=>
  dsimp only <;>
  cases f ρ with
  |ok z=>
   obtain⟨z1,ρ1⟩:=z
   dsimp only <;>
   cases zH i ρ1 with
   |none=>rfl
   |some ds=>(dsimp only;cases neA (.lst ds) z1<;>rfl)
  |exc x ρ'=>rfl
  |bad=>rfl
theorem qaK (i:Nat):yU i f ρ=match zH i ρ with
  |none => .bad
  | some _=>(match f ρ with
   |.ok (d,ρ1)=>(match zH i ρ1 with
    |some ds=>if imm d&&qW (ds.length+1)then .ok (.non,ρ1.set i (some (.lst (ds++[d]))))else .bad
    |none => .bad)
   |.exc x ρ' => .exc x ρ'|.bad => .bad):=by
 simp only[yU,bnd]
 cases zH i ρ with
 |none=>rfl
 | some _=>
  dsimp only <;>
  cases f ρ with
  |ok z=>
   obtain⟨z1,ρ1⟩:=z
   dsimp only <;>
   cases zH i ρ1<;>rfl
  |exc x ρ'=>rfl
  |bad=>rfl
theorem qm1 {g k:M (Option Int)}:dsl f g k ρ=match f ρ with
  | .ok (d,ρ1)=>(match g ρ1 with
   |.ok (lo,ρ2)=>(match k ρ2 with
    |.ok (hi,ρ3)=>(match slD d lo hi with|some x => .ok (x,ρ3)|none => .bad)
    |.exc x ρ' => .exc x ρ'|.bad => .bad)
   |.exc x ρ' => .exc x ρ'|.bad => .bad)
  |.exc x ρ' => .exc x ρ'|.bad => .bad:=by
 simp only[dsl,bnd,sbnd]
 cases f ρ with
 | ok z=>
  obtain⟨z1,ρ1⟩:=z
  dsimp only <;>
  cases g ρ1 with
  |ok z=>
   obtain⟨z2,ρ2⟩:=z
   dsimp only <;>
   cases k ρ2 with
   |ok z=>obtain⟨z3,ρ3⟩:=z;(dsimp only;cases slD z1 z2 z3<;>rfl)
   |exc x ρ'=>rfl
   |bad=>rfl
  |exc x ρ'=>rfl
  |bad=>rfl
 |exc x ρ'=>rfl
 |bad=>rfl
theorem qdu:qac f ρ=match f ρ with|.ok (.int i,ρ1) => .ok (some i,ρ1)|.ok _ => .bad|.exc x ρ' => .exc x ρ'|.bad => .bad:=by
 simp only[qac,bnd,sbnd]
 cases f ρ with
 |ok z=>
  obtain⟨z1,ρ1⟩:=z
  cases z1<;>rfl
 |exc x ρ'=>rfl
 |bad=>rfl
end
theorem ye {n:Nat} (h:n<=1000000):qW n=true:=by
 unfold qW
 exact decide_eq_true (yay h (by rw[yd7];decide))
theorem qkZ {n p:Nat} {body:MS} {ds:List D} {d:D} {ρ:Env} (h:ds.length=p) (e:body (uS n ds)=.ok (.rt d ρ)):dfn n p body ds=.ok d:=by
 unfold dfn;rw[if_pos h,e]
theorem qeh {n p:Nat} {body:MS} {bs ds bs':List D} {d:D} {ρ:Env} (h:ds.length+1=p) (e:body (uS n (.lst bs::ds))=.ok (.rt d ρ)) (g:zH 0 ρ=some bs'):wH n p body bs ds=.ok (d,bs'):=by
 unfold wH;rw[if_pos h,e];simp only[g]
end L2.Sk
namespace L2.Sk
open PySem PySem.Spec PyProof.Rows
section
variable{prog:yan}{w:World}{A:yav}{E:Value->yab->Prop}{s:yab}
theorem qgT {l:Addr} {xs:Array Value} {Q:Value->yab->Prop} (t1:s.heap.IsTuple l xs)
  (fin:∀h',IsEnum h' (s.heap.objs.size+1) s.heap.objs.size 0 .none->h'.IsTupleIter s.heap.objs.size l 0->(∀c o,s.heap.get? c=some o->h'.get? c=some o)->Q (.ref (s.heap.objs.size+1)) {s with heap:=h' }) :
  wpAny (model prog w) A (call (.type "enumerate") [.ref l]) Q E s:=by
 have meets:Meets (yb0.«enumerate.__new__» ⟨[.type "enumerate",.ref l],[]⟩) (λ_ R s=>s.heap.IsTuple l xs /\
   R (.ok (.ret (.ref (s.heap.objs.size+1)))) {s with heap:=(s.heap.push {cls:=.type "tuple_iterator",data:=.fields #[.ref l,.int 0 0]}).push {cls:=.type "enumerate",data:=.fields #[.none,.bool false,.ref s.heap.objs.size,ycb 0,.none,.none]} }) :=
  .of_wp λprog w A R s h=>by
   obtain⟨hp,g,d,tk,os⟩:=s
   obtain⟨ha,h⟩:=h
   have hsub:=sub_enumerate
   have hA:Heap.IsTuple (Shared.heap ⟨hp,g,d,tk,os⟩) l xs:=ha
   obtain⟨o,ho,_⟩:=id ha
   have ho':hp.get? l=some o:=ho
   wp_walk using yaV ho'
   refine wpAny_stack_any λst=>yac ?_
   split
   ·rename_i c _ _ _ _ _
    cases (c==yca "enumerate")
    ·wp_walk using yaV ho',ych hA
     simp only[ybA]at *
     exact⟨_,rfl,h⟩
    ·wp_walk using yaV ho',ych hA
     simp only[ybA]at *
     exact⟨_,rfl,h⟩
   ·wp_walk using yaV ho',ych hA
    simp only[ybA]at *
    exact⟨_,rfl,h⟩
 refine callType_new yfU (by decide) (yeV _) (yfa _) (λobj=>yfp obj _) yfb meets ⟨t1,?_⟩
 generalize e1:s.heap.push {cls:=.type "tuple_iterator",data:=.fields #[.ref l,.int 0 0]}=m1
 have s1:m1.objs.size=s.heap.objs.size+1:=by rw[<-e1,ybA]
 have q1:m1.get? s.heap.objs.size=some {cls:=.type "tuple_iterator",data:=.fields #[.ref l,.int 0 0]}:=by rw[<-e1];exact Heap.get?_push_size _ rfl
 have k1:∀c o,s.heap.get? c=some o->m1.get? c=some o:=λc o x=>by rw[<-e1];exact Heap.get?_push_of_some _ x
 generalize e2:m1.push {cls:=.type "enumerate",data:=.fields #[.none,.bool false,.ref s.heap.objs.size,ycb 0,.none,.none]}=m2
 have q2:m2.get? (s.heap.objs.size+1)=some {cls:=.type "enumerate",data:=.fields #[.none,.bool false,.ref s.heap.objs.size,ycb 0,.none,.none]}:=by rw[<-e2,<-s1];exact Heap.get?_push_size _ rfl
 have k2:∀c o,m1.get? c=some o->m2.get? c=some o:=λc o x=>by rw[<-e2];exact Heap.get?_push_of_some _ x
 show _/\_
 exact⟨⟨_,q2,rfl⟩,fin m2 q2 ⟨_,k2 _ _ q1,rfl,rfl⟩ λc o x=>k2 _ _ (k1 _ _ x)⟩
end
def Ite (K:Fr0) (a:Addr) (xs:List V):It :=
 ⟨λi H=>i<xs.length/\SqT K H a xs,λi H x H'=>∃p u,H p=none/\xs[i]? = some u/\x=.ref p/\H'=upd H p (.tup [.int i,u]),λi H=>i=xs.length/\SqT K H a xs⟩
def ESt(z i1 a1:Addr)(i:Nat)(h:Heap):Prop:=(∃old,IsEnum h z i1 i old)/\h.IsTupleIter i1 a1 i
theorem qgU {P:yan} {w:World} {K:Fr0} {es:List Expr} {kk:Nat} {pos:Pos} {z i1 a1:Addr} {xs:List V} (zi:z≠i1) (za:z≠a1) (n1:a1≠i1) :
  qkk P w K (.Tuple es kk pos) (Ite K a1 xs) [z,i1] z (ESt z i1 a1) where
 mem:=by simp
 obj:=λi h st b hb=>by
  obtain⟨⟨old,h1⟩,⟨o4,h4,c4,d4⟩⟩:=st
  simp only[yax,nN_,or_false]at hb
  rcases hb with rfl|rfl
  ·exact⟨_,h1,λv e=>by cases (show ygd _=Data.cell v from e)⟩
  ·exact⟨_,h4,λv e=>by rw[d4]at e;cases e⟩
 keep:=λi h h' st k=>by
  obtain⟨⟨old,h1⟩,h4⟩:=st
  exact⟨⟨old,k z (by simp) _ h1⟩,h4.at λo e=>k i1 (by simp) o e⟩
 item:=by
  intro X hP hw hK hc i pins s σ H E I hf st hg
  subst hP hw hK
  obtain⟨hlt,hx⟩:=hg
  obtain⟨⟨old,h1⟩,h4⟩:=st
  obtain⟨it1,r1,p1,z1⟩:=I.tuple hx
  have l1:i<it1.toArray.size:=by rw[sT_,<-r1.length];omega
  have hh:X.A.in1.handled=none:=I.ok.hd hc
  refine yeC (vp hh i1 a1 n1 it1.toArray) h1 ⟨h4,p1⟩ l1 zi (by simp[zi,za]) λx h' tk px ho u1 new hsz kp=>?_
  refine⟨.ref s.heap.objs.size,rfl,ydX ho λh2' zz2 sb=>?_⟩
  obtain⟨xv,hxv⟩:∃v,xs[i]? = some v:=⟨xs[i]'(by omega),gG (by omega)⟩
  obtain⟨x',ex,rx⟩:=r1.get hxv
  have exx:x'=x:=by
   have:it1.toArray[i]? = some x:=px
   rw[List.getElem?_toArray,ex]at this
   exact yaz this
  subst exx
  have lz:z<s.heap.objs.size:=yae h1
  have keep:∀b u,b ∉ [z,i1]->s.heap.get? b=some u->h2'.get? b=some u:=λb u hb e=>by
   simp only[yax,nN_,or_false,not_or]at hb
   exact(sb.2 b hb.1).trans (kp b u hb.1 hb.2 e)
  have I2:Inv X pins σ (upd H s.heap.objs.size (.tup [.int i,xv])) {s with heap:=h2',toks:=tk+1} :=
   qgC I keep hf (yad _) ⟨by show 2<=yai;decide,[.int i tk,x'],.cons ⟨tk,rfl⟩ (.cons rx .nil),⟨_,(sb.2 _ (yb4 lz)).trans new,rfl,_,rfl⟩⟩
  refine⟨.ref s.heap.objs.size,upd H s.heap.objs.size (.tup [.int i,xv]),I2,rfl,⟨s.heap.objs.size,xv,I.hok.fresh (yad _),hxv,rfl,rfl⟩,?_,λb hb=>?_⟩
  ·exact⟨⟨_,by simpa using zz2⟩,u1.1.at λo e=>(sb.2 i1 zi.symm).trans e⟩
  ·have hb1:b≠s.heap.objs.size:=by
    simp only[yax,nN_,or_false]at hb
    obtain⟨o4,g4,_⟩:=h4
    rcases hb with rfl|rfl
    ·exact yao (yae h1)
    ·exact yao (yae g4)
   rw[qv hb1]
   exact(hf b hb).1
 done:=by
  intro X hP hw hK hc i pins s σ H E I hf st hg
  subst hP hw hK
  obtain⟨hlt,hx⟩:=hg
  obtain⟨⟨old,h1⟩,h4⟩:=st
  obtain⟨it1,r1,p1,z1⟩:=I.tuple hx
  have hh:X.A.in1.handled=none:=I.ok.hd hc
  have e:i=it1.toArray.size:=by rw[sT_,<-r1.length];exact hlt
  subst e
  refine yeW (vp hh i1 a1 n1 it1.toArray) h1 ⟨h4,p1⟩ λh' kp=>⟨rfl,qgD (t':=s.toks) I (λb u hb e=>?_) hf⟩
  simp only[yax,nN_,or_false,not_or]at hb
  exact kp b u hb.2 e
 self:=λA i s Q E st h=>by
  obtain⟨⟨old,h1⟩,_⟩:=st
  exact ycX h1 h
section
variable{X:Cx}{c:Fc}{a b e:Expr}{pos:Pos}{es:List Expr}{kk:Nat}{tp:Pos}
def qoz(K:Fr0)(ta:TA):TI:=λσ H R=>ta σ H λvs H1=>∃a1 xs,vs=[.ref a1]/\SqT K H1 a1 xs/\R (Ite K a1 xs) H1
theorem qk0 {ta:TA} {p:Pos} (hg:Gl X "enumerate") (hm:X.mg "enumerate"=none) (ha:PA X [a] ta) (hs:yah [a] X.env=[(false,eval a X.env)]:=by rfl) :
  PI X (.Tuple es kk tp) (.Call (.Name "enumerate" p) [a] [] pos) (qoz X.K ta):=by
 intro pins s σ H R I h
 refine Call_ (qap I hg hm ydN (ybu (thn (ha pos pins s σ H _ I h) λus s1 ⟨vs,H1,I1,r1,q1⟩=>?_) (by rw[hs];rfl) (by rfl)))
 obtain⟨a1,xs,e1,hx,q⟩:=q1
 subst e1
 obtain⟨u1,rfl,ru1⟩:=zt.one r1
 cases (show u1=yag a1 from ru1)
 obtain⟨it1,v1,p1,z1⟩:=I1.tuple hx
 refine qgT (show s1.heap.IsTuple a1 it1.toArray from p1) λh' zz g1 kp=>?_
 refine ycX zz ?_
 have la1:a1<s1.heap.objs.size:=by obtain⟨o,e,_⟩:=p1;exact yae e
 refine⟨s1.heap.objs.size+1,[s1.heap.objs.size+1,s1.heap.objs.size],_,_,H1,rfl,I1.kept (t':=s1.toks) kp,qgU (xs:=xs) (yet _) (yb4 (yd8 la1)) (yao la1),⟨⟨_,zz⟩,g1⟩,λb hb=>?_,q⟩
 simp only[yax,nN_,or_false]at hb
 have hb2:s1.heap.objs.size<=b:=by
  rcases hb with e|e<;>rw[e]
  ·exact Nat.le_add_right _ _
  ·exact yad _
 exact I1.fpOk hb2 (I1.hok.fresh hb2)
def uX (k:Nat):List D->List D
 | []=>[]
 |x::xs => .tup [.int (k:Nat),x]::uX (k+1) xs
theorem uY:∀(k:Nat)(xs:List D),(uX k xs).length=xs.length
 |_,[]=>rfl
 |k,x::xs=>by simp[uX,uY (k+1) xs]
theorem qaL:∀{xs:List D}{k i:Nat}{d:D},(uX k xs)[i]? = some d->∃x,xs[i]? = some x/\d=.tup [.int ((k+i:Nat):Int),x]
 | [],_,_,_,h=>by simp[uX]at h
 |x::xs,k,0,d,h=>by
  have:D.tup [.int (k:Nat),x]=d:=by simpa [uX] using h
  exact⟨x,rfl,this.symm⟩
 |x::xs,k,i+1,d,h=>by
  obtain⟨y,h1,h2⟩:=qaL (xs:=xs) (k:=k+1) (i:=i) (d:=d) (by simpa [uX] using h)
  exact⟨y,by simpa using h1,by rw[h2];congr 4;omega⟩
theorem qk1 {K:Fr0} {A:Addr->Prop} {H:Hp} {ds:List D} {xs:List V} {a1:Addr} (t1:qab K H a1 xs) (i1:IsL K A H ds xs):qip K A H (uX 0 ds) (Ite K a1 xs) where
 go:=λH' i d ex hd=>by
  have hl:i<(uX 0 ds).length:=(gI_.mp hd).1
  rw[uY,<-i1.length]at hl
  exact⟨hl,(t1.elim (λh => .inl (ex.tup _ _ h)) .inr:qab K H' a1 xs).sq⟩
 yl:=λH' i d x H'' ex hd y=>by
  obtain⟨p,u,hp,hu,rfl,rfl⟩:=y
  obtain⟨dx,h1,rfl⟩:=qaL hd
  obtain⟨u',g1,g2⟩:=i1.get h1
  rw[hu]at g1
  cases g1
  have sm:=qx hp (.tup [.int i,u])
  exact⟨sm,p,[.int i,u],rfl,.inl qu,.int i,[u],rfl,by rw[ybc];rfl,u,[],rfl,Is.ext (Ext.of_same sm) (λ_ h _=>h) (Is.ext ex (λ_ h _=>h) g2),rfl⟩
 stop:=λH' ex=>⟨by rw[uY,i1.length],(t1.elim (λh => .inl (ex.tup _ _ h)) .inr:qab K H' a1 xs).sq⟩
def qiz:List D->Option (List D)
 | [.tup xs]=>some (uX 0 xs)
 |_=>none
def qgV(f:M (List D)):M (List D):=bnd f λds=>lift (qiz ds)
theorem qk2 {f:M (List D)} {p:Pos} (hg:Gl X "enumerate") (hm:X.mg "enumerate"=none) (ha:DA X c [a] f) (hs:yah [a] X.env=[(false,eval a X.env)]:=by rfl) :
  DI X c (.Tuple es kk tp) (.Call (.Name "enumerate" p) [a] [] pos) (qgV f):=by
 obtain⟨t,pa,w⟩:=ha
 refine⟨_,qk0 hg hm pa hs,λρ σ H Q r h=>w ρ σ H _ r (WpL.bndI h λds ρ1 vs H1 r1 i1 g1 h1=>?_)⟩
 obtain⟨es',e,h2⟩:=v7 h1
 unfold qiz at e
 split at e
 ·obtain⟨v,rfl,j1⟩:=IsL.inv1 i1
  cases e
  obtain⟨a1,xs,rfl,t1,il1⟩:=Is.tr j1
  exact⟨a1,xs,rfl,t1.sq,h2 _ H1 r1 (qk1 t1 il1) .refl⟩
 ·cases e
end
def vD:D->V
 |.bl b => .bl b
 |.int i => .int i
 |.str x => .str x
 |_ => .non
def flD:D->Bool
 |.non=>true
 |.bl _=>true
 |.int _=>true
 |.str _=>true
 |_=>false
def sqD:D->Option (List D)
 |.tup ds=>some ds
 |.lst ds=>some ds
 |_=>none
def inD (x y:D):Option D:=match sqD y with
 |some ds=>if flD x&&ds.all flD then some (.bl (ds.any λd=>eqV (vD d) (vD x)))else none
 |none=>none
theorem qdv {l:M (List D)} {ρ:Env}:qgV l ρ=match l ρ with|.ok (d,ρ1)=>(match qiz d with|some ds => .ok (ds,ρ1)|none => .bad)|.exc x ρ' => .exc x ρ'|.bad => .bad:=by
 simp only[qgV,bnd]
 cases l ρ with
 |ok z=>obtain⟨z1,ρ1⟩:=z;(dsimp only;cases qiz z1<;>rfl)
 |exc x ρ'=>rfl
 |bad=>rfl
section
variable{X:Cx}{tg iter elt:Expr}{ifs:List Expr}{scope:Scope}{pos:Pos}{wi:TI}{N':List Str}{nt:Nat}{fr:List Nat}
theorem qk3 {i:Nat} {x:Str} {pos' spos:Pos} (hN:X.N.Nodup) (hix:X.N[i]? = some x) (hx:Loc X.env.scope x) (hfx:X.fn x=true\/X.env.scope.names.lookup x=some .local) (hc:X.calm=true) (hi:PI X tg iter wi) (S:ya X scope N' nt fr)
  (hsw:ycK (.ListComp elt [⟨tg,iter,ifs,0⟩] scope pos) (some (.Name x pos')) spos.line X.env=pure true)
  (hs:∀x,ybs iter X.env x=pure x:=by intro _;rfl):PS X (.Assign [.Name x pos'] (.ListComp elt [⟨tg,iter,ifs,0⟩] scope pos) spos) (λD σ H=>qkH X tg ifs elt scope N' wi nt fr σ H λv H'=>D.nx (σ.set i (some v)) H'):=by
 intro pins s σ H D I hw
 obtain⟨cl,hcl,cl1,cl2⟩:=v6 (env:=X.env) (scope:=scope) (λy hy hf=>I.ok.has y.1 (.inl (S.frees y hy hf)))
 rw[exec_Assign_Name_used _ _ _ _ hsw]
 refine yaa (yc8 (yaa ?_))
 show wpAny (model X.prog X.w) X.A (comprehension (.ListComp elt [⟨tg,iter,ifs,0⟩] scope pos) scope X.env _ (newList []) false (eval iter X.env) (some (yb3 (.Name x pos') X.env)) >>= λ_=>pure ()) _ _ s
 refine yaa (thn (Q:=λ_ s'=>SP X pins D .next s') ?_ λ_ s' q=>yac (yac q))
 refine yeo (use:=some (yb3 (.Name x pos') X.env)) rfl hs hcl S.kind S.names (thn (hi pins s σ H _ I hw) λv s1 h1=>thn h1 λitv s2 h2=>?_)
 obtain⟨it,fp,tn,J,H2,e,I2,T,st2,f2,hR⟩:=h2
 subst e
 have hacc:H2 s2.heap.objs.size=none:=I2.hok.fresh (yad _)
 refine yaK (yfo S.nocell (by intro y hy;simp at hy) (λhX hns1 hsb1=>?_) S.kind)
 dsimp only at hns1 hsb1 |-
 have I3:Inv X pins σ (upd H2 s2.heap.objs.size (.lst [])) {s2 with heap:=s2.heap.push {cls:=.type "list",dict:=none,data:=.seq ([]:List Value).toArray} } :=
  I2.lnew (t':=s2.toks) (its:=[]) .nil (yaF _)
 generalize hs3:({s2 with heap:=s2.heap.push {cls:=.type "list",dict:=none,data:=.seq ([]:List Value).toArray} }:yab)=s3 at I3
 have hh3:s2.heap.push {cls:=.type "list",dict:=none,data:=.seq ([]:List Value).toArray}=s3.heap:=by rw[<-hs3]
 rw[hh3]at hns1 hsb1
 have old:∀b o,s3.heap.get? b=some o->hX.get? b=some o:=λb o q=>hsb1.extBut b o (yao (yae q)) (Heap.get?_push_of_some _ q)
 have objs2:∀b∈fp,∃o,s2.heap.get? b=some o:=λb hb=>by
  obtain⟨o,q,_⟩:=T.obj 0 _ st2 b hb
  exact⟨o,q⟩
 have keep23:∀b o,s2.heap.get? b=some o->s3.heap.get? b=some o:=λb o q=>by rw[<-hh3];exact Heap.get?_push_of_some _ q
 have fpne:∀b∈fp,b≠s2.heap.objs.size:=λb hb=>by
  obtain⟨o,q⟩:=objs2 b hb
  exact yao (yae q)
 have f3:∀b∈fp,qc7 X pins (upd H2 s2.heap.objs.size (.lst [])) b:=λb hb=>⟨by rw[qv (fpne b hb)];exact(f2 b hb).1,(f2 b hb).2⟩
 have J0:Inv (zR X scope N' fp cl s3.heap.objs.size s3 (upd H2 s2.heap.objs.size (.lst [])) (X.pn++pins)) [] (qO nt fr σ) (upd H2 s2.heap.objs.size (.lst [])) {s3 with heap:=hX,toks:=s3.toks} :=
  qbo S I3 f3 (λb hb=>(objs2 b hb).imp λo q=>keep23 b o q) cl1 cl2 ⟨_,hns1⟩ old
 obtain⟨g,tt,te,hg,hf,he,W,⟨m0,w0⟩,turn⟩:=hR s2.heap.objs.size fp cl s3.heap.objs.size s3 (upd H2 s2.heap.objs.size (.lst [])) (X.pn++pins) hacc
 have T0:tn 0 hX:=T.keep 0 _ _ st2 λb hb o q=>old b o (keep23 b o q)
 have s3e:∀tk:Nat,({s2 with heap:=hX,toks:=tk}:yab)={s3 with heap:=hX,toks:=tk}:=λtk=>by rw[<-hs3]
 have loop:∀tk:Nat,ybR (model X.prog X.w) X.A (.compLoop (.ListComp elt [⟨tg,iter,ifs,0⟩] scope pos) 0 (.ref it) (.ref s2.heap.objs.size) (yfn scope cl s3.heap.objs.size X.env))
   (ygi (model X.prog X.w) X.A X.xe (some (yb3 (.Name x pos') X.env)) (λ_ s'=>SP X pins D .next s') (.ref s2.heap.objs.size) s3.heap.objs.size) {s3 with heap:=hX,toks:=tk}:=λtk=>by
  have stat:∀{H':Hp},(∀b∈fp,H' b=none)->∀b∈fp,qc7 (zR X scope N' fp cl s3.heap.objs.size s3 (upd H2 s2.heap.objs.size (.lst [])) (X.pn++pins)) [] H' b:=λ{H'} hn b hb=>by
   obtain⟨o,q⟩:=objs2 b hb
   have hbC:b≠s3.heap.objs.size:=yao (yae (keep23 b o q))
   refine⟨hn b hb,hbC,λz=>?_,.inl hb,λx c hx=>(f2 b hb).2.2.2.2.1 x c (cl1 x c hx),λp hp=>?_⟩
   ·rcases List.mem_cons.mp (I2.stkSub b z)with z|z
    ·exact(f2 b hb).2.1 z
    ·exact(f2 b hb).2.2.1 z
   ·have hp':p∈X.pn++pins:=by
     rcases mA_.mp (show p∈(X.pn++pins)++[]from hp)with z|z
     ·exact z
     ·cases z
    exact(f2 b hb).2.2.2.2.2 p hp'
  have fr0:∀b∈fp,upd H2 s2.heap.objs.size (.lst []) b=none:=λb hb=>(f3 b hb).1
  refine qaD (λn s'=>∃i σ' H',Inv (zR X scope N' fp cl s3.heap.objs.size s3 (upd H2 s2.heap.objs.size (.lst [])) (X.pn++pins)) [] σ' H' s'/\tn i s'.heap/\(∀b∈fp,H' b=none)/\W i n σ' H') ?_ m0
   ⟨0,qO nt fr σ,_,J0.tok tk,T0,fr0,w0⟩
  rintro n s4 ⟨i,σ4,H4,J4,st4,fr4,w4⟩
  rcases turn i n σ4 H4 w4 with⟨stop,qn⟩|⟨go,step⟩
  ·refine thn (T.done (zR X scope N' fp cl s3.heap.objs.size s3 (upd H2 s2.heap.objs.size (.lst [])) (X.pn++pins)) rfl rfl rfl hc i [] s4 σ4 H4 _ J4 (stat fr4) st4 stop) λr s5 ⟨hr,J5⟩=>?_
   subst hr
   obtain⟨m5,n5,_⟩:=J5.loc
   have I5:Inv X pins σ H4 s5:=qd8 I3 f3 J5 (yf7 ..)
   have lC:X.env.locals≠s3.heap.objs.size:=yao I3.lt
   have cC:∀y c,X.env.cells.lookup y=some c->c≠s3.heap.objs.size:=λy c hy=>by
    obtain⟨v,o,ho,_⟩:=I3.cell y c hy
    exact yao (yae ho)
   have pC:∀p∈X.pn++pins,p.1≠s3.heap.objs.size:=λp hp=>yao (yae (I3.pin p hp).1)
   refine yf2 (qci (v:=.ref s2.heap.objs.size) I5 hN hix hx rfl (λs'' I6 ⟨a,sb,ha⟩=>?_) hfx)
   have aC:s3.heap.objs.size≠a:=by
    rcases ha with rfl|ha
    ·exact lC.symm
    ·exact(cC _ _ ha).symm
   exact⟨m5,n5.sameBut sb aC,λh' sb'=>⟨_,H4,I6.turned (t':=s''.toks) (λb o hb q=>(sb'.2 b hb).trans q) J5.free lC.symm (.inr I3.sz) cC pC,qn⟩⟩
  ·refine thn (T.item (zR X scope N' fp cl s3.heap.objs.size s3 (upd H2 s2.heap.objs.size (.lst [])) (X.pn++pins)) rfl rfl rfl hc i [] s4 σ4 H4 _ J4 (stat fr4) st4 go) λr s5 ⟨u,hr,h5⟩=>?_
   subst hr
   refine thn h5 λ_ s6 ⟨x,H6,J6,r6,y6,st6,fr6⟩=>?_
   have J6':=J6.pinned (stat fr6) (T.obj _ _ st6)
   have again:∀{σ7:St}{H7:Hp}{s7:yab},Inv (zR X scope N' fp cl s3.heap.objs.size s3 (upd H2 s2.heap.objs.size (.lst [])) (X.pn++pins)) ([]++qbm fp s6.heap) σ7 H7 s7->(∃m',m'<n/\W (i+1) m' σ7 H7) ->
     ∃m,m<n/\∃i σ' H',Inv (zR X scope N' fp cl s3.heap.objs.size s3 (upd H2 s2.heap.objs.size (.lst [])) (X.pn++pins)) [] σ' H' s7/\tn i s7.heap/\(∀b∈fp,H' b=none)/\W i m σ' H':=λ{σ7 H7 s7} I7 hm=>by
    obtain⟨m',hm,w7⟩:=hm
    refine⟨m',hm,i+1,σ7,H7,I7.unpinned,T.keep _ _ _ st6 λb hb o q=>(I7.pin (b,o) (mr_ _ (mr_ _ (yu hb q)))).1,λb hb=>?_,w7⟩
    obtain⟨o,q,d⟩:=T.obj _ _ st6 b hb
    exact(I7.pin (b,o) (mr_ _ (mr_ _ (yu hb q)))).2.1
   refine thn (hg _ s6 σ4 H6 x u _ J6' r6 (step x H6 y6)) λ_ s7 ⟨σ7,H7,J7,q7⟩=>?_
   refine thn (hf _ s7 σ7 H7 _ J7 q7) λok s8 ⟨H8,J8,q8⟩=>?_
   cases ok with
   |false=>
    rw[if_neg yas]at q8 |-
    exact again J8 q8
   |true=>
    rw[if_pos rfl]at q8 |-
    refine thn (he _ s8 σ7 H8 _ J8 q8) λz s9 ⟨y,H9,J9,r9,ys,hys,hz,hm⟩=>?_
    refine thn (qau _ s9 σ7 H9 (.ref s2.heap.objs.size) [y] (.ref s2.heap.objs.size) [z] (λ_ H'=>H'=upd H9 s2.heap.objs.size (.lst (ys++[y]))) J9 rfl (.cons r9 .nil) ⟨_,ys,y,rfl,rfl,hys,hz,rfl⟩) λ_ s10 ⟨_,H10,J10,_,e10⟩=>?_
    subst e10
    exact again J10 hm
 have start:∀tk:Nat,ybR (model X.prog X.w) X.A (.compStart (.ListComp elt [⟨tg,iter,ifs,0⟩] scope pos) 0 (.ref it) (.ref s2.heap.objs.size) (yfn scope cl s3.heap.objs.size X.env))
   (ygi (model X.prog X.w) X.A X.xe (some (yb3 (.Name x pos') X.env)) (λ_ s'=>SP X pins D .next s') (.ref s2.heap.objs.size) s3.heap.objs.size) {s3 with heap:=hX,toks:=tk}:=λtk=>
  yeU (loop tk) (T.self X.A 0 _ _ _ T0 (loop tk))
 have fin:=start (s2.toks+([]:List (Str×Value)).length)
 rw[<-s3e]at fin
 rw[<-hh3]at fin
 rw[hh3]at fin |-
 exact fin
end
section
variable{X:Cx}{c:Fc}
def DC(X:Cx)(c:Fc)(tg it elt:Expr)(ifs:List Expr)(scope:Scope)(N':List Str)(nt:Nat)(fr:List Nat)(f:M D):Prop:=∃wi,PI X tg it wi/\∀ρ σ H Q,Rep X.K c ρ σ H->Wp X.K c σ H Q (f ρ)->qkH X tg ifs elt scope N' wi nt fr σ H Q
theorem qdw {it elt tg:Expr} {ifs:List Expr} {scope:Scope} {N':List Str} {nt:Nat} {fr:List Nat} {fo:Option (Nat×Nat)} {f:M (List D)} {g:D->Env->Option Env} {t:M Bool} {k:M D} (hc:X.calm=true) (hi:DI X c tg it f) (S:ya X scope N' nt fr)
  (hfo:qkK c nt fr fo)
  (hb:∀fp cl C s₀ H₀ pn B0 H1 Io' acc S',DG (zR X scope N' fp cl C s₀ H₀ pn) (cin B0 H1 (foO fo) Io' acc S') tg g/\DF (zR X scope N' fp cl C s₀ H₀ pn) (cin B0 H1 (foO fo) Io' acc S') ifs t/\DE (zR X scope N' fp cl C s₀ H₀ pn) (cin B0 H1 (foO fo) Io' acc S') elt k)
  : DC X c tg it elt ifs scope N' nt fr (z7 nt fr fo f g t k):=by
 obtain⟨wi,pi,wI⟩:=hi
 refine⟨wi,pi,λρ σ H Q r h=>wI ρ σ H _ r (WpI.bnd h λds ρ1 J H1 r1 iok g1 h1=>?_)⟩
 intro acc fp cl C s₀ H₀ pn hn
 obtain⟨⟨tg',pg,wg⟩,⟨tt,pt,wt⟩,⟨te,pe,we⟩⟩:=hb fp cl C s₀ H₀ pn (Cn c σ) H1 (qce σ fo) acc λj=>(qO nt fr σ)[j]?
 refine⟨tg',tt,te,pg,pt,pe,?_⟩
 cases ew:zS g t k ds [] (yE nt fr ρ1) with
 |exc x ρ'=>rw[ew]at h1;exact h1.elim
 |bad=>rw[ew]at h1;exact h1.elim
 | ok p =>
  rw[ew]at h1
  obtain⟨ys,ρe⟩:=p
  have h1:∀v H',Rep X.K c (qkJ fo ρe ρ1) σ H'->Is X.K (Cn c σ) H' (.lst ys) v->Gr c.O σ H1 H'->Q v H':=h1
  have accO:∀j∈foO fo,(qO nt fr σ)[j]? ≠ some (some (.ref acc)):=λj hj e=>by
   have r0:=r1.entry (acc:=acc) hn hfo
   cases fo with
   |none=>cases hj
   |some p=>
    obtain⟨i',j'⟩:=p
    have e2:j=i':=by simpa [foO] using hj
    subst e2
    obtain⟨k2,j2,e1,e2,e3⟩:=yv e
    have hk2:k2=j-nt:=by omega
    subst hk2
    rw[hfo.2.2.1]at e2
    cases e2
    obtain⟨a,us,e4,e5,_⟩:=r1.own j' hfo.1 _ e3
    cases e4;rw[hn]at e5;cases e5
  refine ⟨λi m σ' H'=>m=ds.length-i/\i<=ds.length/\∃ρ' zs xs,Rep X.K (cin (Cn c σ) H1 (foO fo) (qce σ fo) acc λj=>(qO nt fr σ)[j]?) ρ' σ' H'/\(∀j∈foO fo,σ'[j]? = (qO nt fr σ)[j]?)/\H' acc=some (.lst xs)/\IsL X.K (Cn (cin (Cn c σ) H1 (foO fo) (qce σ fo) acc λj=>(qO nt fr σ)[j]?) σ') H' zs xs/\zS g t k (ds.drop i) zs ρ'=.ok (ys,ρe),
   ⟨ds.length,by simp,yaF _,yE nt fr ρ1,[],[],r1.entry hn hfo,λ_ _=>rfl,qu,rfl,by simpa using ew⟩,?_⟩
  rintro i m σ' H' ⟨rfl,hi,ρ',zs,xs,r',so,ha,iz,w⟩
  obtain⟨_,gr⟩:=r1.leave hn hfo (λi j e=>so i (by rw[e];simp[foO])) r'
  have ex:Ext (CnT c σ H1) H1 H':=⟨gr.ext.tup,gr.ext.frz,λb o hb hq=>gr.ext.at_ b o hb.1.2 hq⟩
  have accC:∀τ:St,(∀j∈foO fo,τ[j]? = (qO nt fr σ)[j]?)->Cl (foO fo) τ acc:=λτ hτ j hj e=>accO j hj (by rw[<-hτ j hj];exact e)
  by_cases hlt:i<ds.length
  ·refine .inr ⟨iok.go H' i ds[i] ex (by simp[hlt]),λx H'' y=>?_⟩
   obtain⟨sm,ix⟩:=iok.yl H' i ds[i] x H'' ex (by simp[hlt]) y
   rw[y9 hlt]at w
   unfold zS at w
   have ix2:Is X.K (Cn (cin (Cn c σ) H1 (foO fo) (qce σ fo) acc λj=>(qO nt fr σ)[j]?) σ') H'' ds[i] x:=Is.ext Ext.refl (λa ha _=>⟨⟨ha.1,λe=>by
    have:=ha.2
    rw [e,hn]at this;cases this⟩,λj hj e=>by
     rw[so j hj]at e
     cases fo with
     |none=>cases hj
     |some p=>
      obtain⟨i',j'⟩:=p
      have e2:j=i':=by simpa [foO,cin] using hj
      subst e2
      obtain⟨k2,j2,e1,e2,e3⟩:=yv e
      have hk2:k2=j-nt:=by omega
      subst hk2
      rw[hfo.2.2.1]at e2
      cases e2
      exact ha.1.2 j' hfo.1 e3⟩) ix
   cases e1:g ds[i] ρ' with
   |none=>simp only[e1]at w;cases w
   | some ρ2=>
    simp only[e1]at w
    refine wg ρ' σ' H'' ds[i] x ρ2 _ (r'.same sm) ix2 e1 λσ2 r2 g2 o2=>?_
    have so2:∀j∈foO fo,σ2[j]? = (qO nt fr σ)[j]? := λj hj=>(o2 j hj).trans (so j hj)
    have ha2:H'' acc=some (.lst xs):=sm _ _ ha
    have iz2:=g2.isL (IsL.ext (Ext.of_same sm) (λ_ h _=>h) iz)
    cases e2:t ρ2 with
    |exc x ρ3=>simp only[e2]at w;cases w
    |bad=>simp only[e2]at w;cases w
    | ok p2=>
     obtain⟨bb,ρ3⟩:=p2
     refine wt ρ2 σ2 H'' _ r2 ?_
     rw[e2]
     intro H3 r3 g3
     have ha3:H3 acc=some (.lst xs):=g3.ext.at_ _ _ (accC σ2 so2) ha2
     have iz3:=g3.isL iz2
     cases bb with
     |false=>
      rw[if_neg yas]
      simp only[e2]at w
      exact⟨ds.length-(i+1),by omega,rfl,hlt,ρ3,zs,xs,r3,so2,ha3,iz3,w⟩
     | true=>
      rw[if_pos rfl]
      simp only[e2]at w
      cases e3:k ρ3 with
      |exc x ρ4=>simp only[e3]at w;cases w
      |bad=>simp only[e3]at w;cases w
      | ok p3=>
       obtain⟨d4,ρ4⟩:=p3
       simp only[e3]at w
       refine we ρ3 σ2 H3 _ r3 ?_
       rw[e3]
       intro y4 H4 r4 i4 g4
       have ha4:H4 acc=some (.lst xs):=g4.ext.at_ _ _ (accC σ2 so2) ha3
       have hsz:qW (zs.length+1)=true:=by
        cases e5:qW (zs.length+1) with
        |true=>rfl
        |false=>rw[e5]at w;simp at w
       rw[if_pos hsz]at w
       have hsz':zs.length+1<=yai:=of_decide_eq_true hsz
       have r5:=r4.grow (ys:=xs++[y4]) ha4 (λj hj e=>accC σ2 so2 j hj e)
       have ext5:Ext (Cn (cin (Cn c σ) H1 (foO fo) (qce σ fo) acc λj=>(qO nt fr σ)[j]?) σ2) H4 (upd H4 acc (.lst (xs++[y4]))):=⟨λb us hb=>by rw[qv (jp hb ha4 (by intro z;cases z))];exact hb,λb o u hb=>by rw[qv (jp hb ha4 (by intro z;cases z))];exact hb,λb o hb hq=>by rw[qv hb.1.2];exact hq⟩
       refine⟨xs,ha4,by rw[iz3.length];omega,ds.length-(i+1),by omega,rfl,hlt,ρ4,zs++[d4],xs++[y4],r5,so2,qu,?_,w⟩
       exact IsL.append (IsL.ext ext5 (λ_ h _=>h) (g4.isL iz3)) (IsL.one (Is.ext ext5 (λ_ h _=>h) i4))
  ·have hie:i=ds.length:=by omega
   subst hie
   rw[yc4 (yad _)]at w
   unfold zS at w
   cases w
   obtain⟨r6,g6⟩:=r1.leave hn hfo (λi j e=>so i (by rw[e];simp[foO])) r'
   exact .inl ⟨iok.stop H' ex,h1 _ H' r6 ⟨acc,xs,rfl,r1.new hn,ha,IsL.ext Ext.refl (λa ha hs=>ha.1.1) iz⟩ g6⟩
theorem qdx {i:Nat} {x:Str} {pos' spos pos:Pos} {tg it elt:Expr} {ifs:List Expr} {scope:Scope} {N':List Str} {nt:Nat} {fr:List Nat} {f:M D} (hN:X.N.Nodup) (h:DC X c tg it elt ifs scope N' nt fr f) (hc:X.calm=true) (S:ya X scope N' nt fr)
  (ho:i ∉ c.O:=by exact of_decide_eq_false rfl) (hix:X.N[i]? = some x:=by rfl) (hx:Loc X.env.scope x:=by first|exact ya7 rfl|exact yaN rfl) (hfx:X.fn x=true\/X.env.scope.names.lookup x=some .local:=by first|exact .inl rfl|exact .inr rfl|assumption)
  (hsw:ycK (.ListComp elt [⟨tg,it,ifs,0⟩] scope pos) (some (.Name x pos')) spos.line X.env=pure true:=by rfl) (hs:∀x,ybs it X.env x=pure x:=by intro _;rfl) :
  DS X c (.Assign [.Name x pos'] (.ListComp elt [⟨tg,it,ifs,0⟩] scope pos) spos) (zp i f):=by
 obtain⟨wi,pi,w⟩:=h
 refine⟨_,qk3 hN hix hx hfx hc pi S hsw hs,λρ σ H D r h=>w ρ σ H _ r (Wp.sbnd h λd ρ1 v H1 r1 i1 g1 h1=>?_)⟩
 exact h1 _ H1 (r1.set ho i1) (.set ho)
end
def qei:List Int->Int
 | []=>0
 | [n]=>n
 |n::m::ns=>max n (qei (m::ns))
def qbs:List Int->Int
 | []=>0
 | [n]=>n
 |n::m::ns=>min n (qbs (m::ns))
theorem qbQ:∀(n:Int)(ns:List Int),qei (n::ns)∈n::ns
 |n,[]=>mS_
 |n,m::ns=>by
  have h:=qbQ m ns
  show max n (qei (m::ns))∈_
  rw[Int.max_def]
  split
  ·exact mM _ h
  ·exact mS_
theorem qgW:∀(n:Int)(ns:List Int),∀k∈n::ns,k<=qei (n::ns)
 |n,[]=>λk hk=>by
  have:k=n:=by simpa using hk
  rw[this];exact Int.le_refl _
 |n,m::ns=>λk hk=>by
  have h:=qgW m ns
  show k<=max n (qei (m::ns))
  rcases List.mem_cons.mp hk with rfl|hk
  ·exact Int.le_max_left ..
  ·exact yeu (h k hk) (Int.le_max_right ..)
theorem qbR:∀(n:Int)(ns:List Int),qbs (n::ns)∈n::ns
 |n,[]=>mS_
 |n,m::ns=>by
  have h:=qbR m ns
  show min n (qbs (m::ns))∈_
  rw[Int.min_def]
  split
  ·exact mS_
  ·exact mM _ h
theorem qdy:∀(n:Int)(ns:List Int),∀k∈n::ns,qbs (n::ns)<=k
 |n,[]=>λk hk=>by
  have:k=n:=by simpa using hk
  rw[this];exact Int.le_refl _
 |n,m::ns=>λk hk=>by
  have h:=qdy m ns
  show min n (qbs (m::ns))<=k
  rcases List.mem_cons.mp hk with rfl|hk
  ·exact Int.min_le_left ..
  ·exact yeu (Int.min_le_right ..) (h k hk)
theorem qk4 {ns:List Int} {z:Int} (h1:z∈ns) (h2:∀n∈ns,n<=z):qei ns=z:=by
 cases ns with
 |nil=>cases h1
 |cons n ns=>exact Int.le_antisymm (h2 _ (qbQ n ns)) (qgW n ns z h1)
theorem qgX {ns:List Int} {z:Int} (h1:z∈ns) (h2:∀n∈ns,z<=n):qbs ns=z:=by
 cases ns with
 |nil=>cases h1
 |cons n ns=>exact Int.le_antisymm (qdy n ns z h1) (h2 _ (qbR n ns))
theorem ua {zs:Array (Int×Tok)} {i:Nat} (h:i<zs.size):(zs.toList.map (·.1))[i]? = some (numAt zs i):=by
 have h':i<zs.toList.length:=by simpa using h
 rw[gM_,gG h']
 simp[numAt,h]
section
variable{X:Cx}
theorem qgY (hc:X.calm=true):jN X (.builtin "max") (λxs H Q=>∃(p:Addr)(ns:List Int),xs=[.ref p]/\H p=some (.lst (ns.map V.int))/\ns≠[]/\Q (.int (qei ns)) H):=by
 intro pins s σ H xs us Q I r h
 obtain⟨p,ns,rfl,hp,hne,q⟩:=h
 obtain⟨u,rfl,ru⟩:=zt.one r
 cases ru
 obtain⟨its,rv,pl,hz⟩:=I.list (SqL.of hp)
 have hl:=pl.isList
 have hi:yby its ns:=vn rv
 obtain⟨zs,hx⟩:=hi.allInts.items
 have hl':s.heap.IsList p (ycS zs):=hx▸hl
 have e1:ns=zs.toList.map (·.1):=by
  rw[<-yfB,<-hx]
  exact(show numsOf its.toArray.toList=ns from hi.numsOf).symm
 have hsz:0<zs.size:=by
  cases hzz:zs.toList with
  |nil=>rw[hzz]at e1;exact absurd e1 hne
  |cons a b=>
   have:zs.size=zs.toList.length:=by simp
   rw[this,hzz];simp
 refine max_intList (I.ok.hd hc) hl' hsz λv h' tk hv hk=>?_
 obtain⟨t,rfl⟩:=yeX hv
 obtain⟨b1,b2⟩:=argBest_gt (numAt zs) (zs.size-1)
 have e2:qei ns=numAt zs (yaL (λi j=>decide (numAt zs i>numAt zs j)) (zs.size-1)):=by
  refine qk4 ?_ λn hn=>?_
  ·rw[e1]
   exact ybq (ua (by omega))
  ·rw [e1]at hn
   obtain⟨j,hj⟩:=List.mem_iff_getElem?.mp hn
   have hj2:j<zs.size:=by
    have:=(gI_.mp hj).1
    simpa using this
   rw[ua hj2]at hj
   cases hj
   exact b2 j (by omega)
 rw[<-e2]
 exact⟨.int _,H,I.kept hk,⟨_,rfl⟩,q⟩
theorem qgZ (hc:X.calm=true):jN X (.builtin "min") (λxs H Q=>∃(p:Addr)(ns:List Int),xs=[.ref p]/\H p=some (.lst (ns.map V.int))/\ns≠[]/\Q (.int (qbs ns)) H):=by
 intro pins s σ H xs us Q I r h
 obtain⟨p,ns,rfl,hp,hne,q⟩:=h
 obtain⟨u,rfl,ru⟩:=zt.one r
 cases ru
 obtain⟨its,rv,pl,hz⟩:=I.list (SqL.of hp)
 have hl:=pl.isList
 have hi:yby its ns:=vn rv
 obtain⟨zs,hx⟩:=hi.allInts.items
 have hl':s.heap.IsList p (ycS zs):=hx▸hl
 have e1:ns=zs.toList.map (·.1):=by
  rw[<-yfB,<-hx]
  exact(show numsOf its.toArray.toList=ns from hi.numsOf).symm
 have hsz:0<zs.size:=by
  cases hzz:zs.toList with
  |nil=>rw[hzz]at e1;exact absurd e1 hne
  |cons a b=>
   have:zs.size=zs.toList.length:=by simp
   rw[this,hzz];simp
 refine min_intList (I.ok.hd hc) hl' hsz λv h' tk hv hk=>?_
 obtain⟨t,rfl⟩:=yeX hv
 obtain⟨b1,b2⟩:=argBest_lt (numAt zs) (zs.size-1)
 have e2:qbs ns=numAt zs (yaL (λi j=>decide (numAt zs i<numAt zs j)) (zs.size-1)):=by
  refine qgX ?_ λn hn=>?_
  ·rw[e1]
   exact ybq (ua (by omega))
  ·rw [e1]at hn
   obtain⟨j,hj⟩:=List.mem_iff_getElem?.mp hn
   have hj2:j<zs.size:=by
    have:=(gI_.mp hj).1
    simpa using this
   rw[ua hj2]at hj
   cases hj
   exact b2 j (by omega)
 rw[<-e2]
 exact⟨.int _,H,I.kept hk,⟨_,rfl⟩,q⟩
end
def qg0:List D->Option D
 | [.lst ds]=>match y7 ds with
  |some (n::ns)=>some (.int (qei (n::ns)))
  |_=>none
 |_=>none
def qg1:List D->Option D
 | [.lst ds]=>match y7 ds with
  |some (n::ns)=>some (.int (qbs (n::ns)))
  |_=>none
 |_=>none
theorem qfm {K:Fr0}:uP K qg0 (λxs H Q=>∃(p:Addr)(ns:List Int),xs=[.ref p]/\H p=some (.lst (ns.map V.int))/\ns≠[]/\Q (.int (qei ns)) H):=by
 intro A H xs d vs Q hn h e k
 unfold qg0 at e
 split at e
 ·obtain ⟨v,rfl,a,zs,rfl,_,ta,il⟩:=IsL.inv1 h
  split at e
  ·rename_i n ns hi
   cases e
   rw[y8 il hi]at ta
   exact⟨a,n::ns,rfl,ta,by simp,k _ H (jE.refl H) rfl⟩
  ·cases e
 ·cases e
theorem qfn {K:Fr0}:uP K qg1 (λxs H Q=>∃(p:Addr)(ns:List Int),xs=[.ref p]/\H p=some (.lst (ns.map V.int))/\ns≠[]/\Q (.int (qbs ns)) H):=by
 intro A H xs d vs Q hn h e k
 unfold qg1 at e
 split at e
 ·obtain ⟨v,rfl,a,zs,rfl,_,ta,il⟩:=IsL.inv1 h
  split at e
  ·rename_i n ns hi
   cases e
   rw[y8 il hi]at ta
   exact⟨a,n::ns,rfl,ta,by simp,k _ H (jE.refl H) rfl⟩
  ·cases e
 ·cases e
def yM (t:M Bool) (b:MS):Nat->MS
 |0,_ => .bad
 | n+1,ρ=>match t ρ with
  |.ok (true,ρ1)=>match b ρ1 with
   |.ok (.nx ρ2)=>yM t b n ρ2
   |.ok (.ct ρ2)=>yM t b n ρ2
   |.ok (.bk ρ2) => .ok (.nx ρ2)
   |.ok (.rt d ρ2) => .ok (.rt d ρ2)
   |.exc x ρ2 => .exc x ρ2
   |.bad => .bad
  |.ok (false,ρ1) => .ok (.nx ρ1)
  |.exc x ρ1 => .exc x ρ1
  |.bad => .bad
open Classical in
noncomputable def qbt(t:M Bool)(b:MS):MS:=λρ=>if h:∃n,yM t b n ρ ≠ .bad then yM t b h.choose ρ else .bad
theorem vq {t:M Bool} {b:MS}:∀{n:Nat}{ρ:Env}(k:Nat),yM t b n ρ ≠ .bad->yM t b (n+k) ρ=yM t b n ρ
 |0,ρ,k,h=>absurd rfl h
 | n + 1,ρ,k,h=>by
  have e:n+1+k=(n+k)+1:=by omega
  rw[e]
  unfold yM at h |-
  cases et:t ρ with
  | ok p=>
   obtain⟨v,ρ1⟩:=p
   rw[et]at h
   cases v with
   |false=>rfl
   | true=>
    dsimp only at h |-
    cases eb:b ρ1 with
    |ok fl=>
     rw[eb]at h
     cases fl with
     |nx ρ2=>exact vq k h
     |ct ρ2=>exact vq k h
     |bk ρ2=>rfl
     |rt d ρ2=>rfl
    |exc x ρ2=>rfl
    |bad=>rfl
  |exc x ρ1=>rfl
  |bad=>rfl
theorem qg2 {t:M Bool} {b:MS} {n:Nat} {ρ:Env} {r:R Fl} (h:yM t b n ρ=r) (hb:r ≠ .bad):qbt t b ρ=r:=by
 have hx:∃n,yM t b n ρ ≠ .bad:=⟨n,by rw[h];exact hb⟩
 unfold qbt
 rw[dif_pos hx]
 have hc:=hx.choose_spec
 generalize hx.choose=m at hc
 rcases Nat.le_total m n with hl|hl
 ·obtain⟨k,rfl⟩:=yeD hl
  rw[<-vq k hc];exact h
 ·obtain⟨k,rfl⟩:=yeD hl
  rw[vq k (by rw[h];exact hb)];exact h
theorem qfo {t:M Bool} {b:MS} {ρ:Env}:∃n,qbt t b ρ=yM t b n ρ:=by
 unfold qbt
 split
 ·exact⟨_,rfl⟩
 ·exact⟨0,rfl⟩
section
variable{X:Cx}{c:Fc}{pos:Pos}
theorem qiA {e:Expr} {body:List Stmt} {t:M Bool} {b:MS} (hp:yeJ (model X.prog X.w) X.A X.env X.xe) (ht:DT X c e t) (hb:DSs X c body b):DS X c (.While e body [] pos) (qbt t b):=by
 obtain⟨tc,pc,wc⟩:=ht
 obtain⟨tb,pb,wb⟩:=hb
 refine⟨_,qh9 hp pc pb,λρ σ H D' r h=>?_⟩
 obtain⟨n,en⟩:=qfo (t:=t) (b:=b) (ρ:=ρ)
 rw[en]at h
 refine⟨λm σ' H'=>∃ρ',Rep X.K c ρ' σ' H'/\WpS X.K c σ' H' D' (yM t b m ρ'),⟨n,ρ,r,h⟩,?_⟩
 rintro m σ' H' ⟨ρ',r',w⟩
 cases m with
 |zero=>exact w.elim
 | succ m=>
  unfold yM at w
  refine wc ρ' σ' H' _ r' ?_
  cases et:t ρ' with
  |bad=>rw[et]at w;exact w
  |exc x ρ1=>rw[et]at w;exact λH1 r1 g1=>w σ' H1 r1 g1.s
  | ok p=>
   obtain⟨v,ρ1⟩:=p
   rw[et]at w
   intro H1 r1 g1
   cases v with
   |false=>
    rw[if_neg yas]
    exact w σ' H1 r1 g1.s
   | true=>
    rw[if_pos rfl]
    dsimp only at w
    refine⟨λσ2 H2=>∃ρ2,Rep X.K c ρ2 σ2 H2/\WpS X.K c σ2 H2 D' (yM t b m ρ2),λσ2 H2 q=>⟨m,Nat.lt_succ_self m,q⟩,wb ρ1 σ' H1 _ r1 ?_⟩
    have w2:=w.gr g1.s
    cases e2:b ρ1 with
    |ok fl=>
     cases fl with
     |nx ρ3=>simp only[e2]at w2;exact λσ3 H3 r3 g3=>⟨ρ3,r3,w2.gr g3⟩
     |ct ρ3=>simp only[e2]at w2;exact λσ3 H3 r3 g3=>⟨ρ3,r3,w2.gr g3⟩
     |bk ρ3=>simp only[e2]at w2;exact w2
     |rt d ρ3=>simp only[e2]at w2;exact w2
    |exc x ρ3=>simp only[e2]at w2;exact w2
    |bad=>simp only[e2]at w2;exact w2
end
end L2.Sk
namespace L2.Sk
open PySem PySem.Spec PyProof.Rows
def qoA (h:Heap) (e T:Addr) (cls:Value):Prop :=
 ∃oe vs oT ts a0,h.get? e=some oe/\(oe.cls=cls/\vs[2]? = some .none/\vs[0]? = some a0)/\oe.data=.fields vs/\vs[1]? = some (.ref T)/\T≠e/\h.get? T=some oT/\oT.data=.fields ts/\ts[3]? = some .none
def CX1 (P:yan) (w:World):CXT:=λouter H s E u s'=>∃e T C H',u=.ref e/\s'.os=s.os/\ycx s'.gens/\Un (frs outer) [] H H' s.heap s'.heap/\HOk P w H' s'.heap /\
 s.heap.get? e=none/\s.heap.get? T=none/\H' e=none/\H' T=none/\qoA s'.heap e T (.ref C)/\E (.ref C) none H'
structure Lft (h h':Heap) (ch fs:List Addr):Prop where
 keep:∀b o,b ∉ ch->b ∉ fs->h.get? b=some o->h'.get? b=some o
 slot:∀b o,b∈fs->h.get? b=some o->∃sl,h'.get? b=some {o with slots:=sl}
section
variable{M:Model}{A:yav}{E:Value->yab->Prop}{s:yab}
end
section
variable{X:Cx}{pins:List (Addr×Obj)}{σ:St}{H:Hp}{s:yab}
end
structure XC (base:Heap) (C:Addr) (bm:List Value):Prop where
 hasBase:bm.contains (.type "BaseException")=true
 ex:∃nm q N bs hdct sn sub ab col dd k0 k1 k2 k3 k5 newId initId B bmB mN,base.get? C=some (excClassObj nm q C N bs bm hdct sn sub ab col dd k0 k1 k2 k3 k5 newId)/\base.Ns N mN/\mN "__init__"=none/\OwnTail base bmB bm/\ExcBaseFacts B newId initId bmB
section
variable{X:Cx}{c:Fc}{e:Expr}{es:List Expr}{pos cpos np:Pos}
structure XL2 (X:Cx) (c:Fc) (cl:Str->Option Addr) (E:XK):Prop where
 pass:qbn (CX1 X.prog X.w) X E
 wish:∀x C H',cl x.cls=some C->c.E x H'->E (.ref C) none H'
def qm2 (x:Str) (f:M (List D)):MS:=λρ=>match f ρ with
 |.ok (ds,ρ')=>if qW ds.length then .exc ⟨x,.non⟩ ρ' else .bad
 |.exc z ρ' => .exc z ρ'
 |.bad => .bad
def spX (K:Fr0) (cl:Str->Option Addr) (F:List D->R D):Sp:=λvs H Q E=>∃ds A,IsL K A H ds vs/\qgm K H/\match F ds with
 |.ok d=>∀v H',jE H H'->Is K (λa=>A a\/H a=none) H' d v->Q v H'
 |.exc x _=>∃C,cl x.cls=some C/\∀H',jE H H'->E (.ref C) none H'
 |.bad=>False
def qjM (RN:List Str) (F:List D->R D) (g:M (List D)):M D:=bnd g λds ρ=>match F ds with
 |.ok d => .ok (d,ρ)
 |.exc x _=>if RN.contains x.cls then .exc x ρ else .bad
 |.bad => .bad
def qej (F:List D->R D) (g:M (List D)):M D:=bnd g λds ρ=>match F ds with
 |.ok d => .ok (d,ρ)
 |_ => .bad
theorem qiB {k:Nat} {f:Addr} {fd:yaZ} {ps:List Str} {F:List D->R D} {x:Str} {p:Pos} {g:M (List D)} {cl:Str->Option Addr}
  (G:qbd X.prog X.w X.K X.mg X.base (CX1 X.prog X.w) k f fd ps (spX X.K cl F)) (hr:uE k X.A) (hg:Gl X x) (hm:X.mg x=some (.ref f)) (hk:yak X.K (.ref f)=true) (hb:vI X.K fd ps [])
  (ha:DA X c (e::es) g) (hd:(x==("__debug__":Str))=false:=by decide) (he:yah (e::es) X.env=(false,eval e X.env)::yah es X.env:=by rfl) (hpl:(yaX pos (yah es X.env)).any (·.1)=false:=by rfl):DE X c (.Call (.Name x p) (e::es) [] pos) (qej F g):=by
 obtain⟨t,pa,w⟩:=ha
 refine⟨_,qbC (E:=λ_ _ _=>False) G hr hg hm hk hb .nil (λ_ _ _ _ _ _ _ ⟨_,_,_,_,_,_,_,_,_,_,_,_,_,_,z⟩=>z.elim) pa hd he hpl,λρ σ H Q r h=>w ρ σ H _ r (WpL.bnd h λds ρ1 vs H1 r1 i1 g1 h1=>?_)⟩
 rw[ybS]
 refine⟨ds,Cn c σ,i1,r1.tb,?_⟩
 cases ef:F ds with
 |bad=>simp only[ef]at h1;exact h1.elim
 |exc z ρ'=>simp only[ef]at h1;exact h1.elim
 |ok d=>
  simp only[ef]at h1
  exact λv H' sm i=>h1 v H' (r1.same sm) (Is.ext Ext.refl (λa ha _=>ha.elim id r1.new) i) (.of_same sm)
end
section
variable{P:yan}{w:World}{K:yal}{mg:Str->Option Value}{base:Heap}
structure qk5 (P:yan) (w:World) (K:yal) (mg:Str->Option Value) (base:Heap) (k:Nat) (x:Str) (ps:List Str) (sp:Sp):Prop where
 ex:∃f fd,qbd P w K mg base (CX1 P w) k f fd ps sp/\mg x=some (.ref f)/\yak K (.ref f)=true/\vI K fd ps []
end
section
variable{M:Model}{A:yav}{E:Value->yab->Prop}
variable{nm q nm' q':Str}{C S N N':Addr}{bs bm bs' bm':List Value}{hdct hdct':Bool}{sn sn':List Str}{sub sub':List Value}{ab ab':Bool}{col col':Option Bool}{dd dd':Option Addr}{k0 k1 k2 k3 k5 j0 j1 j2 j3 j5:Option Value}{newId newId':String}
end
end L2.Sk
namespace L2
open PySem PySem.Spec PyProof.Rows
def ub(A:yav)(H:Hp):Prop:=∃e oe u vs,A.handled=some (.ref e)/\H e=some (.frz oe u)/\oe.data=.fields vs/\vs[2]? = some .none
def qm3(A:yav)(sp:Sp)(dvs:List V)(E:XK)(t:TA):TE:=λσ H Q=>t σ H λvs H1=>ub A H1/\sp (vs++dvs) H1 Q E
structure vP (k:Nat) (A:yav):Prop where
 dp:A.depth+3*k+5<ydz
 un:A.units+16*k+200<cLine
 gd:A.guards=some []
theorem vP.mono{j k:Nat}{A:yav}(r:vP k A)(h:j<=k):vP j A:=⟨by have:=r.dp;omega,by have:=r.un;omega,r.gd⟩
theorem vP.deeper {k:Nat} {A:yav} (r:vP (k+1) A) (env:Env):vP k (A.deeper env) :=
 ⟨by have:=r.dp;show A.depth+1+3*k+5<_;omega,by have:=r.un;show A.units+3+16*k+200<_;omega,r.gd⟩
theorem vP.depth{k:Nat}{A:yav}(r:vP k A):A.depth<ydz:=by have:=r.dp;omega
structure qiC (P:yan) (w:World) (K:yal) (mg:Str->Option Value) (base:Heap) (CX:CXT) (k:Nat) (f:Addr) (fd:yaZ) (ps:List Str) (sp:Sp):Prop where
 len:∀vs H Q E,sp vs H Q E->vs.length=ps.length
 run:∀(A:yav)(outer:List Env)(s:yab)(H:Hp)(args:Args)(us:List Value)(vs:List V)(Q:VK)(E:XK),vP k A->ub A H->qmr P w K mg base A outer s H->yef s fd args (ps.zip us)->zt vs us->sp vs H Q E ->
  ybR (model P w) A (.call (.ref f) args) (CR CX outer P w H s Q E) s
section
variable{X:Cx}{CX:CXT}{k:Nat}{f C:Addr}{fd:yaZ}{ps:List Str}{sp:Sp}{dvs:List V}{ds:List Value}{E:XK}{x m:Str}{p pos apos:Pos}{e o:Expr}{es:List Expr}{ta:TE}{t:TA}
theorem qk6 {pins:List (Addr×Obj)} {σ:St} {H:Hp} {s:yab} {Q:VK} {us:List Value} {vs:List V} (F:qiC X.prog X.w X.K X.mg X.base CX k f fd ps sp) (hr:vP k X.A) (hb:vI X.K fd ps ds) (hd:zt dvs ds) (hx:qbn CX X E)
  (I:Inv X pins σ H s) (r:zt vs us) (al:ub X.A H) (h:sp (vs++dvs) H Q E):wpAny (model X.prog X.w) X.A (call (.ref f) us) (EP X pins σ Q) X.xe s:=by
 have r2:zt (vs++dvs) (us++ds):=r.append hd
 have hl:(us++ds).length=ps.length:=by rw[<-r2.length];exact F.len _ _ _ _ h
 refine wpAny_call (yel (F.run X.A X.stack s H ⟨us,[]⟩ (us++ds) (vs++dvs) Q E hr al I.env0 (hb s us I.kIn hl) r2 h) λr s' hq=>?_)
 cases r with
 |error e=>exact hx pins σ H s e s' I hq
 |ok fl=>
  cases fl with
  |ret u=>exact I.after hq
  |next=>exact ya9 hq
  |brk=>exact ya9 hq
  |cont=>exact ya9 hq
theorem qiD (F:qiC X.prog X.w X.K X.mg X.base CX k f fd ps sp) (hr:vP k X.A) (hg:Gl X x) (hm:X.mg x=some (.ref f)) (hk:yak X.K (.ref f)=true) (hb:vI X.K fd ps ds) (hd:zt dvs ds) (hx:qbn CX X E)
  (ha:PA X (e::es) t) (hdb:(x==("__debug__":Str))=false:=by decide) (he:yah (e::es) X.env=(false,eval e X.env)::yah es X.env:=by rfl) (hpl:(yaX pos (yah es X.env)).any (·.1)=false:=by rfl) :
  PE X (.Call (.Name x p) (e::es) [] pos) (qm3 X.A sp dvs E t):=by
 intro pins s σ H Q I h
 refine ycL (qdf I hg hm ?_ hdb)
 refine yfK (h₀:=X.base) I.ok.mod.kin hk (thn (ha pos pins s σ H _ I h) λus s1 ⟨vs,H1,I1,r,q⟩=>⟨I1.kIn,?_⟩) he hpl
 exact qk6 F hr hb hd hx I1 r q.1 q.2
end
end L2
namespace L2.Sk
open PySem PySem.Spec PyProof.Rows
def isT (b:Bool):Value->Bool
 |.bool a=>a==b
 |_=>false
section
variable{X:Cx}
end
def qpr (x:D) (ys:List D):Option D:=match x,ys with
 |.lst ds,[.bl b]=>(uH ds).map λbs => .int (bs.countP (·==b))
 |_,_=>none
def qiE (F:D->List D->Option D) (f:M D) (g:M (List D)):M D:=bnd f λx=>match x with
 |.lst ds=>bnd g λys=>lift (F (.lst ds) ys)
 |_=>λ_ => .bad
def qm4(K:Fr0)(F:D->List D->Option D)(r:V->List V->Hp->VK->Prop):Prop:=∀A H x ys d v vs (Q:VK),(∀a,H a=none->A a)->Is K A H x v->IsL K A H ys vs->F x ys=some d->(∀u H',jE H H'->Is K A H' d u->Q u H')->r v vs H Q
section
variable{X:Cx}{c:Fc}{o e:Expr}{es:List Expr}{apos cpos:Pos}
theorem qk7 {id:String} {name:Str} {r:V->List V->Hp->VK->Prop} {F:D->List D->Option D} {f:M D} {g:M (List D)} (slot:Slot "list" name id) (hty:typeOf (.builtin id)=pure (.type "method_descriptor")) (hm:MtR X id r) (hF:qm4 X.K F r)
  (ho:DE X c o f) (ha:DA X c (e::es) g)
  (hbase:yc9 o name X.env (eval o X.env)=eval o X.env:=by rfl)
  (hfew:((yaX cpos (yah (e::es) X.env)).all (λx => !x.1)&&(yfj cpos (ydE [] X.env)).all (λx=>x.1.isSome)
   && decide ((e::es).length+([]:List ycy).length+(if([]:List ycy).isEmpty then 0 else 1)<30))=true:=by rfl)
  (hline:(apos.endLine==cpos.line)=true:=by rfl) (hs:yah (e::es) X.env=(false,eval e X.env)::yah es X.env:=by rfl) (hplain:(yaX cpos (yah es X.env)).any (·.1)=false:=by rfl) :
  DE X c (.Call (.Attribute o name apos) (e::es) [] cpos) (qiE F f g):=by
 obtain⟨to,po,wo⟩:=ho
 obtain⟨t,pa,wa⟩:=ha
 refine⟨_,qmy yeB slot hty hm po pa hbase hfew hline hs hplain,λρ σ H Q r0 h=>wo ρ σ H _ r0 (Wp.bnd h λx ρ1 v H1 r1 i1 g1 h1=>?_)⟩
 cases x with
 |lst ds=>
  obtain⟨a,xs,rfl,ha,hH,il⟩:=i1
  refine⟨.inl ⟨rfl,xs,.inl (.inl hH)⟩,wa ρ1 σ H1 _ r1 (WpL.bnd h1 λys ρ2 vs H2 r2 i2 g2 h2=>?_)⟩
  obtain⟨d,ed,h3⟩:=h2.lift
  exact hF (Cn c σ) H2 (.lst ds) ys d (.ref a) vs Q (λa ha=>r2.new ha) (g2.is ⟨a,xs,rfl,ha,hH,il⟩) i2 ed λu H' sm i=>h3 u H' (r2.same sm) i (.of_same sm)
 |_=>exact h1.elim
end
def isI (b:Int):Value->Bool
 |.int a _=>a==b
 |_=>false
section
variable{X:Cx}
end
def qps (x:D) (ys:List D):Option D:=match x,ys with
 |.lst ds,[.int b]=>(y7 ds).map λns => .int (ns.countP (·==b))
 |_,_=>none
section
variable{X:Cx}{pins:List (Addr×Obj)}{σ:St}{H:Hp}{s:yab}{xe:Value->yab->Prop}
end
structure qqf (K:Fr0) (base:Heap) (RN:List Str) (S:Addr):Prop where
 sup:∃bm,XC base S bm
 own:∀n C,clR K RN n=some C->∃bm,XC base C bm/\(yag C::bm).contains (.ref S)=true
 ki:∀n C,clR K RN n=some C->XK6 K C
def ch(H6:Hp):Fc:=⟨[],[],λa=>H6 a=none,H6,λ_=>False,λ_ _=>False,λ_=>none⟩
section
variable{X:Cx}{c:Fc}{pos np hpos p1 p2 p3 p4:Pos}{body:List Stmt}
end
end L2.Sk
namespace L2.Sk
open PySem PySem.Spec PyProof.Rows PySem.W
def bmV:List Value:=[.type "ValueError",.type "Exception",.type "BaseException",.type "object"]
def qfp (K:Fr0) (C S:Addr):Bool:=match K.lookup C with
 |some ⟨_,_,.cls cd,_⟩=>cd.mro.contains (.ref S)
 |_=>false
theorem qnW {K:Fr0} {h:Heap} {C S:Addr} (X:K.In h) (q:excIn K C bmV "ValueError.__new__"=true) (hs:qfp K C S=true):∃bm,XC h C bm/\(yag C::bm).contains (.ref S)=true:=by
 unfold excIn at q
 split at q
 ·rename_i dd cd sl ho
  split at q
  ·rename_i C' bm k0 k1 k2 k3 n k5 hm hl
   simp only[yam,beq_iff_eq,yd9]at q
   obtain⟨⟨⟨⟨⟨e1,e2⟩,hdel⟩,ht⟩,hok⟩,hni⟩:=q
   subst e1 e2
   unfold qfp at hs
   rw[ho]at hs
   dsimp only at hs
   rw[hm]at hs
   obtain⟨nm,bs,mro,ns,qn,hd,sn,sub,ab,col,del⟩:=cd
   dsimp only at hm hdel hok hni
   subst hm hdel
   have hz:sl = #[k0,k1,k2,k3,some (.builtin _),k5]:=Array.toList_inj.mp hl
   subst hz
   have hT:=tail_of_in X ht
   refine⟨bm,⟨hT.hasType (by decide +kernel),nm,qn,ns,bs,hd,sn,sub,ab,col,dd,k0,k1,k2,k3,k5,_,"ValueError.__init__","ValueError",bmV,_,X _ _ ho,.of_isNs (isNs_of_in X hok),nsMap_none_of_in X hok hni,hT,PySem.F.excBase_ValueError⟩,hs⟩
  ·cases q
 ·cases q
def qk8 (K:Fr0) (D:Addr):Bool :=
 findIn K (.ref D) "__getattribute__"==some (some (.builtin "BaseException.__getattribute__"))&&findIn K (.ref D) "__getattr__"==some none &&
 findIn K (.ref D) "__class__"==some (some (.builtin "object.__class__"))&&mroIn K D (.type "object")==some true&&subIn K (.ref D) (.type "BaseException")==some true&&(clsIn K D).isSome &&
 (["int","bool","str","tuple","list","dict"].all λT=>kitOne K (.ref D) (.type T)==some false)
theorem qm5 {K:Fr0} {D:Addr} (h:qk8 K D=true):XK6 K D:=by
 unfold qk8 at h
 simp only[yam,beq_iff_eq]at h
 obtain⟨⟨⟨⟨⟨⟨h1,h2⟩,h3⟩,h4⟩,h5⟩,h6⟩,h7⟩:=h
 exact⟨h1,h2,h3,h4,h5,h6,λT hT=>by simpa using List.all_eq_true.mp h7 T hT⟩
def qiF(n m:Str):Bool:=n==m||m=="SackError"
def qm6 (K:Fr0) (S:Addr) (TN:List Str) (n:Str):Bool:=match qaw K n with
 | some C=>excIn K C bmV "ValueError.__new__"&&qfp K C S&&qk8 K C&&kitOne K (.ref C) (.type "ValueError")==some true &&
  TN.all λm=>match qaw K m with
   |some Cm=>kitOne K (.ref C) (.ref Cm)==some (qiF n m)
   |none=>false
 |none=>false
def qpt (K:Fr0) (RN TN:List Str):Bool:=match qaw K "SackError" with
 |some S=>excIn K S bmV "ValueError.__new__"&&qfp K S S&&RN.all (qm6 K S TN)
 |none=>false
structure XT (K:Fr0) (mg:Str->Option Value) (RN TN:List Str):Prop where
 all:qpt K RN TN=true
 mgc:∀n C,qaw K n=some C->mg n=some (.ref C)
section
variable{K:Fr0}{mg:Str->Option Value}{RN TN:List Str}
theorem XT.sup (t:XT K mg RN TN):∃S,qaw K "SackError"=some S/\excIn K S bmV "ValueError.__new__"=true/\qfp K S S=true/\RN.all (qm6 K S TN)=true:=by
 have h:=t.all
 unfold qpt at h
 split at h
 ·rename_i S e
  simp only[yam]at h
  exact⟨S,e,h.1.1,h.1.2,h.2⟩
 ·cases h
theorem XT.row (t:XT K mg RN TN) {S:Addr} (hS:qaw K "SackError"=some S) {n:Str} (hn:RN.contains n=true):qm6 K S TN n=true:=by
 obtain⟨S',e,_,_,h⟩:=t.sup
 rw[hS]at e
 cases e
 exact List.all_eq_true.mp h n (by simpa using hn)
theorem XT.cls (t:XT K mg RN TN) {n:Str} {C:Addr} (h:clR K RN n=some C):qaw K n=some C/\∃S,qaw K "SackError"=some S/\excIn K C bmV "ValueError.__new__"=true/\qfp K C S=true/\XK6 K C/\kitOne K (.ref C) (.type "ValueError")=some true /\
  ∀m∈TN,∃Cm,qaw K m=some Cm/\kitOne K (.ref C) (.ref Cm)=some (qiF n m):=by
 unfold clR at h
 split at h
 ·rename_i hn
  obtain⟨S,hS,_⟩:=t.sup
  have r:=t.row hS hn
  unfold qm6 at r
  rw[h]at r
  simp only[yam,beq_iff_eq]at r
  obtain⟨⟨⟨⟨r1,r2⟩,r3⟩,r4⟩,r5⟩:=r
  refine⟨h,S,hS,r1,r2,qm5 r3,r4,λm hm=>?_⟩
  have:=List.all_eq_true.mp r5 m hm
  split at this
  ·rename_i Cm e
   exact⟨Cm,e,by simpa using this⟩
  ·cases this
 ·cases h
theorem XT.has (t:XT K mg RN TN) {n:Str} (hn:RN.contains n=true):∃C,clR K RN n=some C:=by
 obtain⟨S,hS,_⟩:=t.sup
 have r:=t.row hS hn
 unfold qm6 at r
 split at r
 ·rename_i C e
  exact⟨C,by unfold clR;rw[if_pos hn];exact e⟩
 ·cases r
end
theorem qiG:typeOf (.builtin "list.index")=pure (.type "method_descriptor"):=by kernel_rfl
def qpu (RN:List Str) (m:Str) (f:M D):M D:=bnd f λd=>match d with
 |.exc n=>if RN.contains n then ret (.bl (m=="ValueError"||qiF n m))else λ_ => .bad
 |_=>λ_ => .bad
section
variable{X:Cx}{c:Fc}{a b e:Expr}{pos:Pos}{RN TN:List Str}
end
section
variable{P:yan}{w:World}{K:yal}{mg:Str->Option Value}{base:Heap}
structure qk9 (P:yan) (w:World) (K:yal) (mg:Str->Option Value) (base:Heap) (k:Nat) (x:Str) (ps:List Str) (sp:Sp):Prop where
 ex:∃f fd,qiC P w K mg base CX0 k f fd ps sp/\mg x=some (.ref f)/\yak K (.ref f)=true/\vI K fd ps []
end
end L2.Sk
namespace L2.Sk
open PySem PySem.Spec PyProof.Rows
section
variable{ρ:Env}{f g:M D}{l:M (List D)}{p q:MS}{RN:List Str}
theorem qek (F:List D->R D):qjM RN F l ρ=match l ρ with|.ok (xs,ρ1)=>(match F xs with|.ok d => .ok (d,ρ1)|.exc x _=>(if RN.contains x.cls then .exc x ρ1 else .bad)|.bad => .bad)|.exc x ρ' => .exc x ρ'|.bad => .bad:=by
 simp only[qjM,bnd]
 cases l ρ with
 |ok z=>obtain⟨z1,ρ1⟩:=z;cases F z1<;>rfl
 |exc x ρ'=>rfl
 |bad=>rfl
theorem qel (F:List D->R D):qej F l ρ=match l ρ with|.ok (xs,ρ1)=>(match F xs with|.ok d => .ok (d,ρ1)|_ => .bad)|.exc x ρ' => .exc x ρ'|.bad => .bad:=by
 simp only[qej,bnd]
 cases l ρ with
 |ok z=>obtain⟨z1,ρ1⟩:=z;cases F z1<;>rfl
 |exc x ρ'=>rfl
 |bad=>rfl
theorem qem(x:Str):qm2 x l ρ=match l ρ with|.ok (ds,ρ')=>(if qW ds.length then .exc ⟨x,.non⟩ ρ' else .bad)|.exc z ρ' => .exc z ρ'|.bad => .bad:=rfl
theorem qjN (m:Str):qpu RN m f ρ=match f ρ with|.ok (.exc n,ρ1)=>(if RN.contains n then .ok (.bl (m=="ValueError"||qiF n m),ρ1)else .bad)|.ok _ => .bad|.exc x ρ' => .exc x ρ'|.bad => .bad:=by
 simp only[qpu,bnd]
 cases f ρ with
 |ok z=>
  obtain⟨z1,ρ1⟩:=z
  cases z1<;>first|rfl|(dsimp only;split<;>rfl)
 |exc x ρ'=>rfl
 |bad=>rfl
theorem qdz (F:D->List D->Option D):qiE F f l ρ=match f ρ with
  |.ok (.lst ds,ρ1)=>(match l ρ1 with|.ok (ys,ρ2)=>(match F (.lst ds) ys with|some d => .ok (d,ρ2)|none => .bad)|.exc x ρ' => .exc x ρ'|.bad => .bad)
  |.ok _ => .bad|.exc x ρ' => .exc x ρ'|.bad => .bad:=by
 simp only[qiE,bnd]
 cases f ρ with
 | ok z=>
  obtain⟨z1,ρ1⟩:=z
  cases z1 with
  |lst ds=>
   show bnd l (λys=>lift (F (D.lst ds) ys)) ρ1=(match l ρ1 with|.ok (ys,ρ2)=>(match F (.lst ds) ys with|some d => .ok (d,ρ2)|none => .bad)|.exc x ρ' => .exc x ρ'|.bad => .bad)
   unfold bnd
   cases l ρ1 with
   |ok z=>obtain⟨z2,ρ2⟩:=z;(dsimp only;cases F (.lst ds) z2<;>rfl)
   |exc x ρ'=>rfl
   |bad=>rfl
  |_=>rfl
 |exc x ρ'=>rfl
 |bad=>rfl
end
def unO(_:Nat)(c:Fc):Fc:={c with O:=[],P:=[],B:=λ_=>True}
theorem Gr.unSame{c:Fc}{σ:St}{H H':Hp}{i:Nat}(g:Gr (unO i c).O σ H H'):jE H H':=λb o h=>g.ext.at_ b o (λj hj=>by cases hj) h
theorem Rep.un {K:Fr0} {c:Fc} {ρ:Env} {σ:St} {H:Hp} {i:Nat} (r:Rep K c ρ σ H) (_:i∈c.O):Rep K (unO i c) ρ σ H:=by
 have all:∀b:Addr,Cn (unO i c) σ b:=λb=>⟨trivial,λj hj=>by cases hj⟩
 refine⟨r.len,λk d hk=>?_,λj hj=>(by cases hj),λk j a hk=>(by cases hk),⟨λ_ _=>trivial,r.b0.2⟩,r.kp,r.dm,λj hj=>(by cases hj),λj hj=>(by cases hj)⟩
 obtain⟨v,h1,h2⟩:=r.val k d hk
 refine⟨v,h1,.inr ⟨λz=>(by cases z),?_⟩⟩
 rcases h2 with⟨hk2,ds,a,xs,h3,h5,h6,h7⟩|⟨hk2,h3⟩
 ·subst h3 h5
  exact⟨a,xs,rfl,all a,h6,IsL.ext Ext.refl (λb _ _=>all b) h7⟩
 ·exact Is.ext Ext.refl (λb _ _=>all b) h3
theorem Gr.un{c:Fc}{σ:St}{H H':Hp}{i:Nat}(g:Gr (unO i c).O σ H H'):Gr c.O σ H H':=.of_same g.unSame
open Classical in
open Classical in
open Classical in
section
variable{X:Cx}{c:Fc}{e:Expr}{pos:Pos}
def qoB:List D->Option (List D)
 | [.int i,.int j]=>if decide (-(2 ^ 62)<=i)&&decide (i<2 ^ 62)&&decide (-(2 ^ 62)<=j)&&decide (j<2 ^ 62)then some (wZ i (j-i).toNat)else none
 |_=>none
def qiH(f:M (List D)):M (List D):=bnd f λds=>lift (qoB ds)
theorem qg3 {tg a b:Expr} {f:M (List D)} {p:Pos} (hg:Gl X "range") (hm:X.mg "range"=none) (ha:DA X c [a,b] f) (hs:yah [a,b] X.env=[(false,eval a X.env),(false,eval b X.env)]:=by rfl) (hs2:yah [b] X.env=[(false,eval b X.env)]:=by rfl):DI X c tg (.Call (.Name "range" p) [a,b] [] pos) (qiH f):=by
 obtain⟨t,p,w⟩:=ha
 refine⟨_,qf3 hg hm p hs hs2,λρ σ H Q r h=>w ρ σ H _ r (WpL.bndI h λds ρ1 vs H1 r1 i1 g1 h1=>?_)⟩
 obtain⟨es,e,h2⟩:=v7 h1
 unfold qoB at e
 split at e
 ·rename_i i j
  obtain⟨v,u,rfl,e2,e3⟩:=IsL.inv2 i1
  cases e2
  cases e3
  split at e
  ·rename_i hb
   cases e
   simp only[yam]at hb
   exact⟨i,j,rfl,⟨of_decide_eq_true hb.1.1.1,of_decide_eq_true hb.1.1.2,of_decide_eq_true hb.1.2,of_decide_eq_true hb.2⟩,h2 _ H1 r1 (qjA i _) .refl⟩
  ·cases e
 ·cases e
theorem XL2.un{i:Nat}{cl:Str->Option Addr}{E:XK}(L:XL2 X c cl E):XL2 X (unO i c) cl E:=⟨L.pass,L.wish⟩
def qjO (i n:Nat) (g:D->Env->Option Env) (b:MS):Nat->MS
 |0,ρ=>match zH i ρ with
  |some ds=>if ds.length<=n then .ok (.nx ρ)else .bad
  |none => .bad
 | m + 1,ρ=>match zH i ρ with
  | some ds=>match ds[n-(m+1)]? with
   |none => .bad
   | some d=>match g d ρ with
    |none => .bad
    |some ρ1=>match b ρ1 with
     |.ok (.nx ρ2)=>qjO i n g b m ρ2
     |.ok (.ct ρ2)=>qjO i n g b m ρ2
     |.ok (.bk ρ2) => .ok (.nx ρ2)
     |.ok (.rt r ρ2) => .ok (.rt r ρ2)
     |.exc x ρ2 => .exc x ρ2
     |.bad => .bad
  |none => .bad
end
section
variable{ρ:Env}{f:M D}{t:M Bool}{n:M (List D)}
open Classical in
open Classical in
open Classical in
end
theorem qg4 {l:M (List D)} {ρ ρ1:Env} {i j:Int} (h:l ρ=.ok ([.int i,.int j],ρ1)) (h1 : -1000000000<=i) (h2:i<1000000000) (h3 : -1000000000<=j) (h4:j<1000000000):qiH l ρ=.ok (wZ i (j-i).toNat,ρ1):=by
 unfold qiH
 rw[qgn h]
 unfold qoB
 have a1:decide (-(2 ^ 62:Int)<=i)=true:=decide_eq_true (by omega)
 have a2:decide (i<(2 ^ 62:Int))=true:=decide_eq_true (by omega)
 have a3:decide (-(2 ^ 62:Int)<=j)=true:=decide_eq_true (by omega)
 have a4:decide (j<(2 ^ 62:Int))=true:=decide_eq_true (by omega)
 simp only[a1,a2,a3,a4,yaR,if_true]
 rfl
def inA (x y:D):Option D:=match sqD y with
 |some ds=>if qad x&&qad y then some (.bl ((toPDs ds).any λy=>ya4 y (qM x)))else none
 |none=>none
section
variable{X:Cx}
theorem qen {d:D} (h:qad d=true):(qM d).canLay0=true/\(qM d).depth<=50:=by
 unfold qad at h
 rw[yam,decide_eq_true_eq]at h
 exact h
end
section
variable{prog:yan}{w:World}{A:yav}{R:yek->yab->Prop}{I:Addr}{fp wr:List Addr}{n:Nat}{P:Nat->Value->Prop}{St:Nat->Heap->Prop}
structure qm7 (prog:yan) (w:World) (A:yav) (P:Nat->Value->Prop) (bt:Nat->Nat->Bool) (Ok:Heap->Prop) (wr:List Addr) (Z:Addr):Prop where
 cmp:∀(i j:Nat)(x y:Value)(s:yab)(Q E:Value->yab->Prop),P i x->P j y->Ok s.heap->Q (.bool (bt i j)) s->wpAny (model prog w) A (yge .Lt x y) Q E s
 old:∀h h':Heap,Ok h->(∀b o,b ∉ wr->b≠Z->h.get? b=some o->h'.get? b=some o)->Ok h'
theorem qfq (W:Walks prog w A.in1 I fp wr n P St) {bt:Nat->Nat->Bool} {Ok:Heap->Prop} {Z:Addr} (gZ:Z ∉ fp) (C:qm7 prog w A.in1 P bt Ok wr Z) :
  ∀(m q:Nat)(s:yab)(best:Value)(z:Nat),n=q+1+m->St (q+1) s.heap->P (yaL bt q) best->Ok s.heap ->
  s.heap.get? Z=some {cls:=.type "list",dict:=none,data:=.seq #[best,best] z,slots := #[]} ->
  (∀y h2 t2,P (yaL bt (n-1)) y->(∀b o,b ∉ wr->b≠Z->s.heap.get? b=some o->h2.get? b=some o)->R (.ok (.ret y)) {s with heap:=h2,toks:=t2}) ->
  ybR (model prog w) A (.builtin "min.loop" ⟨[.ref I,.none,.ref Z],[]⟩) R s:=by
 have gw:Z ∉ wr:=λe=>gZ (W.sub _ e)
 have nm:(ybm "min"++ybm ".loop":String)="min.loop":=by decide
 intro m
 induction m with
 | zero=>
  intro q s best z en est eP eO eZ fin
  have eq1:q+1=n:=by omega
  have st':St n s.heap:=eq1▸est
  refine ycg yc5 (by
   rw[ybX ybf _]
   refine yaa (ya2 eZ rfl ?_)
   refine yaa (ydD (W.done s _ _ st' λh1 t1 k1=>?_))
   have eZ1:=k1 Z _ gw eZ
   refine yaa (yci eZ1 rfl (yaa (ycn (yac ?_))))
   exact fin best _ t1 (by rw[<-eq1];exact eP) λb o nb nz g=>(Heap.get?_update_other _ _ (ybk nz)).trans (k1 b o nb g))
 | succ m ih=>
  intro q s best z en est eP eO eZ fin
  have lt1:q+1<n:=by omega
  refine ycg yc5 (by
   rw[ybX ybf _]
   refine yaa (ya2 eZ rfl ?_)
   refine yaa (ydD (W.item (q+1) s _ _ lt1 est λx h1 t1 eP1 est1 k1=>?_))
   have eZ1:=k1 Z _ gw eZ
   have eO1:Ok h1:=C.old _ _ eO λb o nb _ g=>k1 b o nb g
   refine yaa (yac (yaa (ydD (ya0 (yaa (C.cmp (q+1) (yaL bt q) x best _ _ _ eP1 eP eO1 ?_))))))
   refine yaa (ya0 (ybr (yaa (ycn (yac ?_)))))
   cases less:bt (q+1) (yaL bt q) with
   |true=>
    refine yaa (yci eZ1 rfl (yaa (ycn ?_)))
    rw[nm]
    refine yac ⟨ycw ybf _,?_⟩
    refine ih (q+1) _ x _ (by omega) (W.frame _ _ _ est1 λb nb o g=>?_) (by simp only[yaL,less,if_true];exact eP1) (C.old _ _ eO1 λb o _ nz g=>?_) (Heap.get?_update_self _ eZ1 rfl) λy h2 t2 eP2 k2=>?_
    ·exact(Heap.get?_update_other _ _ (λe:Z=b=>gZ (by rw[e];exact nb))).trans g
    ·exact(Heap.get?_update_other _ _ (ybk nz)).trans g
    ·exact fin y h2 t2 eP2 λb o nb nz g=>k2 b o nb nz ((Heap.get?_update_other _ _ (ybk nz)).trans (k1 b o nb g))
   |false=>
    refine yaa (ycn ?_)
    rw[nm]
    refine yac ⟨ycw ybf _,?_⟩
    refine ih (q+1) _ best z (by omega) est1 (by simp only[yaL,less,yaP,if_false];exact eP) eO1 eZ1 λy h2 t2 eP2 k2=>?_
    exact fin y h2 t2 eP2 λb o nb nz g=>k2 b o nb nz (k1 b o nb g))
theorem qdA (W:Walks prog w A.in1 I fp wr n P St) {bt:Nat->Nat->Bool} {Ok:Heap->Prop} {Z:Addr} (gZ:Z ∉ fp) (C:qm7 prog w A.in1 P bt Ok wr Z) {s:yab} {z:Nat} (hn:0<n) (est:St 0 s.heap) (eO:Ok s.heap)
  (eZ:s.heap.get? Z=some {cls:=.type "list",dict:=none,data:=.seq #[] z,slots := #[]})
  (fin:∀y h2 t2,P (yaL bt (n-1)) y->(∀b o,b ∉ wr->b≠Z->s.heap.get? b=some o->h2.get? b=some o)->R (.ok (.ret y)) {s with heap:=h2,toks:=t2}) :
  ybR (model prog w) A (.builtin "min.loop" ⟨[.ref I,.none,.ref Z],[]⟩) R s:=by
 have gw:Z ∉ wr:=λe=>gZ (W.sub _ e)
 have nm:(ybm "min"++ybm ".loop":String)="min.loop":=by decide
 refine ycg yc5 (by
  rw[ybX ybf _]
  refine yaa (ya2 eZ rfl ?_)
  refine yaa (ydD (W.item 0 s _ _ hn est λx h1 t1 eP1 est1 k1=>?_))
  have eZ1:=k1 Z _ gw eZ
  have eO1:Ok h1:=C.old _ _ eO λb o nb _ g=>k1 b o nb g
  refine yaa (yac (yaa (yci eZ1 rfl ?_)))
  rw[nm]
  refine yac ⟨ycw ybf _,?_⟩
  refine qfq W gZ C (n-1) 0 _ x _ (by omega) (W.frame _ _ _ est1 λb nb o g=>?_) eP1 (C.old _ _ eO1 λb o _ nz g=>?_) (Heap.get?_update_self _ eZ1 rfl) λy h2 t2 eP2 k2=>?_
  ·exact(Heap.get?_update_other _ _ (λe:Z=b=>gZ (by rw[e];exact nb))).trans g
  ·exact(Heap.get?_update_other _ _ (ybk nz)).trans g
  ·exact fin y h2 t2 eP2 λb o nb nz g=>k2 b o nb nz ((Heap.get?_update_other _ _ (ybk nz)).trans (k1 b o nb g)))
end
section
variable{prog:yan}{w:World}{A:yav}{E:Value->yab->Prop}{s:yab}
theorem qfr {l:Addr} {its:Array Value} {bt:Nat->Nat->Bool} {Q:Value->yab->Prop} (hh:A.handled=none) (hl:s.heap.IsList l its) (hne:0<its.size)
  (hc:∀(i j:Nat)(x y:Value)(s1:yab)(Q E:Value->yab->Prop),its[i]? = some x->its[j]? = some y->(∀b o,s.heap.get? b=some o->s1.heap.get? b=some o)->Q (.bool (bt i j)) s1->wpAny (model prog w) A.in1 (yge .Lt x y) Q E s1)
  (fin:∀y h' tk,its[yaL bt (its.size-1)]? = some y->(∀b o,s.heap.get? b=some o->h'.get? b=some o)->Q y {s with heap:=h',toks:=tk}) :
  wpAny (model prog w) A (call (.builtin "min") [.ref l]) Q E s:=by
 have nm:(ybm "min"++ybm ".loop":String)="min.loop":=by decide
 refine call_function_tree PySem.F.kind_min PySem.F.plain_min PySem.F.entry_min (PySem.F.args_min1 _) ?_
 refine yaa (wpAny_of_eq (show Builtin.Builtins.bindParams "min" ["key","default"] 0 ⟨[],[]⟩=pure [none,none]from rfl) (yaa (yac ?_)))
 refine yaa (ybV hl ?_)
 have la:l<s.heap.objs.size:=by obtain⟨o,e,_⟩:=hl;exact yae e
 have W:=Walks.list (prog:=prog) (w:=w) (A:=A.in1) hh s.heap.objs.size l (yao la) its
 refine yaa (yaK ?_)
 rw[nm]
 refine yac ⟨ycw ybf _,?_⟩
 have up:∀b o,s.heap.get? b=some o->((s.heap.push {cls:=.type "list_iterator",data:=.fields #[.ref l,.int 0 0]}).push {cls:=.type "list",data:=.seq #[]}).get? b=some o:=λb o g=>Heap.get?_push_of_some _ (Heap.get?_push_of_some _ g)
 have sz:(s.heap.push {cls:=.type "list_iterator",data:=.fields #[.ref l,.int 0 0]}).objs.size=s.heap.objs.size+1:=by simp[Heap.push]
 refine qdA (Ok:=λh=>∀b o,s.heap.get? b=some o->h.get? b=some o) (bt:=bt) W (λz=>?_) ⟨λi j x y s1 Q E p1 p2 ok q=>hc i j x y s1 Q E p1 p2 ok q,λh h' ok k b o g=>k b o (λz=>?_) (λz=>?_) (ok b o g)⟩ hne ⟨?_,?_⟩ up (Heap.get?_push_size _ rfl) λy h2 t2 p k=>?_
 ·have z':(s.heap.push {cls:=.type "list_iterator",data:=.fields #[.ref l,.int 0 0]}).objs.size=s.heap.objs.size\/(s.heap.push {cls:=.type "list_iterator",data:=.fields #[.ref l,.int 0 0]}).objs.size=l:=by simpa using z
  rw[sz]at z'
  rcases z' with e|e
  ·exact absurd e (yet _)
  ·exact absurd (e▸la) (Nat.not_lt.mpr (ygg _))
 ·have z':b=s.heap.objs.size:=by simpa using z
  exact yao (yae g) z'
 ·have g':=yae g
  have z':b=(s.heap.push {cls:=.type "list_iterator",data:=.fields #[.ref l,.int 0 0]}).objs.size:=z
  rw[sz]at z'
  exact absurd (z'▸g') (Nat.not_lt.mpr (ygg _))
 ·exact⟨_,Heap.get?_push_of_some _ (Heap.get?_push_size _ rfl),rfl,rfl⟩
 ·exact hl.at λo e=>up l o e
 ·refine fin y h2 t2 p λb o g=>k b o (λz=>?_) (λz=>?_) (up b o g)
  ·have z':b=s.heap.objs.size:=by simpa using z
   exact yao (yae g) z'
  ·have g':=yae g
   have z':b=(s.heap.push {cls:=.type "list_iterator",data:=.fields #[.ref l,.int 0 0]}).objs.size:=z
   rw[sz]at z'
   exact absurd (z'▸g') (Nat.not_lt.mpr (ygg _))
end
def qdB:List D->Option (List (List Int))
 | []=>some []
 |.tup ts::r=>match y7 ts,qdB r with
  |some n,some ns=>some (n::ns)
  |_,_=>none
 |_=>none
def qfU(ns:List (List Int))(i:Nat):List Int:=(ns[i]?).getD []
def qbi(ns:List (List Int)):Nat:=yaL (λi j=>HT.lexLt (qfU ns i) (qfU ns j)) (ns.length-1)
def qg5:List D->Option D
 | [.lst ds]=>match qdB ds with
  |some (n::ns)=>some (.tup ((qfU (n::ns) (qbi (n::ns))).map .int))
  |_=>none
 |_=>none
theorem uc (bt:Nat->Nat->Bool):∀n,yaL bt n<=n
 |0=>yad _
 |n+1=>by
  have:=uc bt n
  show(if bt (n+1) (yaL bt n)then n+1 else yaL bt n)<=n+1
  split<;>omega
theorem qiI {n:List Int} {ns:List (List Int)}:qbi (n::ns)<(n::ns).length:=by
 have:=uc (λi j=>HT.lexLt (qfU (n::ns) i) (qfU (n::ns) j)) ((n::ns).length-1)
 show yaL _ ((n::ns).length-1)<(n::ns).length
 simp only[lC_]at this |-
 omega
theorem qla {K:Fr0} {A:Addr->Prop} {H:Hp} (ds:List D):∀{xs:List V}{ns:List (List Int)},IsL K A H ds xs->qdB ds=some ns->xs.length=ns.length/\∀i,i<ns.length->∃a,xs[i]? = some (.ref a)/\qab K H a ((qfU ns i).map V.int):=by
 induction ds with
 |nil=>
  intro xs ns h e
  have e1:xs=[]:=h
  have e2:ns=[]:=by unfold qdB at e;exact(yaz e).symm
  subst e1 e2
  exact⟨rfl,λi hi=>absurd hi (ycJ _)⟩
 | cons d r ih=>
  intro xs ns h e
  obtain⟨x,ys,hx,h1,h2⟩:=h
  subst hx
  unfold qdB at e
  split at e
  ·rename_i heq
   cases heq
  ·rename_i ts r' heq
   cases heq
   obtain⟨a,zs,hv,ta,il⟩:=h1
   subst hv
   split at e
   ·rename_i n ms e1 e2
    have e3:n::ms=ns:=yaz e
    subst e3
    obtain⟨l1,l2⟩:=ih h2 e2
    rw[y8 il e1]at ta
    refine⟨by rw[lC_,lC_,l1],λi hi=>?_⟩
    cases i with
    |zero=>exact⟨a,rfl,ta⟩
    |succ i=>
     obtain⟨b,g1,g2⟩:=l2 i (by simpa using hi)
     exact⟨b,by simpa using g1,g2⟩
   ·cases e
  ·cases e
section
variable{X:Cx}
def qiJ(K:Fr0):List V->Hp->VK->Prop:=λxs H Q=>∃(p:Addr)(vs:List V)(ns:List (List Int)),xs=[.ref p]/\H p=some (.lst vs)/\vs.length=ns.length/\ns≠[]/\(∀i,i<ns.length->∃a,vs[i]? = some (.ref a)/\qab K H a ((qfU ns i).map V.int))/\∀v,vs[qbi ns]? = some v->Q v H
theorem qg6 {k:Nat} (hr:uE k X.A):jN X (.builtin "min") (qiJ X.K):=by
 intro pins s σ H xs us Q I r h
 obtain⟨p,vs,ns,rfl,hp,hlen,hne,hat,q⟩:=h
 obtain⟨u,rfl,ru⟩:=zt.one r
 cases ru
 obtain⟨its,rv,pl,hz⟩:=I.list (SqL.of hp)
 have hl:=pl.isList
 have l2:its.length=ns.length:=by rw[<-rv.length];exact hlen
 have hsz:0<its.toArray.size:=by
  rw[sT_,l2]
  exact List.length_pos_iff.mpr hne
 have at_:∀(i:Nat)(x:Value),its.toArray[i]? = some x->∃a items,x=.ref a/\IsTup s.heap a items/\yby items.toList (qfU ns i):=λi x hx=>by
  have hx':its[i]? = some x:=by simpa using hx
  have hi:i<ns.length:=by rw[<-l2];exact(gI_.mp hx').1
  obtain⟨a,h1,h2⟩:=hat i hi
  obtain⟨u2,h3,h4⟩:=rv.get h1
  rw[hx']at h3
  cases h3
  cases h4
  obtain⟨its2,r2,p2,_⟩:=I.tuple h2.sq
  exact⟨a,its2.toArray,rfl,p2,vn r2⟩
 refine qfr (bt:=λi j=>HT.lexLt (qfU ns i) (qfU ns j)) hr.hd hl hsz (λi j x y s1 Q E hx hy kp q=>?_) λy h' tk hy kp=>?_
 ·obtain⟨a,i1,rfl,t1,n1⟩:=at_ i x hx
  obtain⟨b,i2,rfl,t2,n2⟩:=at_ j y hy
  have t1':IsTup s1.heap a i1:=by obtain⟨o,g,r⟩:=t1;exact⟨o,kp a o g,r⟩
  have t2':IsTup s1.heap b i2:=by obtain⟨o,g,r⟩:=t2;exact⟨o,kp b o g,r⟩
  have hu:X.A.in1.units<cLine:=by have:=hr.units;show X.A.units+1<cLine;omega
  exact HT.lt_tupInts t1' t2' n1 n2 hu q
 ·have hy':its[qbi ns]? = some y:=by
   have e:its.toArray.size-1=ns.length-1:=by rw[sT_,l2]
   rw[e]at hy
   simpa [qbi] using hy
  have hb:qbi ns<vs.length:=by
   have:=(gI_.mp hy').1
   rw[rv.length];exact this
  obtain⟨u2,h3,h4⟩:=rv.get (gG hb)
  rw[hy']at h3
  cases h3
  exact⟨vs[qbi ns],H,I.kept kp,h4,q _ (gG hb)⟩
end
theorem qfs {K:Fr0}:uP K qg5 (qiJ K):=by
 intro A H xs d vs Q hn h e k
 unfold qg5 at e
 split at e
 ·rename_i ds
  obtain⟨v,rfl,a,zs,rfl,_,ta,il⟩:=IsL.inv1 h
  split at e
  ·rename_i n ns hi
   cases e
   obtain⟨l1,l2⟩:=qla _ il hi
   refine⟨a,zs,n::ns,rfl,ta,l1,by simp,l2,λv hv=>?_⟩
   obtain⟨b,h1,h2⟩:=l2 (qbi (n::ns)) qiI
   rw[hv]at h1
   cases h1
   exact k _ H (jE.refl H) ⟨b,_,rfl,h2,qbK _⟩
  ·cases e
 ·cases e
def qm8(xs:List D):Option D:=(qg1 xs).or (qg5 xs)
def qm9:List V->Hp->VK->Prop:=λxs H Q=>∃(p:Addr)(ns:List Int),xs=[.ref p]/\H p=some (.lst (ns.map V.int))/\ns≠[]/\Q (.int (qbs ns)) H
theorem qg7 {X:Cx} {k:Nat} (hr:uE k X.A) (hc:X.calm=true):jN X (.builtin "min") (λxs H Q=>qm9 xs H Q\/qiJ X.K xs H Q):=by
 intro pins s σ H xs us Q I r h
 rcases h with h|h
 ·exact qgZ hc pins s σ H xs us Q I r h
 ·exact qg6 hr pins s σ H xs us Q I r h
theorem qft {K:Fr0}:uP K qm8 (λxs H Q=>qm9 xs H Q\/qiJ K xs H Q):=by
 intro A H xs d vs Q hn h e k
 unfold qm8 at e
 cases e1:qg1 xs with
 |some b=>rw[e1]at e;exact .inl (qfn A H xs d vs Q hn h (by rw[e1];exact e) k)
 |none=>rw[e1]at e;exact .inr (qfs A H xs d vs Q hn h e k)
def qg8(K:Fr0):V->List V->Hp->VK->Prop:=λx vs H Q=>∃(l:Addr)(xs:List V)(ds:List D)(d:D)(y:V)(A:Addr->Prop)(j:Nat),x=.ref l/\vs=[y]/\H l=some (.lst xs)/\IsL K A H ds xs/\Is K A H d y/\ds.all qad=true/\qad d=true/\ds.findIdx? (λe=>ya4 (qM e) (qM d))=some j/\Q (.int j) H
theorem qg9 {X:Cx} {k:Nat} (hr:uE k X.A):MtR X "list.index" (qg8 X.K):=by
 intro pins s σ H x vs v us Q I rx rv h
 obtain⟨l,xs,ds,d,y,A,j,rfl,rfl,hH,il,id',ok1,ok2,hj,q⟩:=h
 cases rx
 obtain⟨u,rfl,ru⟩:=zt.one rv
 obtain⟨z,its,n,r,hl,e⟩:=I.lstM hH
 obtain⟨bs,rd,_⟩:=jG I (qbq ok2) id' ru
 have c2:=qen ok2
 have hlen:its.length=ds.length:=by rw[<-r.length];exact il.length
 have rds:∀m (hm:m<ds.length),∃as,Reads s.heap (its[m]'(by omega)) (qM ds[m]) as/\(qM ds[m]).canLay0=true/\(qM ds[m]).depth<=50:=λm hm=>by
  obtain⟨x1,h1,h2⟩:=il.get (gG hm)
  obtain⟨u1,h3,h4⟩:=r.get h1
  rw[gG (show m<its.length by omega)]at h3
  cases h3
  have ok:=List.all_eq_true.mp ok1 ds[m] (ycr hm)
  obtain⟨as,ra,_⟩:=jG I (qbq ok) h2 h4
  exact⟨as,ra,qen ok⟩
 rw[List.findIdx?_eq_some_iff_getElem]at hj
 obtain⟨h1,h2,h3⟩:=hj
 have hz:ds.length<=yai:=by rw[<-il.length];exact z
 rw[ybY]at hz
 have hu:=hr.units
 have val:∀m (hm:m<ds.length),ya4 (yfV s.heap (its[m]'(by omega))) (qM d)=ya4 (qM ds[m]) (qM d):=λm hm=>by
  obtain⟨as,ra,c1,_⟩:=rds m hm
  rw[SeqAt.readOf_eq c1 ra]
 refine ybM yeE ⟨_,e,rfl⟩ PySem.F.entry_list_index (PySem.F.args_list_index_2 _ _) (SeqAt.list_indexAt l its.toArray n none #[] u (λy=>ya4 (yfV s.heap y) (qM d)) j (by simpa [hlen] using h1) (by omega) ?_ ?_) ⟨e,λy hy=>?_,?_⟩
 ·simp only[yfq]
  rw[val j h1]
  exact h2
 ·intro m hm hmj
  have hm':m<ds.length:=by omega
  simp only[yfq]
  rw[val m hm']
  have:=h3 m hmj
  simpa using this
 ·have hy':y∈its:=by simpa using hy
  obtain⟨i,hi⟩:=List.mem_iff_getElem?.mp hy'
  obtain⟨hi1,hi2⟩:=gI_.mp hi
  subst hi2
  obtain⟨as,ra,c1,d1⟩:=rds i (by omega)
  show SeqAt.EqAt _ _ _ _ (ya4 (yfV s.heap its[i]) (qM d))
  rw[SeqAt.readOf_eq c1 ra]
  exact SeqAt.eqAt_reads _ _ _ _ _ _ _ _ ra rd c1 c2.1 (by show X.A.units+1+min _ _<cLine;omega)
 ·exact⟨.int _,H,I.tok _,⟨s.toks,rfl⟩,q⟩
def qcJ (x:D) (ys:List D):Option D:=match x,ys with
 |.lst ds,[d]=>if ds.all qad&&qad d then(ds.findIdx? λe=>ya4 (qM e) (qM d)).map λj => .int j else none
 |_,_=>none
theorem qcK {K:Fr0}:qm4 K qcJ (qg8 K):=by
 intro A H x ys d v vs Q hn ix iy e k
 unfold qcJ at e
 split at e
 ·rename_i ds y
  obtain⟨u,rfl,e2⟩:=IsL.inv1 iy
  obtain⟨a,xs,rfl,_,ta,il⟩:=ix
  split at e
  ·rename_i hok
   rw[yam]at hok
   cases ej:ds.findIdx? (λe=>ya4 (qM e) (qM y)) with
   |none=>rw[ej]at e;cases e
   |some j=>
    rw[ej]at e
    cases e
    exact⟨a,xs,ds,y,u,A,j,rfl,rfl,ta,il,e2,hok.1,hok.2,ej,k _ H (jE.refl H) rfl⟩
  ·cases e
 ·cases e
theorem qeo {prog:yan} {w:World} {A:yav} (hh:A.handled=none) (it tu:Addr) (hne:tu≠it) (arr:Array Value) :
  Draws prog w A it [it,tu] arr.size (λi x=>arr[i]? = some x) (λi h=>h.IsListIter it tu i/\h.IsList tu arr) where
 live:=λi h st=>by obtain⟨⟨o,e,_⟩,_⟩:=st;exact⟨o,e⟩
 frame:=λi h h' st k=>by
  obtain⟨h1,o,e,r⟩:=st
  exact⟨h1.at λo q=>k it (by simp) o q,o,k tu (by simp) o e,r⟩
 item:=λi s Q E hi st q=>wpAny_nextOf_list_item st.1 st.2 (Array.getElem?_eq_getElem hi) λh' h1 sb=>q _ h' s.toks (Array.getElem?_eq_getElem hi) ⟨h1,by
  obtain⟨o,e,r⟩:=st.2
  exact⟨o,sb.extBut _ _ hne e,r⟩⟩ sb
 done:=λs Q E st q=>wpAny_nextOf_list_end hh st.1 st.2 (Array.getElem?_eq_none (yad _)) q
section
variable{prog:yan}{w:World}{A:yav}{E:Value->yab->Prop}{s:yab}
theorem qfu {l:Addr} {xs:Array Value} {Q:Value->yab->Prop} (t1:s.heap.IsList l xs)
  (fin:∀h',IsEnum h' (s.heap.objs.size+1) s.heap.objs.size 0 .none->h'.IsListIter s.heap.objs.size l 0->(∀c o,s.heap.get? c=some o->h'.get? c=some o)->Q (.ref (s.heap.objs.size+1)) {s with heap:=h' }) :
  wpAny (model prog w) A (call (.type "enumerate") [.ref l]) Q E s:=by
 have meets:Meets (yb0.«enumerate.__new__» ⟨[.type "enumerate",.ref l],[]⟩) (λ_ R s=>s.heap.IsList l xs /\
   R (.ok (.ret (.ref (s.heap.objs.size+1)))) {s with heap:=(s.heap.push {cls:=.type "list_iterator",data:=.fields #[.ref l,.int 0 0]}).push {cls:=.type "enumerate",data:=.fields #[.none,.bool false,.ref s.heap.objs.size,ycb 0,.none,.none]} }) :=
  .of_wp λprog w A R s h=>by
   obtain⟨hp,g,d,tk,os⟩:=s
   obtain⟨ha,h⟩:=h
   have hsub:=sub_enumerate
   have hA:Heap.IsList (Shared.heap ⟨hp,g,d,tk,os⟩) l xs:=ha
   obtain⟨o,ho,_⟩:=id ha
   have ho':hp.get? l=some o:=ho
   wp_walk using yaV ho'
   refine wpAny_stack_any λst=>yac ?_
   split
   ·rename_i c _ _ _ _ _
    cases (c==yca "enumerate")
    ·wp_walk using yaV ho',ybV hA
     simp only[ybA]at *
     exact⟨_,rfl,h⟩
    ·wp_walk using yaV ho',ybV hA
     simp only[ybA]at *
     exact⟨_,rfl,h⟩
   ·wp_walk using yaV ho',ybV hA
    simp only[ybA]at *
    exact⟨_,rfl,h⟩
 refine callType_new yfU (by decide) (yeV _) (yfa _) (λobj=>yfp obj _) yfb meets ⟨t1,?_⟩
 generalize e1:s.heap.push {cls:=.type "list_iterator",data:=.fields #[.ref l,.int 0 0]}=m1
 have s1:m1.objs.size=s.heap.objs.size+1:=by rw[<-e1,ybA]
 have q1:m1.get? s.heap.objs.size=some {cls:=.type "list_iterator",data:=.fields #[.ref l,.int 0 0]}:=by rw[<-e1];exact Heap.get?_push_size _ rfl
 have k1:∀c o,s.heap.get? c=some o->m1.get? c=some o:=λc o x=>by rw[<-e1];exact Heap.get?_push_of_some _ x
 generalize e2:m1.push {cls:=.type "enumerate",data:=.fields #[.none,.bool false,.ref s.heap.objs.size,ycb 0,.none,.none]}=m2
 have q2:m2.get? (s.heap.objs.size+1)=some {cls:=.type "enumerate",data:=.fields #[.none,.bool false,.ref s.heap.objs.size,ycb 0,.none,.none]}:=by rw[<-e2,<-s1];exact Heap.get?_push_size _ rfl
 have k2:∀c o,m1.get? c=some o->m2.get? c=some o:=λc o x=>by rw[<-e2];exact Heap.get?_push_of_some _ x
 show _/\_
 exact⟨⟨_,q2,rfl⟩,fin m2 q2 ⟨_,k2 _ _ q1,rfl,rfl⟩ λc o x=>k2 _ _ (k1 _ _ x)⟩
end
def qoC (K:Fr0) (a:Addr) (xs:List V):It :=
 ⟨λi H=>i<xs.length/\SqL K H a xs,λi H x H'=>∃p u,H p=none/\xs[i]? = some u/\x=.ref p/\H'=upd H p (.tup [.int i,u]),λi H=>i=xs.length/\SqL K H a xs⟩
def qp3(z i1 a1:Addr)(i:Nat)(h:Heap):Prop:=(∃old,IsEnum h z i1 i old)/\h.IsListIter i1 a1 i
theorem qfv {P:yan} {w:World} {K:Fr0} {es:List Expr} {kk:Nat} {pos:Pos} {z i1 a1:Addr} {xs:List V} (zi:z≠i1) (za:z≠a1) (n1:a1≠i1) :
  qkk P w K (.Tuple es kk pos) (qoC K a1 xs) [z,i1] z (qp3 z i1 a1) where
 mem:=by simp
 obj:=λi h st b hb=>by
  obtain⟨⟨old,h1⟩,⟨o4,h4,c4,d4⟩⟩:=st
  simp only[yax,nN_,or_false]at hb
  rcases hb with rfl|rfl
  ·exact⟨_,h1,λv e=>by cases (show ygd _=Data.cell v from e)⟩
  ·exact⟨_,h4,λv e=>by rw[d4]at e;cases e⟩
 keep:=λi h h' st k=>by
  obtain⟨⟨old,h1⟩,h4⟩:=st
  exact⟨⟨old,k z (by simp) _ h1⟩,h4.at λo e=>k i1 (by simp) o e⟩
 item:=by
  intro X hP hw hK hc i pins s σ H E I hf st hg
  subst hP hw hK
  obtain⟨hlt,hx⟩:=hg
  obtain⟨⟨old,h1⟩,h4⟩:=st
  obtain⟨it1,r1,p1,z1⟩:=I.list hx
  have l1:i<it1.toArray.size:=by rw[sT_,<-r1.length];omega
  have hh:X.A.in1.handled=none:=I.ok.hd hc
  refine yeC (qeo hh i1 a1 n1 it1.toArray) h1 ⟨h4,p1.isList⟩ l1 zi (by simp[zi,za]) λx h' tk px ho u1 new hsz kp=>?_
  refine⟨.ref s.heap.objs.size,rfl,ydX ho λh2' zz2 sb=>?_⟩
  obtain⟨xv,hxv⟩:∃v,xs[i]? = some v:=⟨xs[i]'(by omega),gG (by omega)⟩
  obtain⟨x',ex,rx⟩:=r1.get hxv
  have exx:x'=x:=by
   have:it1.toArray[i]? = some x:=px
   rw[List.getElem?_toArray,ex]at this
   exact yaz this
  subst exx
  have lz:z<s.heap.objs.size:=yae h1
  have keep:∀b u,b ∉ [z,i1]->s.heap.get? b=some u->h2'.get? b=some u:=λb u hb e=>by
   simp only[yax,nN_,or_false,not_or]at hb
   exact(sb.2 b hb.1).trans (kp b u hb.1 hb.2 e)
  have I2:Inv X pins σ (upd H s.heap.objs.size (.tup [.int i,xv])) {s with heap:=h2',toks:=tk+1} :=
   qgC I keep hf (yad _) ⟨by show 2<=yai;decide,[.int i tk,x'],.cons ⟨tk,rfl⟩ (.cons rx .nil),⟨_,(sb.2 _ (yb4 lz)).trans new,rfl,_,rfl⟩⟩
  refine⟨.ref s.heap.objs.size,upd H s.heap.objs.size (.tup [.int i,xv]),I2,rfl,⟨s.heap.objs.size,xv,I.hok.fresh (yad _),hxv,rfl,rfl⟩,?_,λb hb=>?_⟩
  ·exact⟨⟨_,by simpa using zz2⟩,u1.1.at λo e=>(sb.2 i1 zi.symm).trans e⟩
  ·have hb1:b≠s.heap.objs.size:=by
    simp only[yax,nN_,or_false]at hb
    obtain⟨o4,g4,_⟩:=h4
    rcases hb with rfl|rfl
    ·exact yao (yae h1)
    ·exact yao (yae g4)
   rw[qv hb1]
   exact(hf b hb).1
 done:=by
  intro X hP hw hK hc i pins s σ H E I hf st hg
  subst hP hw hK
  obtain⟨hlt,hx⟩:=hg
  obtain⟨⟨old,h1⟩,h4⟩:=st
  obtain⟨it1,r1,p1,z1⟩:=I.list hx
  have hh:X.A.in1.handled=none:=I.ok.hd hc
  have e:i=it1.toArray.size:=by rw[sT_,<-r1.length];exact hlt
  subst e
  refine yeW (qeo hh i1 a1 n1 it1.toArray) h1 ⟨h4,p1.isList⟩ λh' kp=>⟨rfl,qgD (t':=s.toks) I (λb u hb e=>?_) hf⟩
  simp only[yax,nN_,or_false,not_or]at hb
  exact kp b u hb.2 e
 self:=λA i s Q E st h=>by
  obtain⟨⟨old,h1⟩,_⟩:=st
  exact ycX h1 h
section
variable{X:Cx}{c:Fc}{a b e:Expr}{pos:Pos}{es:List Expr}{kk:Nat}{tp:Pos}
def qna(K:Fr0)(ta:TA):TI:=λσ H R=>ta σ H λvs H1=>∃a1 xs,vs=[.ref a1]/\SqL K H1 a1 xs/\R (qoC K a1 xs) H1
theorem qiK {ta:TA} {p:Pos} (hg:Gl X "enumerate") (hm:X.mg "enumerate"=none) (ha:PA X [a] ta) (hs:yah [a] X.env=[(false,eval a X.env)]:=by rfl) :
  PI X (.Tuple es kk tp) (.Call (.Name "enumerate" p) [a] [] pos) (qna X.K ta):=by
 intro pins s σ H R I h
 refine Call_ (qap I hg hm ydN (ybu (thn (ha pos pins s σ H _ I h) λus s1 ⟨vs,H1,I1,r1,q1⟩=>?_) (by rw[hs];rfl) (by rfl)))
 obtain⟨a1,xs,e1,hx,q⟩:=q1
 subst e1
 obtain⟨u1,rfl,ru1⟩:=zt.one r1
 cases (show u1=yag a1 from ru1)
 obtain⟨it1,v1,p1,z1⟩:=I1.list hx
 refine qfu (show s1.heap.IsList a1 it1.toArray from p1.isList) λh' zz g1 kp=>?_
 refine ycX zz ?_
 have la1:a1<s1.heap.objs.size:=by obtain⟨o,e,_⟩:=p1.isList;exact yae e
 refine⟨s1.heap.objs.size+1,[s1.heap.objs.size+1,s1.heap.objs.size],_,_,H1,rfl,I1.kept (t':=s1.toks) kp,qfv (xs:=xs) (yet _) (yb4 (yd8 la1)) (yao la1),⟨⟨_,zz⟩,g1⟩,λb hb=>?_,q⟩
 simp only[yax,nN_,or_false]at hb
 have hb2:s1.heap.objs.size<=b:=by
  rcases hb with e|e<;>rw[e]
  ·exact Nat.le_add_right _ _
  ·exact yad _
 exact I1.fpOk hb2 (I1.hok.fresh hb2)
end
section
variable{X:Cx}{c:Fc}{a b e:Expr}{pos:Pos}{es:List Expr}{kk:Nat}{tp:Pos}
theorem qiL {K:Fr0} {A:Addr->Prop} {H:Hp} {ds:List D} {xs:List V} {a1:Addr} (hA:A a1) (t1:H a1=some (.lst xs)) (i1:IsL K A H ds xs):qip K A H (uX 0 ds) (qoC K a1 xs) where
 go:=λH' i d ex hd=>by
  have hl:i<(uX 0 ds).length:=(gI_.mp hd).1
  rw[uY,<-i1.length]at hl
  exact⟨hl,SqL.of (ex.at_ _ _ hA t1)⟩
 yl:=λH' i d x H'' ex hd y=>by
  obtain⟨p,u,hp,hu,rfl,rfl⟩:=y
  obtain⟨dx,h1,rfl⟩:=qaL hd
  obtain⟨u',g1,g2⟩:=i1.get h1
  rw[hu]at g1
  cases g1
  have sm:=qx hp (.tup [.int i,u])
  exact⟨sm,p,[.int i,u],rfl,.inl qu,.int i,[u],rfl,by rw[ybc];rfl,u,[],rfl,Is.ext (Ext.of_same sm) (λ_ h _=>h) (Is.ext ex (λ_ h _=>h) g2),rfl⟩
 stop:=λH' ex=>⟨by rw[uY,i1.length],SqL.of (ex.at_ _ _ hA t1)⟩
def qjP:List D->Option (List D)
 | [.lst xs]=>some (uX 0 xs)
 |_=>none
def qep(f:M (List D)):M (List D):=bnd f λds=>lift (qjP ds)
theorem qiM {f:M (List D)} {p:Pos} (hg:Gl X "enumerate") (hm:X.mg "enumerate"=none) (ha:DA X c [a] f) (hs:yah [a] X.env=[(false,eval a X.env)]:=by rfl) :
  DI X c (.Tuple es kk tp) (.Call (.Name "enumerate" p) [a] [] pos) (qep f):=by
 obtain⟨t,pa,w⟩:=ha
 refine⟨_,qiK hg hm pa hs,λρ σ H Q r h=>w ρ σ H _ r (WpL.bndI h λds ρ1 vs H1 r1 i1 g1 h1=>?_)⟩
 obtain⟨es',e,h2⟩:=v7 h1
 unfold qjP at e
 split at e
 ·obtain⟨v,rfl,j1⟩:=IsL.inv1 i1
  cases e
  obtain⟨a1,xs,rfl,hA,t1,il1⟩:=Is.tr j1
  exact⟨a1,xs,rfl,SqL.of t1,h2 _ H1 r1 (qiL hA t1 il1) .refl⟩
 ·cases e
end
section
variable{X:Cx}{c:Fc}{pos:Pos}
end
section
variable{prog:yan}{w:World}{A:yav}{E:Value->yab->Prop}{s:yab}
end
theorem ub.laid {A:yav} {H:Hp} {p:Addr} {o:HO} (x:ub A H) (h:H p=none):ub A (upd H p o):=by
 obtain⟨e,oe,u,vs,h1,h2,h3⟩:=x
 exact⟨e,oe,u,vs,h1,by rw[qv (qA h2 h)];exact h2,h3⟩
theorem ub.rep {K:Fr0} {c:Fc} {A:yav} (x:ub A c.H0) (hio:∀a,¬c.Io a) (ρ:Env) (σ:St) (H:Hp) (r:Rep K c ρ σ H):ub A H:=by
 obtain⟨e,oe,u,vs,h1,h2,h3⟩:=x
 exact⟨e,oe,u,vs,h1,r.kp _ _ h2 (hio e),h3⟩
end L2.Sk
namespace L2
open PySem PySem.Spec PyProof.Rows L2.Sk
structure qp4 (P:yan) (w:World) (K:yal) (tg:Expr) (J:It) (fp:List Addr) (it:Addr) (tn:Nat->Heap->Prop):Prop where
 mem:it∈fp
 obj:∀i h,tn i h->∀b∈fp,∃o,h.get? b=some o/\∀v,o.data ≠ .cell v
 keep:∀i h h',tn i h->(∀b∈fp,∀o,h.get? b=some o->h'.get? b=some o)->tn i h'
 item:∀(X:Cx),X.prog=P->X.w=w->X.K=K->ub X.A X.H₀->∀(i:Nat)(pins:List (Addr×Obj))(s:yab)(σ:St)(H:Hp)(E:Value->yab->Prop),Inv X pins σ H s->(∀b∈fp,qc7 X pins H b)->tn i s.heap->J.go i H ->
  wpAny (model P w) X.A (yc0 (.ref it)) (λr s1=>∃u,r=some u /\
   wpAny (model P w) X.A (ycF tg (.ref it) u) (λ_ s2=>∃x H',Inv X pins σ H' s2/\zY x u/\J.yld i H x H'/\tn (i+1) s2.heap/\∀b∈fp,H' b=none) E s1) E s
 done:∀(X:Cx),X.prog=P->X.w=w->X.K=K->ub X.A X.H₀->∀(i:Nat)(pins:List (Addr×Obj))(s:yab)(σ:St)(H:Hp)(E:Value->yab->Prop),Inv X pins σ H s->(∀b∈fp,qc7 X pins H b)->tn i s.heap->J.stop i H ->
  wpAny (model P w) X.A (yc0 (.ref it)) (λr s1=>r=none/\Inv X pins σ H s1) E s
 self:∀(A:yav)(i:Nat)(s:yab)(Q:Value->yab->Prop)(E:Value->yab->Prop),tn i s.heap->Q (.ref it) s->wpAny (model P w) A (pyIter (.ref it)) Q E s
section
variable{X:Cx}{tg:Expr}
end
end L2
namespace L2.Sk
open PySem PySem.Spec PyProof.Rows
section
variable{X:Cx}{tg iter elt:Expr}{ifs:List Expr}{scope:Scope}{pos:Pos}{wi:TI}{N':List Str}{nt:Nat}{fr:List Nat}
end
section
variable{X:Cx}{c:Fc}{tg a b e:Expr}{pos:Pos}
end
theorem vP.units{k:Nat}{A:yav}(r:vP k A):A.units+64<cLine:=by have:=r.un;omega
section
variable{X:Cx}{c:Fc}{e:Expr}{es:List Expr}{pos:Pos}
theorem qiN {k:Nat} {f:Addr} {fd:yaZ} {ps:List Str} {F:List D->R D} {x:Str} {p:Pos} {g:M (List D)} (hal:∀ρ σ H,Rep X.K c ρ σ H->ub X.A H)
  (G:qiC X.prog X.w X.K X.mg X.base CX0 k f fd ps (spD X.K F)) (hr:vP k X.A) (hg:Gl X x) (hm:X.mg x=some (.ref f)) (hk:yak X.K (.ref f)=true) (hb:vI X.K fd ps [])
  (ha:DA X c (e::es) g) (hd:(x==("__debug__":Str))=false:=by decide) (he:yah (e::es) X.env=(false,eval e X.env)::yah es X.env:=by rfl) (hpl:(yaX pos (yah es X.env)).any (·.1)=false:=by rfl):DE X c (.Call (.Name x p) (e::es) [] pos) (qh F g):=by
 obtain⟨t,pa,w⟩:=ha
 refine⟨_,qiD (E:=λ_ _ _=>False) G hr hg hm hk hb .nil (λ_ _ _ _ _ _ _ z=>z.elim) pa hd he hpl,λρ σ H Q r h=>w ρ σ H _ r (WpL.bnd h λds ρ1 vs H1 r1 i1 g1 h1=>⟨hal _ _ _ r1,?_⟩)⟩
 rw[ybS]
 refine⟨ds,Cn c σ,i1,r1.tb,?_⟩
 cases ef:F ds with
 |bad=>simp only[ef]at h1;exact h1.elim
 |exc z ρ'=>simp only[ef]at h1;exact h1.elim
 |ok d=>
  simp only[ef]at h1
  exact λv H' sm i=>h1 v H' (r1.same sm) (Is.ext Ext.refl (λa ha _=>ha.elim id r1.new) i) (.of_same sm)
end
section
variable{prog:yan}{w:World}{A:yav}{R:yek->yab->Prop}{I:Addr}{fp wr:List Addr}{n:Nat}{P:Nat->Value->Prop}{St:Nat->Heap->Prop}{dv:Value}
end
section
variable{prog:yan}{w:World}{A:yav}{E:Value->yab->Prop}{s:yab}
end
section
variable{prog:yan}{w:World}{A:yav}{R:yek->yab->Prop}{I:Addr}{fp wr:List Addr}{n:Nat}{P:Nat->Value->Prop}{St:Nat->Heap->Prop}{dv:Value}
end
section
variable{prog:yan}{w:World}{A:yav}{E:Value->yab->Prop}{s:yab}
end
section
variable{prog:yan}{w:World}{A:yav}{E:Value->yab->Prop}{s:yab}
end
section
variable{X:Cx}
end
section
variable{X:Cx}{c:Fc}{a b e:Expr}{pos:Pos}
def qjQ(F:List D->List D->Option D)(f g:M (List D)):M D:=bnd f λxs=>bnd g λzs=>lift (F xs zs)
end
def qp5 (xs zs:List D):Option D:=match xs,zs with
 | [.lst ds],[z]=>(y7 ds).map λns=>if ns=[]then z else .int (qei ns)
 |_,_=>none
def slB (x:D) (lo hi:Option Int):Option D:=match x with
 |.tup ds=>some (.tup (qfS ds lo hi))
 |.lst ds=>some (.lst (qfS ds lo hi))
 |_=>none
def qha(f:M D)(g k:M (Option Int)):M D:=bnd f λd=>bnd g λl=>bnd k λu=>lift (slB d l u)
section
variable{X:Cx}{c:Fc}{a b e:Expr}{pos p2:Pos}
theorem qaM {lo hi:Option Expr} {f:M D} {g k:M (Option Int)} (ha:DE X c a f) (hl:DO X c lo g) (hu:DO X c hi k):DE X c (.Subscript a (.Slice lo hi none p2) pos) (qha f g k):=by
 obtain⟨ta,pa,wa⟩:=ha
 obtain⟨tl,pl,wl⟩:=hl
 obtain⟨tu,pu,wu⟩:=hu
 refine⟨_,qid (SlR.or qmL qku) pa pl pu,λρ σ H Q r h=>wa ρ σ H _ r (Wp.bnd h λd ρ1 v H1 r1 i1 g1 h1=>?_)⟩
 refine wl ρ1 σ H1 _ r1 (λl ρ2 e2 H2 r2 g2=>?_) (λx ρ2 e2 H2 r2 g2=>?_) (λe2=>?_)
 ·rw [qgn e2]at h1
  have h1:=h1.gr g2
  refine wu ρ2 σ H2 _ r2 (λu ρ3 e3 H3 r3 g3=>?_) (λx ρ3 e3 H3 r3 g3=>?_) (λe3=>?_)
  ·rw [qgn e3]at h1
   obtain⟨d',e4,h4⟩:=h1.lift
   have i3:=g3.is (g2.is i1)
   clear h1
   cases d<;>simp only[slB]at e4<;>try (cases e4;done)
   ·rename_i ds
    cases e4
    obtain⟨a,xs,rfl,ta,il⟩:=i3
    refine .inl ?_
    by_cases hw:HT.sIx xs.length 0 l=0/\HT.sIx xs.length xs.length u=xs.length
    ·refine .inl ⟨a,xs,rfl,ta.sq,hw,h4 _ H3 r3 ⟨a,xs,rfl,ta,?_⟩ g3⟩
     have e5:qfS ds l u=ds:=by
      unfold qfS
      rw[<-il.length,hw.1,hw.2]
      simp[il.length]
     rw[e5];exact il
    ·refine .inr ⟨a,xs,rfl,ta.sq,hw,λp hp=>h4 _ _ (r3.laid hp _) ⟨p,qh3 xs l u,rfl,.inl qu,?_⟩ (g3.trans (.of_same (qx hp _)))⟩
     refine IsL.ext (Ext.of_same (qx hp _)) (λ_ h _=>h) ?_
     unfold qfS qh3
     rw[<-il.length]
     exact IsL.take _ (IsL.drop _ il)
   ·rename_i ds
    cases e4
    obtain⟨a,xs,rfl,hA,ta,il⟩:=i3
    refine .inr ⟨a,xs,rfl,.inl (.inl ta),λp hp=>h4 _ _ (r3.laid hp _) ⟨p,qh3 xs l u,rfl,r3.new hp,qu,?_⟩ (g3.trans (.of_same (qx hp _)))⟩
    refine IsL.ext (Ext.of_same (qx hp _)) (λ_ h _=>h) ?_
    unfold qfS qh3
    rw[<-il.length]
    exact IsL.take _ (IsL.drop _ il)
  ·unfold bnd at h1;rw[e3]at h1;exact h1 H3 r3 g3
  ·unfold bnd at h1;rw[e3]at h1;exact h1
 ·unfold bnd at h1;rw[e2]at h1;exact h1 H2 r2 g2
 ·unfold bnd at h1;rw[e2]at h1;exact h1
theorem Wp.bndN {K:Fr0} {σ:St} {H:Hp} {Q:VK} {f:M D} {k:D->M (List D)} {ρ:Env} {Q':VK} (h:WpN K c σ H Q (Sk.bnd f k ρ)) (hQ:∀d ρ' v H',Rep K c ρ' σ H'->Is K (Cn c σ) H' d v->Gr c.O σ H H'->WpN K c σ H' Q (k d ρ')->Q' v H'):Wp K c σ H Q' (f ρ):=by
 unfold Sk.bnd at h
 cases e:f ρ with
 |ok p=>rw[e]at h;exact λv H' hr hi hg=>hQ p.1 p.2 v H' hr hi hg (h.gr hg)
 |exc x ρ'=>rw[e]at h;exact h
 |bad=>rw[e]at h;exact h
def qoD (x y:D):Option (List D):=match x,y with
 |.lst ds,.int k=>if(decide (-(2 ^ 62)<=k)&&decide (k<2 ^ 62))&&(qW (ds.length*k.toNat)&&immL ds)then some (yau k.toNat ds).flatten else none
 |_,_=>none
def qpv(f g:M D):M (List D):=bnd f λx=>bnd g λy=>lift (qoD x y)
theorem qiO {K:Fr0} {σ:St} {H:Hp} {Q:VK} {o:Option (List D)} {ρ:Env} (h:WpN K c σ H Q (lift o ρ)):∃ds,o=some ds/\WpN K c σ H Q (.ok (ds,ρ)):=by
 cases o with
 |none=>exact h.elim
 |some d=>exact⟨d,rfl,h⟩
def qfw (f:M D):M (List D):=bnd f λx=>lift (match x with
 |.lst ds=>if immL ds then some ds else none
 |.tup ds=>if immL ds then some ds else none
 |_=>none)
theorem qhb {p:Pos} {f:M D} (hg:Gl X "list") (hm:X.mg "list"=none) (ha:DE X c a f) (hv:yaA "list"=some (.type "list"):=by first|rfl|exact PySem.boot_list)
  (he:yah [a] X.env=(false,eval a X.env)::yah [] X.env:=by rfl) (hpl:(yaX pos (yah [] X.env)).any (·.1)=false:=by rfl):DN X c (.Call (.Name "list" p) [a] [] pos) (qfw f):=by
 obtain⟨ta,pa,wa⟩:=ha
 refine⟨_,vZ wX hg hm hv (yS pa qar he) (by decide) (by decide) he hpl,λρ σ H Q r h=>wa ρ σ H _ r (Wp.bndN h λx ρ1 v H1 r1 i1 g1 h1=>?_)⟩
 obtain⟨ds',e,h3⟩:=qiO h1
 split at e
 ·rename_i ds
  obtain⟨p,xs,rfl,hA,hp,il⟩:=i1
  split at e
  ·rename_i him
   cases e
   exact⟨p,xs,rfl,.inl (.inl (.inl hp)),λq hq=>h3 q _ _ hq (r1.laid hq _) (r1.apart hq) qu trivial (IsL.ext (Ext.of_same (qx hq _)) (λ_ h _=>h) (IsL.imm him il)) (.of_same (qx hq _))⟩
  ·cases e
 ·rename_i ds
  obtain⟨p,xs,rfl,hp,il⟩:=i1
  split at e
  ·rename_i him
   cases e
   exact⟨p,xs,rfl,.inr hp.sq,λq hq=>h3 q _ _ hq (r1.laid hq _) (r1.apart hq) qu trivial (IsL.ext (Ext.of_same (qx hq _)) (λ_ h _=>h) (IsL.imm him il)) (.of_same (qx hq _))⟩
  ·cases e
 ·cases e
def qhc (i:Nat) (f:M D):M D:=λρ=>match zH i ρ with
 |none => .bad
 |some _=>(bnd f λd ρ=>match d,zH i ρ with
  |.lst es,some ds=>if immL es&&qW (ds.length+es.length)then .ok (.non,ρ.set i (some (.lst (ds++es))))else .bad
  |_,_ => .bad) ρ
theorem qoE {tg it:Expr} {f g h:M (List D)} (h1:DI X c tg it f) (h2:DI X c tg it g) (hh:∀ρ,h ρ=f ρ\/h ρ=g ρ):DI X c tg it h:=by
 obtain⟨w1,p1,k1⟩:=h1
 obtain⟨w2,p2,k2⟩:=h2
 refine⟨λσ H R=>w1 σ H R\/w2 σ H R,λpins s σ H R I hw=>hw.elim (p1 pins s σ H R I) (p2 pins s σ H R I),λρ σ H Q r hw=>?_⟩
 rcases hh ρ with e|e
 ·exact .inl (k1 ρ σ H Q r (by rw[<-e];exact hw))
 ·exact .inr (k2 ρ σ H Q r (by rw[<-e];exact hw))
def qaN (f:M (List D)):M (List D):=λρ=>match f ρ with
 |.ok ([.tup _],_)=>qgV f ρ
 |_=>qep f ρ
theorem qeq {es:List Expr} {kk:Nat} {tp p:Pos} {f:M (List D)} (hg:Gl X "enumerate") (hm:X.mg "enumerate"=none) (ha:DA X c [a] f) (hs:yah [a] X.env=[(false,eval a X.env)]:=by rfl) :
  DI X c (.Tuple es kk tp) (.Call (.Name "enumerate" p) [a] [] pos) (qaN f):=qoE (qk2 hg hm ha hs) (qiM hg hm ha hs) (λρ=>by
 unfold qaN
 split
 ·exact .inl rfl
 ·exact .inr rfl)
end
section
variable{ρ:Env}{f g:M D}{l k:M (List D)}
theorem qnX (F:List D->List D->Option D):qjQ F l k ρ=match l ρ with|.ok (xs,ρ1)=>(match k ρ1 with|.ok (zs,ρ2)=>(match F xs zs with|some d => .ok (d,ρ2)|none => .bad)|.exc x ρ' => .exc x ρ'|.bad => .bad)|.exc x ρ' => .exc x ρ'|.bad => .bad:=by
 simp only[qjQ,bnd]
 cases l ρ with
 |ok z=>
  obtain⟨z1,ρ1⟩:=z
  dsimp only
  cases k ρ1 with
  |ok z=>obtain⟨z2,ρ2⟩:=z;(dsimp only;cases F z1 z2<;>rfl)
  |exc x ρ'=>rfl
  |bad=>rfl
 |exc x ρ'=>rfl
 |bad=>rfl
theorem qpw:qpv f g ρ=match f ρ with|.ok (x,ρ1)=>(match g ρ1 with|.ok (y,ρ2)=>(match qoD x y with|some ds => .ok (ds,ρ2)|none => .bad)|.exc x ρ' => .exc x ρ'|.bad => .bad)|.exc x ρ' => .exc x ρ'|.bad => .bad:=by
 simp only[qpv,bnd]
 cases f ρ with
 |ok z=>
  obtain⟨z1,ρ1⟩:=z
  dsimp only
  cases g ρ1 with
  |ok z=>obtain⟨z2,ρ2⟩:=z;(dsimp only;cases qoD z1 z2<;>rfl)
  |exc x ρ'=>rfl
  |bad=>rfl
 |exc x ρ'=>rfl
 |bad=>rfl
theorem qnb (i:Nat):qhc i f ρ=match zH i ρ with
  |none => .bad
  |some _=>(match f ρ with|.ok (d,ρ1)=>(match d,zH i ρ1 with|.lst es,some ds=>(if immL es&&qW (ds.length+es.length)then .ok (.non,ρ1.set i (some (.lst (ds++es))))else .bad)|_,_ => .bad)|.exc x ρ' => .exc x ρ'|.bad => .bad):=by
 unfold qhc
 cases zH i ρ with
 |none=>rfl
 |some z=>
  simp only[bnd]
  cases f ρ with
  |ok z=>obtain⟨z1,ρ1⟩:=z;rfl
  |exc x ρ'=>rfl
  |bad=>rfl
theorem qnc (p q:M (Option Int)):qha f p q ρ=match f ρ with|.ok (d,ρ1)=>(match p ρ1 with|.ok (l,ρ2)=>(match q ρ2 with|.ok (u,ρ3)=>(match slB d l u with|some r => .ok (r,ρ3)|none => .bad)|.exc x ρ' => .exc x ρ'|.bad => .bad)|.exc x ρ' => .exc x ρ'|.bad => .bad)|.exc x ρ' => .exc x ρ'|.bad => .bad:=by
 simp only[qha,bnd]
 cases f ρ with
 | ok z=>
  obtain⟨z1,ρ1⟩:=z
  dsimp only
  cases p ρ1 with
  |ok z=>
   obtain⟨z2,ρ2⟩:=z
   dsimp only
   cases q ρ2 with
   |ok z=>obtain⟨z3,ρ3⟩:=z;(dsimp only;cases slB z1 z2 z3<;>rfl)
   |exc x ρ'=>rfl
   |bad=>rfl
  |exc x ρ'=>rfl
  |bad=>rfl
 |exc x ρ'=>rfl
 |bad=>rfl
end
section
variable{X:Cx}{c:Fc}{e:Expr}{es:List Expr}{pos:Pos}
theorem dC {k j:Nat} {ps:List Str} {F:List D->R D} {x:Str} {p:Pos} {g:M (List D)} (C:zd X.prog X.w X.K X.mg X.base k x ps (spD X.K F)) (hr:uE j X.A) (ha:DA X c (e::es) g)
  (hk:k<=j:=by decide) (hg:Gl X x:=by rfl) (hd:(x==("__debug__":Str))=false:=by decide) (he:yah (e::es) X.env=(false,eval e X.env)::yah es X.env:=by rfl) (hpl:(yaX pos (yah es X.env)).any (·.1)=false:=by rfl):DE X c (.Call (.Name x p) (e::es) [] pos) (qh F g):=by
 obtain⟨f,fd,G,m,kk,b⟩:=C.ex
 exact qkL G (hr.mono hk) hg m kk b ha hd he hpl
theorem nC {k j:Nat} {ps:List Str} {F:List D->R D} {x:Str} {p:Pos} {g:M (List D)} (C:zd X.prog X.w X.K X.mg X.base k x ps (spD X.K F)) (hr:uE j X.A) (ha:DA X c (e::es) g)
  (hk:k<=j:=by decide) (hg:Gl X x:=by rfl) (hd:(x==("__debug__":Str))=false:=by decide) (he:yah (e::es) X.env=(false,eval e X.env)::yah es X.env:=by rfl) (hpl:(yaX pos (yah es X.env)).any (·.1)=false:=by rfl):DN X c (.Call (.Name x p) (e::es) [] pos) (qcD F g):=by
 obtain⟨f,fd,G,m,kk,b⟩:=C.ex
 exact qkU G (hr.mono hk) hg m kk b ha hd he hpl
theorem iC {k j i:Nat} {ps:List Str} {F:List D->List D->R (D×List D)} {x y:Str} {p p1:Pos} {g:M (List D)} (C:zd X.prog X.w X.K X.mg X.base k x ps (qfT X.K F)) (hr:uE j X.A) (ha:DA X c es g)
  (hk:k<=j:=by decide) (hg:Gl X x:=by rfl) (ho:i∈c.O:=by exact of_decide_eq_true rfl) (hN:X.N[i]? = some y:=by rfl) (hv:Vis X.env.scope y:=by first|exact ya7 rfl|exact yaN (ya7 rfl)|exact yaN (yaN rfl)) (hdy:(y==("__debug__":Str))=false:=by decide) (hcd:(y==("__classdict__":Str))=false:=by decide)
  (hd:(x==("__debug__":Str))=false:=by decide) (he:yah (.Name y p1::es) X.env=(false,eval (.Name y p1) X.env)::yah es X.env:=by rfl) (hpl:(yaX pos (yah es X.env)).any (·.1)=false:=by rfl):DE X c (.Call (.Name x p) (.Name y p1::es) [] pos) (qy F i g):=by
 obtain⟨f,fd,G,m,kk,b⟩:=C.ex
 exact qgA G (hr.mono hk) hg m kk b ha ho hN hv hdy hcd hd he hpl
theorem pC {k j:Nat} {ps:List Str} {F:List D->R D} {x:Str} {p:Pos} {g:M (List D)} {cl:Str->Option Addr} (C:qk5 X.prog X.w X.K X.mg X.base k x ps (spX X.K cl F)) (hr:uE j X.A) (ha:DA X c (e::es) g)
  (hk:k<=j:=by decide) (hg:Gl X x:=by rfl) (hd:(x==("__debug__":Str))=false:=by decide) (he:yah (e::es) X.env=(false,eval e X.env)::yah es X.env:=by rfl) (hpl:(yaX pos (yah es X.env)).any (·.1)=false:=by rfl):DE X c (.Call (.Name x p) (e::es) [] pos) (qej F g):=by
 obtain⟨f,fd,G,m,kk,b⟩:=C.ex
 exact qiB G (hr.mono hk) hg m kk b ha hd he hpl
theorem lC {k j:Nat} {ps:List Str} {F:List D->R D} {x:Str} {p:Pos} {g:M (List D)} (hal:∀ρ σ H,Rep X.K c ρ σ H->ub X.A H) (C:qk9 X.prog X.w X.K X.mg X.base k x ps (spD X.K F)) (hr:vP j X.A) (ha:DA X c (e::es) g)
  (hk:k<=j:=by decide) (hg:Gl X x:=by rfl) (hd:(x==("__debug__":Str))=false:=by decide) (he:yah (e::es) X.env=(false,eval e X.env)::yah es X.env:=by rfl) (hpl:(yaX pos (yah es X.env)).any (·.1)=false:=by rfl):DE X c (.Call (.Name x p) (e::es) [] pos) (qh F g):=by
 obtain⟨f,fd,G,m,kk,b⟩:=C.ex
 exact qiN hal G (hr.mono hk) hg m kk b ha hd he hpl
theorem gI {x:Str} {i:Int} (h:∃t,X.mg x=some (.int i t)) (hg:Gl X x:=by rfl) (hd:(x==("__debug__":Str))=false:=by decide):DE X c (.Name x pos) (ret (.int i)):=by
 obtain⟨t,h⟩:=h
 exact qky (v:=.int i) (d:=.int i) hg h ⟨_,rfl⟩ (λ_ _=>rfl) hd
end
theorem nd(N:List Str)(h:N.Nodup:=by decide +kernel):N.Nodup:=h
theorem cs {X:Cx} (N N':List Str) (nt:Nat) (fr:List Nat) (outer:Scope) {scope:Scope} (h0:scope.kind=.function:=by rfl) (h1:∀y∈scope.names,y.2 ≠ .cell:=by decide +kernel) (h2:∀y∈scope.names,y.2=.local->scope.names.lookup y.1=some .local:=by decide +kernel)
  (h3:∀y∈scope.names,y.2=.free->outer.names.lookup y.1=some .cell:=by decide +kernel) (h4:N'.length=nt+fr.length:=by rfl) (h5:∀p∈fr.zipIdx,N'[nt+p.2]? = N[p.1]? /\ ((N[p.1]?).bind λx=>scope.names.lookup x)=some .free:=by decide +kernel)
  (h6:X.env.scope=outer:=by rfl) (h7:X.N=N:=by rfl):ya X scope N' nt fr:=qkV.ok (outer:=outer) (N:=N) ⟨h0,h1,h2,h3,h4,h5⟩ h6 h7
theorem f0{c:Fc}{nt:Nat}(fr O:List Nat)(e:c.O=O:=by rfl)(h:∀j∈fr,j ∉ O:=by decide):qkK c nt fr none:=λj hj=>by rw[e];exact h j hj
theorem f1 {c:Fc} (nt:Nat) (fr O:List Nat) (i j:Nat) (e:c.O=O:=by rfl) (h1:j∈O:=by decide) (h2:nt<=i:=by decide) (h3:fr[i-nt]? = some j:=by rfl) (h4:∀p∈fr.zipIdx,nt+p.2≠i->p.1 ∉ O:=by decide):qkK c nt fr (some (i,j)) :=
 qkY (by rw[e];exact h1) h2 h3 (by rw[e];exact h4)
section
variable{X:Cx}{c:Fc}
end
def qfx(i:Int):Bool:=decide (i.natAbs<2 ^ 2000)
def qiP(i j:Int):Prop:=i.natAbs<2 ^ 2000/\j.natAbs<2 ^ 2000
theorem qhd {i:Int} (h:i.natAbs<2 ^ 2000):yfD i<=2000:=by
 unfold yfD
 split
 ·omega
 ·rename_i h0
  have hz:i.natAbs≠0:=by
   intro z
   exact h0 (by simpa using z)
  have:=(yc1 hz).mpr h
  omega
theorem qlb{X:Cx}:OpR X (ya8 .Mult) (rI qiP λi j => .int (i*j)):=opI λ_ _ _ _ _ _ _ hc q=>mul_int q (IntMulOk.of_le (qhd hc.1) (qhd hc.2) (by omega))
theorem qhe{X:Cx}:OpR X (ya8 .Mult) (λx y H Q=>qfl X.K x y H Q\/rI qiP (λi j => .int (i*j)) x y H Q):=OpR.or zV qlb
def qdb (x y:D):Option D:=match ym x y with
 |some d=>some d
 |none=>qfe (λi j=>qfx i&&qfx j) (λi j => .int (i*j)) x y
theorem qiQ {K:Fr0}:OpS K (qfe (λi j=>qfx i&&qfx j) λi j => .int (i*j)) (rI qiP λi j => .int (i*j)):=qd4 (λ_ _ h=>by
 rw[yam]at h
 exact⟨of_decide_eq_true h.1,of_decide_eq_true h.2⟩) λ_ _ _ _=>rfl
theorem qer {K:Fr0}:OpS K qdb (λx y H Q=>qfl K x y H Q\/rI qiP (λi j => .int (i*j)) x y H Q):=by
 intro A H x y d v u Q hn ix iy e k
 unfold qdb at e
 cases e1:ym x y with
 |some d1=>
  rw[e1]at e
  cases e
  exact .inl (zm A H x y _ v u Q hn ix iy e1 k)
 |none=>
  rw[e1]at e
  exact .inr (qiQ A H x y d v u Q hn ix iy e k)
theorem qhf {i j:Int} (h1:i.natAbs<2 ^ 2000) (h2:j.natAbs<2 ^ 2000):qdb (.int i) (.int j)=some (.int (i*j)):=by
 unfold qdb
 cases e:ym (.int i) (.int j) with
 | some d=>
  have e':(if qdk i j=true then some (D.int (i*j))else none)=some d:=e
  by_cases hc:qdk i j=true
  ·rw[if_pos hc]at e'
   exact e'.symm
  ·rw[if_neg hc]at e'
   cases e'
 |none=>
  have b1:qfx i=true:=decide_eq_true h1
  have b2:qfx j=true:=decide_eq_true h2
  simp only[qfe,b1,b2,yaR,if_true]
section
variable{X:Cx}{c:Fc}{a b e:Expr}{pos:Pos}
def qhg (i:Nat) (f:M D):M D:=λρ=>match zH i ρ with
 |none => .bad
 |some _=>(bnd f λd ρ=>match zH i ρ with
  |some ds=>if qW (ds.length+1)then .ok (.non,ρ.set i (some (.lst (d::ds))))else .bad
  |none => .bad) ρ
end
section
variable{prog:yan}{w:World}{A:yav}{E:Value->yab->Prop}{s:yab}
end
section
variable{X:Cx}{c:Fc}{a e:Expr}{pos:Pos}{tg:Expr}
def qoF:List D->Option (List D)
 | [.tup xs]=>some xs.reverse
 |_=>none
def qpx(f:M (List D)):M (List D):=bnd f λds=>lift (qoF ds)
theorem qpy {l:M (List D)} {ρ:Env}:qpx l ρ=match l ρ with|.ok (d,ρ1)=>(match qoF d with|some ds => .ok (ds,ρ1)|none => .bad)|.exc x ρ' => .exc x ρ'|.bad => .bad:=by
 simp only[qpx,bnd]
 cases l ρ with
 |ok z=>obtain⟨z1,ρ1⟩:=z;(dsimp only;cases qoF z1<;>rfl)
 |exc x ρ'=>rfl
 |bad=>rfl
theorem qnd {f:M D} {ρ:Env} (i:Nat):qhg i f ρ=match zH i ρ with
  |none => .bad
  |some _=>(match f ρ with
   |.ok (d,ρ1)=>(match zH i ρ1 with|some ds=>(if qW (ds.length+1)then .ok (.non,ρ1.set i (some (.lst (d::ds))))else .bad)|none => .bad)
   |.exc x ρ' => .exc x ρ'|.bad => .bad):=by
 unfold qhg
 cases zH i ρ with
 |none=>rfl
 |some z=>
  simp only[bnd]
  cases f ρ with
  |ok z=>obtain⟨z1,ρ1⟩:=z;rfl
  |exc x ρ'=>rfl
  |bad=>rfl
end
end L2.Sk
namespace HT
open PySem PySem.Spec PyProof.Rows
section
variable{prog:yan}{w:World}{A:yav}{E:Value->yab->Prop}{s:yab}
theorem qhh (n:Nat):((yap n).map λk=>n-1-k)=(yap n).reverse:=by
 refine List.ext_getElem (by simp) λi h1 h2=>?_
 simp
theorem qes {α β:Type} {f g:α->Option β}:∀l:List α,(∀a∈l,f a=g a)->l.filterMap f=l.filterMap g
 | [],_=>rfl
 |a::l,h=>by rw[yb9,yb9,h a mS_,qes l λx hx=>h x (mM _ hx)]
theorem qet (xs:Array Value):((yap xs.size).filterMap λ(m:Nat)=>xs[(((xs.size:Int)-1)+(m:Int) * -1).toNat]?)=xs.toList.reverse:=by
 have e:((yap xs.size).filterMap λ(m:Nat)=>xs[(((xs.size:Int)-1)+(m:Int) * -1).toNat]?)=((yap xs.size).map λk=>xs.size-1-k).filterMap λx=>xs[x]? := by
  rw[ycO]
  refine qes _ λm hm=>?_
  have:=mR_.mp hm
  have e:(((xs.size:Int)-1)+(m:Int) * -1).toNat=xs.size-1-m:=by omega
  rw[e]
  rfl
 rw[e,qhh,List.filterMap_reverse]
 have:=pick_run xs 0 xs.size
 rw[ycO]at this
 have e2:((λx=>xs[x]?)∘λx=>0+x)=λx=>xs[x]? := by
  funext x
  show xs[0+x]? = _
  rw[ybc]
 rw[e2]at this
 rw[this,List.drop_zero]
 congr 1
 exact yeY (by simp)
theorem qdC {sl:Addr} {vk:Value} {n:Nat} {Q:Int×Int×Nat->yab->Prop} (hs:s.heap.IsSliceOf sl .none .none vk) (pk:ycN vk (some (-1)))
  (h:Q ((n:Int)-1,-1,n) s):wpAny (model prog w) A (ybT (.ref sl) (pure (n:Int))) Q E s:=by
 obtain⟨os,hos,hcs,hds⟩:=id hs
 unfold ybT yec
 refine yaa (yaa (yaE hos hds (x:=.none) rfl (yaa (yaE hos hds (x:=.none) rfl (yaa (yaE hos hds (x:=vk) rfl (yac ?_)))))))
 refine yaa (wD pk ?_)
 show wpAny _ _ (if((-1:Int)==0)=true then _ else _) _ _ s
 rw[if_neg (by decide)]
 refine yaa (ydA (yaa (ydA (yaa (yac ?_)))))
 show wpAny _ _ (pure ((n:Int)-1,(-1:Int),ya6 ((n:Int)-1) (-1) (-1))) _ _ s
 have e:ya6 ((n:Int)-1) (-1) (-1)=n:=by
  unfold ya6
  rw[if_neg (by decide),show(- -1:Int)=1 from rfl,yfP]
  split<;>omega
 rw[e]
 exact yac h
theorem getItem_tuple_rev {t sl:Addr} {items:Array Value} {vk:Value} {Q:Value->yab->Prop} (ht:IsTup s.heap t items) (hs:s.heap.IsSliceOf sl .none .none vk) (pk:ycN vk (some (-1)))
  (h:Q (.ref s.heap.objs.size) {s with heap:=s.heap.push {cls:=.type "tuple",data:=.seq items.toList.reverse.toArray} })
  (hsz:items.size<=yai):wpAny (model prog w) A (yb1 (.ref t) (.ref sl)) Q E s:=by
 have htake:sizeOk (.seq items.toList.reverse.toArray):=by
  show items.toList.reverse.toArray.size<=yai
  rw[sT_,ycC,ycz]
  exact hsz
 obtain⟨os,hos,hcs,hds⟩:=id hs
 have hTs:s.TypeIs (.ref sl) "slice":=⟨os,hos,hcs⟩
 unfold yb1
 try with_reducible refine ya0 ?_
 first|refine yaa (yac ?_)|skip
 refine yaa (yd4 ht.typeIs (by decide) ?_)
 refine yaa (wpAny_callSpecial?_slot (name:=ybb "__getitem__") ht.typeIs yaY
  (ybL yaY ht.typeIs ydy ?_ (ydK _ _)))
 show wpAny _ _ (ycv (.ref t) >>= _) _ _ s
 refine yaa (yfy ht ?_)
 refine yaa (ydq hTs ?_)
 rw[if_pos (by decide)]
 refine yaa (qdC hs pk ?_)
 have hno:¬((((items.size:Int)-1)==0&&(-1:Int)==1&&items.size==items.size)=true):=by
  intro q
  rw[yam,yam]at q
  exact absurd q.1.2 (by decide)
 show wpAny _ _ (if(((items.size:Int)-1)==0&&(-1:Int)==1&&items.size==items.size)=true then _ else _) _ _ s
 rw[if_neg hno,qet]
 first
  |exact yaa (m:=yaU _) (yaK (yac ⟨_,rfl,yac h⟩) htake)
  |exact yaa (m:=yaU _) (yaK (yaa (yac (yac ⟨_,rfl,yac h⟩))) htake)
  |exact yaa (yaa (m:=yaU _) (yaK (yac (yac ⟨_,rfl,yac h⟩)) htake))
  |exact yaa (yaa (m:=yaU _) (yaK (yac ⟨_,rfl,yac h⟩) htake))
theorem rev_slicePick (its:List Value):yfS its.toArray none none (some (-1))=its.reverse.toArray:=by
 have b:ycm none none (some (-1)) its.toArray.size=((its.toArray.size:Int)-1,-1,-1):=rfl
 unfold yfS
 rw[b]
 show((ygm ((its.toArray.size:Int)-1) (-1) (-1)).filterMap λx=>its.toArray[x]?).toArray=_
 have c:ygm ((its.toArray.size:Int)-1) (-1) (-1)=(yap its.toArray.size).map λ(m:Nat)=>(((its.toArray.size:Int)-1)+(m:Int) * -1).toNat:=by
  unfold ygm
  have e:(if(-1:Int)>0 then(if(its.toArray.size:Int)-1 < -1 then(-1-((its.toArray.size:Int)-1) + -1-1) / -1 else 0)else if(its.toArray.size:Int)-1 > -1 then((its.toArray.size:Int)-1 - -1 - -1-1) / - -1 else 0).toNat=its.toArray.size:=by
   rw[if_neg (by decide),show(- -1:Int)=1 from rfl,yfP]
   split<;>omega
  simp only[e]
  refine mL_ λm _=>?_
  congr 1
  omega
 rw[c,ycO]
 have:=qet its.toArray
 exact congrArg List.toArray this
end
end HT
namespace L2
open PySem PySem.Spec PyProof.Rows
section
variable{X:Cx}{e:Expr}{te:TE}{ste:Expr}{ts:TO}{pos p2:Pos}
def qoG(K:yal):V->Hp->VK->Prop:=λx H Q=>∃a xs,x=.ref a/\((SqT K H a xs/\∀p,H p=none->Q (.ref p) (upd H p (.tup xs.reverse)))\/(SqL K H a xs/\∀p,H p=none->Q (.ref p) (upd H p (.lst xs.reverse))))
theorem qlc (he:PE X e te) (hs:PO X (some ste) ts):PE X (.Subscript e (.Slice none none (some ste) p2) pos) (λσ H Q=>te σ H λx H1=>ts σ H1 λl H2=>l=some (-1)/\qoG X.K x H2 Q):=by
 intro pins s σ H Q I h
 refine yfi (thn (he pins s σ H _ I h) λv s1 ⟨x,H1,I1,r1,q1⟩=>?_)
 refine wpAny_Slice ?_
 rw[yfz]
 refine yac (yac (thn (hs pins s1 σ H1 _ I1 q1) λvk s3 ⟨k,H3,I3,pk,q3⟩=>?_))
 obtain⟨rfl,a,xs,rfl,q3⟩:=q3
 have I4:Inv X pins σ H3 {s3 with heap:=s3.heap.push {cls:=.type "slice",data:=.fields #[.none,.none,vk]} }:=I3.kept (t':=s3.toks) λb ob q=>Heap.get?_push_of_some _ q
 have hsl:=yfQ s3.heap .none .none vk
 cases r1
 rcases q3 with⟨hx,q⟩|⟨hx,q⟩
 ·obtain ⟨its,r,ht,hz⟩:=I4.tuple hx
  have hlen:its.toArray.size=xs.length:=by rw[sT_];exact r.length.symm
  have hg:wpAny (model X.prog X.w) X.A (yb1 (.ref a) (.ref s3.heap.objs.size)) (EP X pins σ Q) X.xe {s3 with heap:=s3.heap.push {cls:=.type "slice",data:=.fields #[.none,.none,vk]} }:=by
   refine HT.getItem_tuple_rev ht hsl pk ?_ (by rw[hlen];exact hz)
   refine⟨.ref _,_,I4.laid (t':=s3.toks) (o:=.tup xs.reverse) (λb ob q=>Heap.get?_push_of_some _ q) (yad _) ?_,rfl,q _ (I4.hok.fresh (yad _))⟩
   exact⟨by rw[ycC];exact hz,_,r.reverse,ydh _ _⟩
  exact tail_any (ops:=[.ref a,.ref s3.heap.objs.size]) ht.typeIs PyProof.Rows.slot_tuple_getitem.lookup hg (by with_unfolding_all rfl)
 ·obtain ⟨its,r,ht,hz⟩:=I4.list hx
  have hlen:=r.length
  have hg:wpAny (model X.prog X.w) X.A (yb1 (.ref a) (.ref s3.heap.objs.size)) (EP X pins σ Q) X.xe {s3 with heap:=s3.heap.push {cls:=.type "slice",data:=.fields #[.none,.none,vk]} }:=by
   refine yen ht.isList hsl .none .none pk (by simp) ?_ (by rw[sT_]<;>omega)
   rw[HT.rev_slicePick]
   refine⟨.ref _,_,I4.laid (t':=s3.toks) (o:=.lst xs.reverse) (λb ob q=>Heap.get?_push_of_some _ q) (yad _) ?_,rfl,q _ (I4.hok.fresh (yad _))⟩
   exact⟨by rw[ycC];exact hz,_,0,r.reverse,Heap.get?_push_size _ rfl⟩
  exact tail_any (ops:=[.ref a,.ref s3.heap.objs.size]) ht.isList.typeIs slot_list_getitem.lookup hg (by with_unfolding_all rfl)
end
end L2
namespace L2.Sk
open PySem PySem.Spec PyProof.Rows
theorem IsL.rev {K:Fr0} {A:Addr->Prop} {H:Hp}:∀{ds:List D}{xs:List V},IsL K A H ds xs->IsL K A H ds.reverse xs.reverse:=by
 intro ds
 induction ds with
 |nil=>
  intro xs h
  cases xs with
  |nil=>exact h
  |cons x xs=>exact absurd h.length (by simp)
 |cons d ds ih=>
  intro xs h
  obtain⟨x,ys,rfl,h1,h2⟩:=h
  rw[ycV,ycV]
  have one:IsL K A H [d] [x]:=⟨x,[],rfl,h1,IsL.take 0 h2⟩
  exact IsL.append (ih h2) one
def qnY:D->Option D
 |.tup ds=>some (.tup ds.reverse)
 |.lst ds=>some (.lst ds.reverse)
 |_=>none
def qdD(f:M D):M D:=bnd f λd=>lift (qnY d)
section
variable{X:Cx}{c:Fc}{a:Expr}{pos p2 p3 p4:Pos}{cj:Nat}
theorem qld {f:M D} (ha:DE X c a f):DE X c (.Subscript a (.Slice none none (some (.UnaryOp .USub (.Constant (.int 1) cj p3) p4)) p2) pos) (qdD f):=by
 obtain⟨ta,pa,wa⟩:=ha
 obtain⟨tk,pk,wk⟩:=qeb (X:=X) (c:=c) (pos:=p4) (qt (X:=X) (c:=c) (i:=1) (j:=cj) (pos:=p3))
 refine⟨_,qlc pa (qgg pk),λρ σ H Q r h=>wa ρ σ H _ r (Wp.bnd h λd ρ1 v H1 r1 i1 g1 h1=>?_)⟩
 refine wk ρ1 σ H1 _ r1 ?_
 have e0:d1 qkR (ret (.int 1)) ρ1=.ok (.int (-1),ρ1):=rfl
 rw[e0]
 intro u H2 r2 i2 g2
 have hu:u=V.int (-1):=i2
 refine⟨-1,hu,rfl,?_⟩
 obtain⟨d',e,h3⟩:=(h1.gr g2).lift
 have i3:=g2.is i1
 clear h1
 cases d<;>simp only[qnY]at e<;>try (cases e;done)
 ·cases e
  obtain⟨b,xs,rfl,tb,il⟩:=i3
  exact⟨b,xs,rfl,.inl ⟨tb.sq,λp hp=>h3 _ _ (r2.laid hp _) ⟨p,xs.reverse,rfl,.inl qu,IsL.ext (Ext.of_same (qx hp _)) (λ_ h _=>h) (IsL.rev il)⟩ (.of_same (qx hp _))⟩⟩
 ·cases e
  obtain⟨b,xs,rfl,hA,tb,il⟩:=i3
  exact⟨b,xs,rfl,.inr ⟨.inl (.inl tb),λp hp=>h3 _ _ (r2.laid hp _) ⟨p,xs.reverse,rfl,r2.new hp,qu,IsL.ext (Ext.of_same (qx hp _)) (λ_ h _=>h) (IsL.rev il)⟩ (.of_same (qx hp _))⟩⟩
theorem qle {f:M D} {ρ:Env}:qdD f ρ=match f ρ with|.ok (d,ρ1)=>(match qnY d with|some x => .ok (x,ρ1)|none => .bad)|.exc x ρ' => .exc x ρ'|.bad => .bad:=by
 simp only[qdD,bnd]
 cases f ρ with
 |ok z=>obtain⟨z1,ρ1⟩:=z;(dsimp only;cases qnY z1<;>rfl)
 |exc x ρ'=>rfl
 |bad=>rfl
end
section
variable{X:Cx}{c:Fc}
end
end L2.Sk
namespace L2
open PySem PySem.Spec PyProof.Rows
section
variable{X:Cx}{pins:List (Addr×Obj)}{σ:St}{H:Hp}{s:yab}
end
end L2
namespace L2.Srt
open PySem PySem.W PyProof.Rows
def runK {α:Type} (cmp:Nat->Nat->Bool):KasT α->α
 |.ret a=>a
 |.ask i j k=>runK cmp (k (cmp i j))
def Fits {α:Type} (n:Nat) (R:α->Prop):KasT α->Prop
 |.ret a=>R a
 |.ask i j k=>i<n/\j<n/\∀b,Fits n R (k b)
theorem Fits.bind {α β:Type} {n:Nat} {R:α->Prop} {R':β->Prop} {f:α->KasT β} (hf:∀a,R a->Fits n R' (f a)):∀{t:KasT α},Fits n R t->Fits n R' (t.bind f)
 |.ret _,h=>hf _ h
 |.ask _ _ _,⟨h1,h2,h3⟩=>⟨h1,h2,λb=>Fits.bind hf (h3 b)⟩
theorem Fits.run {α:Type} {n:Nat} {R:α->Prop} {cmp:Nat->Nat->Bool}:∀{t:KasT α},Fits n R t->R (runK cmp t)
 |.ret _,h=>h
 |.ask i j k,h=>Fits.run (t:=k (cmp i j)) (h.2.2 (cmp i j))
def Pl(n:Nat)(p:Array Nat):Prop:=p.size=n/\p.toList.Perm (yap n)
theorem Pl.of_perm{n:Nat}{p q:Array Nat}(h:Pl n p)(hq:q.Perm p):Pl n q:=⟨hq.size_eq.trans h.1,(Array.perm_iff_toList_perm.mp hq).trans h.2⟩
theorem Pl.lt {n:Nat} {p:Array Nat} (h:Pl n p) (hn:0<n) (k:Nat):p.getD k 0<n:=by
 by_cases hk:k<p.size
 ·have e:p.getD k 0=p[k]:=by simp[Array.getD,hk]
  rw[e]
  have hm:p[k]∈p.toList:=by simp
  exact mR_.mp (h.2.mem_iff.mp hm)
 ·have e:p.getD k 0=0:=by simp[Array.getD,hk]
  rw[e];exact hn
theorem Pl.rev{n:Nat}{p:Array Nat}(h:Pl n p)(i j:Nat):Pl n (kas_rev p i j):=h.of_perm (mirror_perm _ _ _ _)
theorem qbS {n:Nat} (hn:0<n) {p:Array Nat} (h:Pl n p):∀f m,Fits n (λ_=>True) (kas_asc p f m)
 |0,_=>ybx
 |f+1,m=>⟨h.lt hn _,h.lt hn _,λc=>by
  dsimp only
  split
  ·exact ybx
  ·exact qbS hn h f (m+1)⟩
theorem wm {n:Nat} (hn:0<n):∀f {p:Array Nat} (_:Pl n p) m q,Fits n (λr=>Pl n r.1) (kas_desc f p m q)
 |0,_,h,_,_=>h
 | f+1,p,h,m,q=>⟨h.lt hn _,h.lt hn _,λc=>by
  dsimp only
  split
  ·split
   ·exact wm hn f (h.rev _ _) _ _
   ·exact wm hn f h _ _
  ·refine⟨h.lt hn _,h.lt hn _,λd=>?_⟩
   dsimp only
   split
   ·exact h
   ·exact wm hn f h _ _⟩
theorem qbu {n:Nat} (hn:0<n) {p:Array Nat} (h:Pl n p) (m nrem:Nat):Fits n (λr=>Pl n r.2) (kas_tail3 m nrem p) :=
 Fits.bind (R:=λ_=>True) (n:=n) (R':=λr:Nat×Array Nat=>Pl n r.2) (f:=λk => .ret (k,kas_rev p 0 m)) (λ_ _=>h.rev 0 m) (qbS hn (h.rev _ _) _ _)
theorem wn {n:Nat} (hn:0<n) {p:Array Nat} (h:Pl n p) (m nrem:Nat):Fits n (λr=>Pl n r.2) (kas_descPart m nrem p) :=
 Fits.bind (R:=λr=>Pl n r.1) (λr hr=>by
  split
  ·exact qbu hn (hr.rev _ _) _ _
  ·exact qbu hn hr _ _) (wm hn _ h _ _)
theorem qfy {n:Nat} (hn:0<n) {p:Array Nat} (h:Pl n p) (nrem:Nat):Fits n (λr=>Pl n r.2) (kas_count nrem p) :=
 Fits.bind (R:=λ_=>True) (λm _=>by
  split
  ·exact h
  ·split
   ·refine⟨h.lt hn _,h.lt hn _,λc=>?_⟩
    dsimp only
    split
    ·exact h
    ·exact wn hn (h.rev _ _) _ _
   ·exact wn hn h _ _) (qbS hn h _ _)
theorem wL {n:Nat} (hn:0<n) {p:Array Nat} (h:Pl n p) (k:Nat):∀f l r,Fits n (λ_=>True) (kas_place p k f l r)
 |0,_,_=>ybx
 | f+1,l,r=>by
  unfold kas_place
  split
  ·exact ybx
  ·refine⟨h.lt hn _,h.lt hn _,λc=>?_⟩
   dsimp only
   split
   ·exact wL hn h k f _ _
   ·exact wL hn h k f _ _
theorem qeu {n:Nat} (hn:0<n):∀f {p:Array Nat} (_:Pl n p) k,Fits n (Pl n) (kas_bin f p k)
 |0,_,h,_=>h
 |f+1,p,h,k=>Fits.bind (R:=λ_=>True) (λl _=>qeu hn f (h.of_perm (bubble_perm _ _ _)) _) (wL hn h k _ _ _)
theorem fits_sort {n:Nat} (hn:0<n):Fits n (Pl n) (kas_sort n) :=
 Fits.bind (R:=λr=>Pl n r.2) (λr hr=>by
  split
  ·exact qeu hn _ hr _
  ·exact hr) (qfy hn ⟨by simp,by simp⟩ _)
def ord(ks:List Int):List Nat:=if ks.length<2 then yap ks.length else(runK (λi j=>decide (ks.getD i 0<ks.getD j 0)) (kas_sort ks.length)).toList
theorem ord_perm (ks:List Int):(ord ks).Perm (yap ks.length):=by
 unfold ord
 split
 ·exact .refl _
 ·exact(Fits.run (fits_sort (by omega))).2
theorem map_getD_range {α:Type} (d:α) (xs:List α):(yap xs.length).map (λi=>xs.getD i d)=xs:=by
 refine List.ext_getElem (by simp) λi h1 h2=>?_
 simp at h1 |-
 simp[h1]
section
variable{prog:yan}{w:World}{A:yav}{s:yab}
end
end L2.Srt
set_option maxHeartbeats 1000000
namespace L2
open PySem PySem.Spec PyProof.Rows
structure SS (X:Cx) (H0:Hp) (s0:yab) (H:Hp) (s:yab):Prop where
 os:s.os=s0.os
 bare:ycx s.gens
 un:Un (frs X.stack) [] H0 H s0.heap s.heap
 hok:HOk X.prog X.w H s.heap
 same:jE H0 H
section
variable{X:Cx}{pins:List (Addr×Obj)}{σ:St}{H0 H:Hp}{s0 s:yab}{h':Heap}{b a kS:Addr}
theorem SS.kept (z:SS X H0 s0 H s) (k:∀b u,s.heap.get? b=some u->h'.get? b=some u) (tk:Nat):SS X H0 s0 H {s with heap:=h',toks:=tk} :=
 ⟨z.os,z.bare,z.un.trans (Un.kept k),z.hok.kept k,z.same⟩
theorem SS.poke (z:SS X H0 s0 H s) (hb:H b=none) (hb0:s0.heap.objs.size<=b) (sb:yb2 b s.heap h') (tk:Nat):SS X H0 s0 H {s with heap:=h',toks:=tk}:=by
 have ne:∀c o,s0.heap.get? c=some o->c≠b:=λc o e=>yao (yaw (yae e) hb0)
 refine⟨z.os,z.bare,⟨λc o e n f x=>(sb.2 c (ne c o e)).trans (z.un.keep c o e n f x),λc o e n f x=>?_,z.un.free,λc o e x=>?_,z.un.tups,z.un.frzs,z.un.tbls⟩,λc u q=>?_,z.same⟩
 ·obtain⟨sl,q⟩:=z.un.slot c o e n f x
  exact⟨sl,(sb.2 c (ne c o e)).trans q⟩
 ·obtain⟨o',q⟩:=z.un.there c o e x
  exact⟨o',(sb.2 c (ne c o e)).trans q⟩
 ·refine(z.hok c u q).stay (λd v hd r=>(sb.2 d ?_).trans r) (λ_ q=>q) λ_ _ q=>q
  rintro rfl
  rcases hd with rfl|hd
  ·rw[hb]at q;cases q
  ·rw[hb]at hd;cases hd
end
section
variable{X:Cx}{H0 H:Hp}{s0 s:yab}{a kS:Addr}{A:yav}{E:Value->yab->Prop}{f:Value}{vs:List Value}{ks:List Int}{e1:Nat}{P:yfW->yab->Prop}
abbrev qjR(ks:List Int)(vs:List Value):List Value:=(Srt.ord ks).map λi=>vs.getD i yaQ
theorem qiR (h:ks.length=vs.length):(qjR ks vs).length=vs.length:=by
 rw[lM_,(Srt.ord_perm ks).length_eq,lR_,h]
abbrev qne (X:Cx) (H0:Hp) (s0:yab) (a:Addr) (out:List Value) (P:yfW->yab->Prop):Prop :=
 ∀H' s' c,SS X H0 s0 H' s'->H' a=none->s'.heap.get? a=some (ycT "list" out.toArray c)->P (.done (.ret .none)) s'
end
section
variable{X:Cx}{pins:List (Addr×Obj)}{σ:St}{H:Hp}{s:yab}{l f:Addr}{vs:List Value}{ks:List Int}{Q:Value->yab->Prop}{E:Value->yab->Prop}
end
end L2
set_option maxHeartbeats 1000000
namespace L2
open PySem PySem.Spec PyProof.Rows
section
variable{X:Cx}{N':List Str}{fr:List Nat}{q x:Str}{params:yfM}{body:Expr}{scope:Scope}{k:Nat}
end
end L2
namespace L2.Sk
open PySem PySem.Spec PyProof.Rows
def qpz (ρ:Env):List Nat->Option (List D)
 | []=>some []
 |j::fr=>match ρ[j]?,qpz ρ fr with
  |some (some d),some ds=>some (d::ds)
  |_,_=>none
def qnf (g:M D) (n:Nat) (cs:List D):List D->Option (List Int)
 | []=>some []
 |d::ds=>match g (uS n (d::cs)),qnf g n cs ds with
  |.ok (.int k,_),some ks=>some (k::ks)
  |_,_=>none
def qlf(l:List Nat)(ds:List D):List D:=l.map λi=>ds.getD i .non
def qpA (n:Nat) (fr:List Nat) (f g:M D):M D:=bnd f λd ρ=>match d with
 | .lst ds=>if ds.length<64 then match qpz ρ fr with
   |some cs=>match qnf g n cs ds with
    |some ks => .ok (.lst (qlf (Srt.ord ks) ds),ρ)
    |none => .bad
   |none => .bad
  else .bad
 |_ => .bad
section
variable{X:Cx}{c:Fc}{e:Expr}{p pos kpos lpos:Pos}{N':List Str}{fr:List Nat}{x:Str}{params:yfM}{body:Expr}{scope:Scope}{k:Nat}{c0 Pt:Addr}
end
end L2.Sk
namespace L2
open PySem PySem.Spec PyProof.Rows
theorem walk_lam {l:yeL} {n k:Nat} {q:yan} {loose:List Str} {XP:(Str->Option Value)->Heap->Prop} {YP:World->Heap->Prop} {d:DefRec} {K:Params->yal} {CX:World->CXT} {sp:World->Sp} {x:Str}
  (hn:l.most=some n) (hn2:n<=yai) (hdf:d.params.defaults=[]) (hr:uE k yeg)
  (hY:∀(w:World)(h:Heap),YP w h->(K w.params).In h) {lm:World->Option (Addr×Addr×Pos×Str)}
  (hlm:∀(w:World)(mean:ExcName->Option Value)(mg mb:Str->Option Value)(h:Heap)(c Pt:Addr)(pos:Pos)(z:Str),Top q (PySem.W.looseW q loose) mean mg mb h->(K w.params).In h->lm w=some (c,Pt,pos,z) ->
   ye6 h c Pt/\h.get? Pt=some (ye7 #[])/\(K w.params).lookup Pt=none)
  (F : ∀(w:World)(mg:Str->Option Value)(fa:Addr)(h:Heap),(K w.params).In h->h.Ns yaf mg->mg d.name=some (.ref fa) ->
   ∃ fd:yaZ,(∀(s:yab)(u:Value),yef s fd ⟨[u],[]⟩ [(x,u)]) /\
    ∀base:Heap,(K w.params).In base->base.Ns yaf mg->qbd l.prog w (K w.params) mg base (CX w) k fa fd [x] (sp w))
  (hsp:∀(w:World)(H:Hp)(a:Addr)(ns:List Int),ns.length<=n->qnU H->(∀c Pt pos z,lm w=some (c,Pt,pos,z)->H Pt=some (.lam pos z))->SqL (K w.params) H a (ns.map V.int)->sp w [.ref a] H (λv _=>v=.bl true) λ_ _ _=>False)
  (hCX:∀(w:World)(H:Hp)(s:yab)(e:Value)(s':yab),CX w [] H s (λ_ _ _=>False) e s'->False) :
  PySem.W.WalkO q loose XP YP l.row.toRowW d [] (λf vs=>ygl f vs):=by
 refine Att.attach_call hn hdf λw s₀ sK mg mb fa o pm cd doc a vs ns G Y ho hd hcd hmg hobj hints hlen hg=>?_
 have KX:=hY w _ Y
 obtain⟨fd,hb,hF⟩:=F w mg fa _ KX G.T.g hmg
 exact qie (lm:=lm w) KX G.T.g G.T.b G.T.builtins G.T.nolimit G.T.bmain (λc Pt pos z=>hlm w _ mg mb _ c Pt pos z G.T KX) hg hobj hints (yay hlen hn2) hr hF hb (λH hO hT hS=>hsp w H a ns hlen hO hT hS) λH e s'=>hCX w H sK e s'
end L2
namespace L2.Sk
open PySem PySem.Spec PyProof.Rows
section
variable{P:yan}{w:World}{K:yal}{mg:Str->Option Value}{base:Heap}
end
section
variable{X:Cx}{c:Fc}{a b e:Expr}{pos:Pos}
def qoH (i:Nat) (f:M D):M D:=λρ=>match zH i ρ with
 |none => .bad
 | some _=>(bnd f λd ρ=>match d,(zH i ρ).bind y7 with
  |.int b,some ns=>match ns.findIdx? (·==b) with
   |some j => .ok (.non,ρ.set i (some (.lst ((ns.eraseIdx j).map D.int))))
   |none => .bad
  |_,_ => .bad) ρ
end
end L2.Sk
namespace L2.Sk
open PySem PySem.Spec PyProof.Rows
section
variable{X:Cx}
end
def qqg:D->D->Option D
 |.bl a,.bl b=>some (.bl (a==b))
 |_,_=>none
end L2.Sk
namespace L2
open PySem PySem.Spec PyProof.Rows
section
variable{X:Cx}{pos:Pos}
end
end L2
namespace L2.Sk
open PySem PySem.Spec PyProof.Rows
section
variable{X:Cx}{c:Fc}
end
end L2.Sk
set_option maxHeartbeats 1000000
namespace L2
open PySem PySem.Spec PyProof.Rows
abbrev wv:=Int×Int×List Int
def lt3(x y:wv):Bool:=if x.1=y.1 then if x.2.1=y.2.1 then HT.lexLt x.2.2 y.2.2 else decide (x.2.1<y.2.1)else decide (x.1<y.1)
theorem qdE:∀a:List Int,HT.lexLt a a=false
 | []=>rfl
 |x::a=>by rw[HT.lexLt_cons,if_pos rfl];exact qdE a
theorem qev:∀a b:List Int,HT.lexLt a b=true->HT.lexLt b a=false
 | [],[],_=>rfl
 | [],_::_,_=>rfl
 |_::_,[],h=>by cases h
 | x::a,y::b,h=>by
  rw[HT.lexLt_cons]at h |-
  by_cases c:x=y
  ·subst c
   rw[if_pos rfl]at h |-
   exact qev a b h
  ·rw[if_neg c]at h
   rw[if_neg λz=>c z.symm]
   have:=of_decide_eq_true h
   exact decide_eq_false (by omega)
theorem qhi:∀a b c:List Int,HT.lexLt a c=true->HT.lexLt a b=true\/HT.lexLt b c=true
 |a,[],[],h=>by cases a<;>cases h
 |_,[],_::_,_ => .inr rfl
 | [],_::_,_,_ => .inl rfl
 |_::_,_::_,[],h=>by cases h
 | x :: a,y::b,z::c,h=>by
  rw[HT.lexLt_cons]at h
  rw[HT.lexLt_cons,HT.lexLt_cons]
  by_cases e1:x=y
  ·subst e1
   by_cases e2:x=z
   ·rw[if_pos e2]at h |-
    rw[if_pos rfl]
    exact qhi a b c h
   ·rw[if_neg e2]at h |-
    exact .inr h
  ·by_cases e2:y=z
   ·subst e2
    rw[if_neg e1]at h |-
    exact .inl h
   ·rw [if_neg e1,if_neg e2]
    by_cases e3:x=z
    ·subst e3
     simp only[decide_eq_true_eq]
     omega
    ·rw[if_neg e3]at h
     simp only[decide_eq_true_eq]at h |-
     omega
theorem qlg(x:wv):lt3 x x=false:=by unfold lt3;rw[if_pos rfl,if_pos rfl];exact qdE _
theorem qiS (x y:wv) (h:lt3 x y=true):lt3 y x=false:=by
 unfold lt3 at h |-
 by_cases c:x.1=y.1
 ·rw [if_pos c]at h;rw[if_pos c.symm]
  by_cases d:x.2.1=y.2.1
  ·rw[if_pos d]at h;rw[if_pos d.symm];exact qev _ _ h
  ·rw[if_neg d]at h;rw[if_neg λz=>d z.symm]
   have:=of_decide_eq_true h
   exact decide_eq_false (by omega)
 ·rw[if_neg c]at h;rw[if_neg λz=>c z.symm]
  have:=of_decide_eq_true h
  exact decide_eq_false (by omega)
theorem qhj (x y z:wv) (h:lt3 x z=true):lt3 x y=true\/lt3 y z=true:=by
 obtain⟨x1,x2,x3⟩:=x
 obtain⟨y1,y2,y3⟩:=y
 obtain⟨z1,z2,z3⟩:=z
 unfold lt3 at h |-
 dsimp only at h |-
 by_cases e1:x1=y1
 ·subst e1
  by_cases e2:x1=z1
  ·rw [if_pos e2]at h |-
   rw[if_pos rfl]
   by_cases f1:x2=y2
   ·subst f1
    by_cases f2:x2=z2
    ·rw[if_pos f2]at h |-
     rw[if_pos rfl]
     exact qhi _ _ _ h
    ·rw[if_neg f2]at h |-
     exact .inr h
   ·by_cases f2:y2=z2
    ·subst f2
     rw[if_neg f1]at h |-
     exact .inl h
    ·rw [if_neg f1,if_neg f2]
     by_cases f3:x2=z2
     ·subst f3
      simp only[decide_eq_true_eq]
      omega
     ·rw[if_neg f3]at h
      simp only[decide_eq_true_eq]at h |-
      omega
  ·rw[if_neg e2]at h |-
   exact .inr h
 ·by_cases e2:y1=z1
  ·subst e2
   rw[if_neg e1]at h |-
   exact .inl h
  ·rw [if_neg e1,if_neg e2]
   by_cases e3:x1=z1
   ·subst e3
    simp only[decide_eq_true_eq]
    omega
   ·rw[if_neg e3]at h
    simp only[decide_eq_true_eq]at h |-
    omega
def qdF(ks:List wv)(k:wv):Int:=((ks.countP λy=>lt3 y k:Nat):Int)
def yF(ks:List wv):List Int:=ks.map (qdF ks)
theorem rank_lt {ks:List wv} {x y:wv} (hx:x∈ks):decide (qdF ks x<qdF ks y)=lt3 x y:=by
 have mono:∀(p q:wv->Bool)(l:List wv),(∀z,p z=true->q z=true)->l.countP p<=l.countP q:=λp q l h=>yfc λz _=>h z
 cases c:lt3 x y with
 | true=>
  apply decide_eq_true
  have sub:∀z,lt3 z x=true->lt3 z y=true:=λz hz=>by
   rcases qhj z y x hz with h|h
   ·exact h
   ·rw[qiS x y c]at h;cases h
  have strict:∀l:List wv,x∈l->l.countP (λz=>lt3 z x)<l.countP (λz=>lt3 z y):=λl=>by
   induction l with
   |nil=>intro h;cases h
   | cons a l ih=>
    intro h
    rw[ydf,ydf]
    rcases List.mem_cons.mp h with rfl|h
    ·rw[qlg,c]
     have:=mono (λz=>lt3 z x) (λz=>lt3 z y) l sub
     simp only[yaP,if_false,if_true]
     omega
    ·have:=ih h
     cases d:lt3 a x with
     |true=>rw[sub a d];simp only[if_true];omega
     |false=>simp only[yaP,if_false];split<;>omega
  have:=strict ks hx
  unfold qdF
  omega
 | false=>
  apply decide_eq_false
  have sub:∀z,lt3 z y=true->lt3 z x=true:=λz hz=>by
   rcases qhj z x y hz with h|h
   ·exact h
   ·rw[c]at h;cases h
  have:=mono (λz=>lt3 z y) (λz=>lt3 z x) ks sub
  unfold qdF
  omega
theorem qcL(ks:List wv):(yF ks).length=ks.length:=lM_ _
def K3V(h:Heap)(k:wv)(u:Value):Prop:=∃p q t1 t2 its,u=.ref p/\IsTup h p #[.int k.1 t1,.int k.2.1 t2,.ref q]/\IsTup h q its/\yby its.toList k.2.2
inductive qew (h:Heap):List wv->List Value->Prop
 |nil:qew h [] []
 |cons {k:wv} {v:Value} {ks:List wv} {vs:List Value}:K3V h k v->qew h ks vs->qew h (k::ks) (v::vs)
theorem qew.length {h:Heap} {ks:List wv} {vs:List Value} (x:qew h ks vs):ks.length=vs.length:=by
 induction x with
 |nil=>rfl
 |cons _ _ ih=>rw[lC_,lC_,ih]
theorem qew.get {h:Heap} {ks:List wv} {vs:List Value} (x:qew h ks vs):∀{i:Nat},i<ks.length->K3V h (ks.getD i (0,0,[])) (vs.getD i yaQ):=by
 induction x with
 |nil=>intro i hi;exact absurd hi (ycJ _)
 |cons a _ ih=>
  intro i hi
  cases i with
  |zero=>exact a
  |succ i=>exact ih (by simpa using hi)
section
variable{X:Cx}{pins:List (Addr×Obj)}{σ:St}{H:Hp}{s:yab}
end
theorem qbv {prog:yan} {w:World} {vs:List Value} {ns:List Int} (h:yby vs ns):ItemsAre (yf1 prog w) ns vs:=by
 induction h with
 |nil=>exact .nil
 |cons n t _ ih=>exact .cons (by simp[yf1,ygc]) ih
section
variable{prog:yan}{w:World}{A:yav}{E:Value->yab->Prop}{s:yab}
theorem qng {kx ky:wv} {u v:Value} {Q:Bool->yab->Prop} (hu:A.units<cLine) (hx:K3V s.heap kx u) (hy:K3V s.heap ky v) (h:Q (lt3 kx ky) s) :
  wpAny (model prog w) A (yfE (ycs true) u v) Q E s:=by
 obtain⟨p,q,t1,t2,its,rfl,hp,hq,hi⟩:=hx
 obtain⟨p',q',t1',t2',its',rfl,hp',hq',hi'⟩:=hy
 obtain⟨o,ho,hc,n,hd⟩:=id hp
 obtain⟨o',ho',hc',n',hd'⟩:=id hp'
 refine PySem.W.kat_lt ho hd ho' hd' ?_
 show PySem.W.KatLex prog w A true (decide (3<3)) Q [(.int kx.1 t1,.int ky.1 t1'),(.int kx.2.1 t2,.int ky.2.1 t2'),(.ref q,.ref q')] 0 s
 unfold lt3 at h
 refine yev (yei ?_)
 by_cases c:kx.1=ky.1
 ·rw [if_pos c]at h
  rw[show(kx.1==ky.1)=true by simp[c]]
  refine yeM (yev (yei ?_))
  by_cases d:kx.2.1=ky.2.1
  ·rw [if_pos d]at h
   rw[show(kx.2.1==ky.2.1)=true by simp[d]]
   refine yeM (yev ?_)
   have kq:IsTupleKey (yf1 prog w) s.heap kx.2.2 q:=by
    obtain⟨o2,a1,a2,n2,a3⟩:=hq
    exact⟨o2,its,n2,a1,a2,a3,qbv hi⟩
   have kq':IsTupleKey (yf1 prog w) s.heap ky.2.2 q':=by
    obtain⟨o2,a1,a2,n2,a3⟩:=hq'
    exact⟨o2,its',n2,a1,a2,a3,qbv hi'⟩
   refine wpAny_eqBool_tuple hu kq kq' ?_
   by_cases e:kx.2.2=ky.2.2
   ·rw[decide_eq_true e]
    rw[e,qdE]at h
    exact yeM (PySem.W.kat_nil h)
   ·rw[decide_eq_false e]
    exact yfd (PySem.W.kat_one _ _ (HT.lt_tupInts hq hq' hi hi' hu h))
  ·rw[if_neg d]at h
   rw[show(kx.2.1==ky.2.1)=false by simp[d]]
   exact yfd (PySem.W.kat_one _ _ (lt_int h))
 ·rw[if_neg c]at h
  rw[show(kx.1==ky.1)=false by simp[c]]
  exact yfd (oneLt_int h)
theorem qiT {ks:List wv} {vs:List Value} (x:qew s.heap ks vs):∃fs:List Value,PySem.W.KatTups s.heap vs fs/\fs.length=ks.length/\∀v∈fs,∃i t,v=ycq i t:=by
 induction x with
 |nil=>exact⟨[],.nil,rfl,λv hv=>by cases hv⟩
 | @cons k v ks vs a _ ih=>
  obtain⟨fs,h1,h2,h3⟩:=ih
  obtain⟨p,q,t1,t2,its,rfl,⟨o,ho,hc,n,hd⟩,_,_⟩:=a
  refine⟨.int k.1 t1::fs,.cons ho hc hd rfl h1,by rw[lC_,lC_,h2],λv hv=>?_⟩
  rcases List.mem_cons.mp hv with rfl|hv
  ·exact⟨_,_,rfl⟩
  ·exact h3 v hv
theorem qhk {α:Type} {vs:List Value} {ks:List wv} {R:α->Prop} {G:α->yab->Prop} (hu:A.units<cLine) (hk:qew s.heap ks vs):∀{t:PySem.W.KasT α},Srt.Fits ks.length R t ->
  G (Srt.runK (λi j=>decide ((yF ks).getD i 0<(yF ks).getD j 0)) t) s->t.kasWp (PySem.W.kas_ask prog w A (ycs true) vs) G s
 |.ret _,_,h=>h
 |.ask i j k,⟨h1,h2,h3⟩,h=>by
  have e1:(yF ks).getD i 0=qdF ks (ks.getD i (0,0,[])):=by unfold yF;simp[h1]
  have e2:(yF ks).getD j 0=qdF ks (ks.getD j (0,0,[])):=by unfold yF;simp[h2]
  have hm:ks.getD i (0,0,[])∈ks:=by simp[h1]
  have h':G (Srt.runK (λi j=>decide ((yF ks).getD i 0<(yF ks).getD j 0)) (k (decide ((yF ks).getD i 0<(yF ks).getD j 0)))) s:=h
  rw[e1,e2,rank_lt hm]at h'
  show wpAny (model prog w) A (yfE (ycs true) (vs.getD i yaQ) (vs.getD j yaQ)) _ _ s
  exact qng hu (hk.get h1) (hk.get h2) (qhk hu hk (h3 _) h')
end
section
variable{X:Cx}{pins:List (Addr×Obj)}{σ:St}{H0 H:Hp}{s0 s:yab}{a kS:Addr}{A:yav}{E:Value->yab->Prop}{f:Value}{vs:List Value}{ks:List wv}{e1:Nat}{P:yfW->yab->Prop}
end
section
variable{X:Cx}{pins:List (Addr×Obj)}{σ:St}{H:Hp}{s:yab}{l f:Addr}{vs:List Value}{ks:List wv}{Q:Value->yab->Prop}{E:Value->yab->Prop}
end
end L2
namespace L2
open PySem PySem.Spec PyProof.Rows
section
variable{X:Cx}{k:Nat}{f:Addr}{fd:yaZ}{x:Str}{F:List Sk.D->Sk.R Sk.D}
end
end L2
namespace L2.Sk
open PySem PySem.Spec PyProof.Rows
def qpB:D->Option wv
 |.tup [.int a,.int b,.tup ts]=>match y7 ts with
  |some ns=>some (a,b,ns)
  |none=>none
 |_=>none
def qnh (F:List D->R D):List D->Option (List wv)
 | []=>some []
 | d::ds=>match F [d],qnh F ds with
  |.ok k,some ks=>match qpB k with
   |some k=>some (k::ks)
   |none=>none
  |_,_=>none
def qpC (F:List D->R D) (f:M D):M D:=bnd f λd ρ=>match d with
 | .lst ds=>if ds.length<64 then match qnh F ds with
   |some ks => .ok (.lst (qlf (Srt.ord (yF ks)) ds),ρ)
   |none => .bad
  else .bad
 |_ => .bad
section
variable{X:Cx}{c:Fc}{e:Expr}{p pos kpos p2:Pos}{x:Str}{k:Nat}
end
end L2.Sk
set_option maxHeartbeats 1000000
namespace L2.Sk
open PySem PySem.Spec PyProof.Rows
section
variable{X:Cx}{c:Fc}{a b e:Expr}{pos:Pos}
end
end L2.Sk
set_option maxHeartbeats 1000000
namespace L2
open PySem PySem.Spec PyProof.Rows
theorem qbw {h h':Heap} {a:Addr} {its:Array Value} (k:∀b u,h.get? b=some u->h'.get? b=some u) (t:IsTup h a its):IsTup h' a its:=by
 obtain⟨o,h1,h2,n,h3⟩:=t
 exact⟨o,k _ _ h1,h2,n,h3⟩
theorem qew.kept {h h':Heap} {ks:List wv} {vs:List Value} (k:∀b u,h.get? b=some u->h'.get? b=some u) (x:qew h ks vs):qew h' ks vs:=by
 induction x with
 |nil=>exact .nil
 |cons a _ ih=>
  obtain⟨p,q,t1,t2,its,e,h1,h2,h3⟩:=a
  exact .cons ⟨p,q,t1,t2,its,e,qbw k h1,qbw k h2,h3⟩ ih
section
variable{X:Cx}{pins:List (Addr×Obj)}{σ:St}{H0 H:Hp}{s0 s:yab}{a:Addr}{A:yav}{E:Value->yab->Prop}{vs:List Value}{ks:List wv}{P:yfW->yab->Prop}
theorem qni {n:Nat} (I0:Inv X pins σ H0 s0) (hu:A.units<cLine) (kv:qew s0.heap ks vs) (z:SS X H0 s0 H s) (k0:∀b u,s0.heap.get? b=some u->s.heap.get? b=some u) (ho:s.heap.get? a=some (ycT "list" vs.toArray n)) (na:H a=none) (la:s0.heap.objs.size<=a) (h64:vs.length<64)
  (fin:qne X H0 s0 a (qjR (yF ks) vs) P):wpAny (model X.prog X.w) A (yb0.«list.sort» ⟨[.ref a],[]⟩) P E s:=by
 have hlen:ks.length=vs.length:=kv.length
 have hrl:(yF ks).length=vs.length:=(qcL ks).trans hlen
 have hlt:a<s.heap.objs.size:=yae ho
 have sb:=ycA s.heap a (yaJ λ_=>(#[]:Array Value))
 obtain⟨e1,ho1⟩:∃e1,(s.heap.update a (yaJ λ_=>(#[]:Array Value))).get? a=some (ycT "list" #[] e1):=⟨_,get?_update_seq ho λ_ => #[]⟩
 have z1:=z.poke na la sb s.toks
 have kp:∀b u,(s.heap.update a (yaJ λ_=>(#[]:Array Value))).get? b=some u->(((s.heap.update a (yaJ λ_=>(#[]:Array Value))).push (ycT "tuple" vs.toArray 0)).push (ycT "list" #[] 0)).get? b=some u :=
  λb u q=>Heap.get?_push_of_some _ (Heap.get?_push_of_some _ q)
 have z3:=z1.kept kp s.toks
 have ka:∀b u,s0.heap.get? b=some u->(((s.heap.update a (yaJ λ_=>(#[]:Array Value))).push (ycT "tuple" vs.toArray 0)).push (ycT "list" #[] 0)).get? b=some u:=λb u q=>by
  refine kp b u ((sb.2 b ?_).trans (k0 b u q))
  exact yao (yaw (yae q) la)
 have kv3:=kv.kept ka
 rw[list_sort_plain]
 refine yaa (listItems_at ho rfl (yaa (yfC ho rfl ?_ (by rw[sT_,ybY];omega) (yaF _))))
 refine yaa (seqEpoch_at ho1 rfl (yaa (ye8 ?_ (by show vs.length<=_;rw[ybY];omega))))
 refine yaa (wpAny_newList (ya0 ?_) (yaF _))
 show wpAny (model X.prog X.w) A _ P E {s with heap:=((s.heap.update a (yaJ λ_=>(#[]:Array Value))).push (ycT "tuple" vs.toArray 0)).push (ycT "list" #[] 0)}
 generalize hs3:({s with heap:=((s.heap.update a (yaJ λ_=>(#[]:Array Value))).push (ycT "tuple" vs.toArray 0)).push (ycT "list" #[] 0)}:yab)=s3
 have z3':SS X H0 s0 H s3:=by rw[<-hs3];exact z3
 have ga:s3.heap.get? a=some (ycT "list" #[] e1):=by rw[<-hs3];exact kp _ _ ho1
 have kv3':qew s3.heap ks vs:=by rw[<-hs3];exact kv3
 dsimp only
 have tail:∀(st:SortSt),(arrOf st).map (·.2)=(qjR (yF ks) vs).toArray->failedOf st=none ->
   wpAny (model X.prog X.w) A (do
    let touched:=(<-seqEpoch a) != e1
    yeF (.ref a) λ_=>(arrOf st).map (·.2)
    if let some e:=failedOf st then rule "list.sort.comparison-raised";throw e
    if touched then rule "list.sort.modified";raiseError "ValueError" "list modified during sort"
    ret .none) P E s3:=λst ho hf=>by
  have ol:=qiR hrl
  have sb2:=ycA s3.heap a (yaJ λ_=>(qjR (yF ks) vs).toArray)
  have z4:=z3'.poke na la sb2 s3.toks
  refine yaa (seqEpoch_at ga rfl ?_)
  rw[ho,hf]
  refine yaa (yfC ga rfl ?_ (yaF _) (by show(qjR (yF ks) vs).toArray.size<=_;rw[sT_,ybY];omega))
  simp only[bne_self_eq_false,yaP,if_false]
  exact yac (fin H _ _ z4 na (get?_update_seq ga λ_=>(qjR (yF ks) vs).toArray))
 by_cases h2:vs.length<2
 ·have h2':vs.toArray.size<2:=by rw[sT_];exact h2
  rw[if_pos h2',if_pos h2']
  refine yaa (yac ?_)
  rw[StateT.run_pure]
  refine yaa (yac ?_)
  refine tail _ ?_ rfl
  have e0:qjR (yF ks) vs=vs:=by
   show(Srt.ord (yF ks)).map _=vs
   unfold Srt.ord
   rw[if_pos (by omega),hrl]
   exact Srt.map_getD_range _ vs
  rw[e0]
  apply Array.toList_inj.mp
  show((vs.toArray.zip vs.toArray).map (·.2)).toList=vs.toArray.toList
  rw[Array.toList_map,ksk_zip,List.map_snd_zip (yad _)]
 ·have h2':¬vs.toArray.size<2:=by rw[sT_];exact h2
  rw[if_neg h2',if_neg h2']
  obtain⟨fs,t1,t2,t3⟩:=qiT kv3'
  refine yaa ?_
  refine PySem.W.kat_kind (T:=.type "int") t1 (by omega) (λv hv=>?_) rfl ?_
  ·obtain⟨i,t,rfl⟩:=t3 v hv
   exact .now
  show wpAny _ _ _ _ _ _
  refine yaa (ybi (PySem.W.kat_run (κ:=ycs true) (Q:=λst' s'=>s'=s3/\(arrOf st').map (·.2)=(qjR (yF ks) vs).toArray/\failedOf st'=none) (G:=λp s'=>s'=s3/\p.toList=Srt.ord (yF ks)) rfl (by omega) h64 (λp st' s' a1 a2 a3 a4=>?_) ?_) ?_ λ_ _ x=>x)
  ·refine⟨a4.1,?_,a3⟩
   rw[PySem.W.kat_snds rfl a2,a4.2]
  ·have ft:=Srt.fits_sort (n:=ks.length) (by omega)
   rw[<-hlen]
   refine qhk hu kv3' ft ⟨rfl,?_⟩
   unfold Srt.ord
   rw[if_neg (by omega),qcL]
  ·rintro⟨⟨⟩,st'⟩ s' ⟨rfl,h3,h4⟩
   exact tail st' h3 h4
end
end L2
namespace L2.Sk
open PySem PySem.Spec PyProof.Rows
def qnj:List D->Option (List wv)
 | []=>some []
 |d::ds=>match qpB d,qnj ds with
  |some k,some ks=>some (k::ks)
  |_,_=>none
def qpD (i:Nat):M (List D):=λρ=>match zH i ρ with
 | some ds=>if ds.length<64 then match qnj ds with
   |some ks => .ok (qlf (Srt.ord (yF ks)) ds,ρ)
   |none => .bad
  else .bad
 |none => .bad
section
variable{X:Cx}{c:Fc}{pos:Pos}
end
def ltB:D->D->Option D
 |.int i,.int j=>some (.bl (decide (i<j)))
 |.tup xs,.tup ys=>match y7 xs,y7 ys with
  |some ns,some ms=>some (.bl (HT.lexLt ns ms))
  |_,_=>none
 |_,_=>none
end L2.Sk
set_option maxHeartbeats 1000000
namespace L2.Sk
open PySem PySem.Spec PyProof.Rows
def qnk (O:List Nat) (ρ:Env):Bool:=O.all λj=>match ρ[j]? with
 |some (some (.lst ds))=>immL ds
 |_=>true
open Classical in
noncomputable def qpE (i:Nat) (O:List Nat) (F:List D->R D) (g:M (List D)) (t:M Bool):MS:=λρ=>match g ρ with
 | .ok (ds,ρ1)=>if immFs ds=true/\qnk O ρ1=true/\i<ρ1.length then match F ds with
   | .ok (.tup [.lst xs,.lst ys])=>match t (ρ1.set i (some (.tup [.lst xs,.lst ys]))) with
     |.ok (b,ρ2)=>if b=true then .ok (.rt (.bl false) ρ2)else if ρ2=ρ1.set i (some (.tup [.lst xs,.lst ys]))/\xs.length+ys.length<1000 then .ok (.nx (ρ1.set i none))else .bad
     |_ => .bad
   |_ => .bad
  else .bad
 |_ => .bad
section
variable{X:Cx}{c:Fc}
end
end L2.Sk
set_option maxHeartbeats 1000000
namespace L2.Sk
open PySem PySem.Spec PyProof.Rows
structure qlZ (z:Str) (X:Cx) (scope:Scope) (N':List Str) (nt:Nat) (fr:List Nat):Prop where
 kind:scope.kind=.function
 cell:∀y∈scope.names,y.2=.cell->y.1=z
 cz:scope.names.lookup z=some .cell
 cf:∀n acc,yfL n scope.names acc=(z,n)::acc
 pc:∀h:Heap,pushCells h scope.names=h.push {cls:=.type "cell",data:=.cell none}
 names:∀y∈scope.names,y.2=.local->scope.names.lookup y.1=some .local
 frees:∀y∈scope.names,y.2=.free->X.env.kindOf y.1=some .cell/\y.1≠z
 len:N'.length=nt+fr.length
 slot:∀i j,fr[i]? = some j->∃x,N'[nt+i]? = some x/\X.N[j]? = some x/\scope.names.lookup x=some .free
section
variable{z:Str}{X:Cx}{tg iter elt:Expr}{ifs:List Expr}{scope:Scope}{pos:Pos}{wi:TI}{N':List Str}{nt:Nat}{fr:List Nat}
end
section
variable{X:Cx}{c:Fc}{tg:Expr}{pos:Pos}
end
end L2.Sk
set_option maxHeartbeats 1000000
namespace L2.Sk
open PySem PySem.Spec PyProof.Rows
abbrev qaO (h:Heap) (z TI TO:Addr) (a:Nat) (b:Bool):Prop :=
 h.get? z=some {cls:=.type "zip",dict:=none,data:=.fields #[ycb a,.bool b,.bool false,.ref TI,.ref TO],slots := #[]}
section
variable{prog:yan}{w:World}{A:yav}{E:Value->yab->Prop}{s:yab}{z TI TO i1 i2:Addr}{fp1 fp2:List Addr}{n1 n2 k:Nat}{P1 P2:Nat->Value->Prop}{S1 S2:Nat->Heap->Prop}
theorem qoI {M:Model} {a:Addr} {Q:Option Obj->yab->Prop} (h:Q (s.heap.get? a) s):wpAny M A (loadIfAlive a) Q E s:=λΓ p _=>by
 show Sem.wp M Γ (.loadIfAlive a .pure) _ _ p s
 rw[Sem.wp_loadIfAlive]
 exact h
theorem qex {a:Nat} {b:Bool} {o:Obj} (zz:qaO s.heap z TI TO a b) (ho:s.heap.get? a=some o) {Q:Bool->yab->Prop}
  (fin:∀h',qaO h' z TI TO a true->yb2 z s.heap h'->Q false {s with heap:=h' }):wpAny (model prog w) A (yaC (.ref z)) Q E s:=by
 unfold yaC
 refine yaa (yaE zz rfl (x:=ycb a) rfl ?_)
 show wpAny (model prog w) A (loadIfAlive (Int.toNat (a:Int)) >>= _) _ _ _
 refine yaa (qoI ?_)
 have e:s.heap.get? (Int.toNat (a:Int))=some o:=ho
 rw[e]
 simp only[Option.isNone_some,yaP,if_false]
 refine yaa (yaE zz rfl (x:=ybp b) rfl ?_)
 cases b with
 |true=>
  have e1:(ybp true != ybp true)=false:=by decide
  simp only[e1,yaP,if_false]
  exact yac (fin s.heap zz (yf7 ..))
 |false=>
  have e1:(ybp false != ybp true)=true:=by decide
  simp only[e1,if_true]
  refine yaa (ybz zz (by simp) λh1 zz1 b1=>yac (fin h1 zz1 b1))
theorem qlh (D1:Draws prog w A i1 fp1 n1 P1 S1) (D2:Draws prog w A i2 fp2 n2 P2 S2) (ap:ZAp z TI TO i1 i2 fp1 fp2) {a:Nat} {b:Bool} {o:Obj} (zz:qaO s.heap z TI TO a b) (ho:s.heap.get? a=some o) (zI:ybn s.heap TI (.ref i1) (.ref i2))
  (t1:S1 k s.heap) (t2:S2 k s.heap) (l1:k<n1) (l2:k<n2) {Q:Value->yab->Prop}
  (fin:∀x y h' tk,P1 k x->P2 k y->qaO h' z TI TO a true->S1 (k+1) h'->S2 (k+1) h'->ybn h' s.heap.objs.size x y ->
   (∀c o,c≠z->c≠i1->c≠i2->s.heap.get? c=some o->h'.get? c=some o)->Q (.ref s.heap.objs.size) {s with heap:=h',toks:=tk}) :
  wpAny (model prog w) A (yb0.«zip.__next__» ⟨[.ref z],[]⟩) (λr s'=>∃v,r=.done (.ret v)/\Q v s') E s:=by
 show wpAny (model prog w) A (field (yag z) 2 >>= _) _ _ _
 refine yaa (yaE zz rfl (x:=ybp false) rfl ?_)
 show wpAny (model prog w) A (field (yag z) 3 >>= _) _ _ _
 refine yaa (yaE zz rfl (x:=yag TI) rfl (yaa (ya2 zI rfl ?_)))
 show wpAny (model prog w) A (yaC (yag z) >>= _) _ _ _
 refine yaa (qex zz ho λh1 zz1 b1=>?_)
 simp only[yaP,if_false]
 refine yaa ?_
 simp only[<-yfX,ycI,ydC]
 refine yaa (yaa (ya0 ?_))
 show wpAny (model prog w) A (yaB (yag i1) >>= _) _ _ _
 refine yaa (D1.item k _ _ _ l1 (D1.frame _ _ _ t1 (zM b1 ap.z1)) λx h2 tk2 px u1 b2=>yac (yac ?_))
 refine yaa (yaa (ya0 ?_))
 show wpAny (model prog w) A (yaB (yag i2) >>= _) _ _ _
 have t2':S2 k h2:=D2.frame _ _ _ (D2.frame _ _ _ t2 (zM b1 ap.z2)) (zM b2 ap.i12)
 refine yaa (D2.item k _ _ _ l2 t2' λy h3 tk3 py u2 b3=>yac (yac (yac ?_)))
 refine yaa (m:=newTuple [x,y]) (ye8 ?_)
 have sz:h3.objs.size=s.heap.objs.size:=by rw[b3.1,b2.1,b1.1]
 have zz3:qaO h3 z TI TO a true:=b3.extBut _ _ ap.zi2 (b2.extBut _ _ ap.zi1 zz1)
 have v1:S1 (k+1) h3:=D1.frame _ _ _ u1 (zM b3 ap.i21)
 have up:∀c o,h3.get? c=some o->(h3.push {cls:=.type "tuple",data:=.seq #[x,y]}).get? c=some o:=λc o e=>Heap.get?_push_of_some _ e
 have new:ybn (h3.push {cls:=.type "tuple",data:=.seq #[x,y]}) s.heap.objs.size x y:=by
  have:ybn (h3.push {cls:=.type "tuple",data:=.seq #[x,y]}) h3.objs.size x y:=Heap.get?_push_size _ rfl
  rw[sz]at this
  exact this
 refine yac ⟨_,rfl,?_⟩
 show Q (yag h3.objs.size) _
 rw[sz]
 exact fin x y _ tk3 px py (up _ _ zz3) (D1.frame _ _ _ v1 λb hb o e=>up b o e) (D2.frame _ _ _ u2 λb hb o e=>up b o e) new λc o c1 c2 c3 e=>up c o (b3.extBut _ _ c3 (b2.extBut _ _ c2 (b1.extBut _ _ c1 e)))
theorem qhl (hh:A.handled=none) (D1:Draws prog w A i1 fp1 n1 P1 S1) (D2:Draws prog w A i2 fp2 n2 P2 S2) (ap:ZAp z TI TO i1 i2 fp1 fp2) {a:Nat} {b:Bool} {o:Obj} (zz:qaO s.heap z TI TO a b) (ho:s.heap.get? a=some o) (zI:ybn s.heap TI (.ref i1) (.ref i2))
  (t1:S1 k s.heap) (t2:S2 k s.heap) (hk:k=min n1 n2) {Q:Fin->yab->Prop}
  (fin:∀h' tk e,(∀c o,c≠z->c≠i1->c≠i2->s.heap.get? c=some o->h'.get? c=some o)->(∃o,h'.get? e=some o/\o.cls=.type "StopIteration")->E (.ref e) {s with heap:=h',toks:=tk}) :
  wpAny (model prog w) A (yb0.«zip.__next__» ⟨[.ref z],[]⟩) Q E s:=by
 show wpAny (model prog w) A (field (yag z) 2 >>= _) _ _ _
 refine yaa (yaE zz rfl (x:=ybp false) rfl ?_)
 show wpAny (model prog w) A (field (yag z) 3 >>= _) _ _ _
 refine yaa (yaE zz rfl (x:=yag TI) rfl (yaa (ya2 zI rfl ?_)))
 show wpAny (model prog w) A (yaC (yag z) >>= _) _ _ _
 refine yaa (qex zz ho λh1 zz1 b1=>?_)
 simp only[yaP,if_false]
 refine yaa ?_
 simp only[<-yfX,ycI,ydC]
 refine yaa (yaa (ya0 ?_))
 show wpAny (model prog w) A (yaB (yag i1) >>= _) _ _ _
 have t1':S1 k h1:=D1.frame _ _ _ t1 (zM b1 ap.z1)
 by_cases h12:n1<=n2
 ·have e1:k=n1:=by rw[hk];exact ydt h12
  rw[e1]at t1'
  refine yaa (D1.done _ _ _ t1' λh2 e b2 he=>?_)
  exact fin h2 s.toks e (λc o c1 c3 _ x=>b2 _ _ c3 (b1.extBut _ _ c1 x)) he
 ·have e1:k=n2:=by rw[hk];exact yep (by omega)
  refine yaa (D1.item k _ _ _ (by omega) t1' λx h2 tk2 px u1 b2=>yac (yac ?_))
  refine yaa (yaa (ya0 ?_))
  show wpAny (model prog w) A (yaB (yag i2) >>= _) _ _ _
  have t2':S2 k h2:=D2.frame _ _ _ (D2.frame _ _ _ t2 (zM b1 ap.z2)) (zM b2 ap.i12)
  rw[e1]at t2'
  refine yaa (D2.done _ _ _ t2' λh4 e b4 he=>?_)
  exact fin h4 tk2 e (λc o c1 c3 c4 x=>b4 _ _ c4 (b2.extBut _ _ c3 (b1.extBut _ _ c1 x))) he
end
def yG (h:Heap) (lo:Nat) (ch:List Addr) (u v acc:Array Value) (n:Nat):Prop :=
 acc.size=n/\(∀(i:Nat)(x y:Value),i<n->u[i]? = some x->v[i]? = some y->∃p:Addr,acc[i]? = some (yag p)/\ybn h p x y/\lo<=p/\p ∉ ch)/\∀(i j:Nat)(p:Addr),acc[i]? = some (yag p)->acc[j]? = some (yag p)->i=j
theorem yG.keep {h h':Heap} {lo:Nat} {ch:List Addr} {u v acc:Array Value} {n:Nat} (P:yG h lo ch u v acc n) (k:∀c o,c ∉ ch->h.get? c=some o->h'.get? c=some o):yG h' lo ch u v acc n :=
 ⟨P.1,λi x y hi h1 h2=>by
  obtain⟨p,e1,e2,e3,e4⟩:=P.2.1 i x y hi h1 h2
  exact⟨p,e1,k p _ e4 e2,e3,e4⟩,P.2.2⟩
theorem yG.push {h:Heap} {lo:Nat} {ch:List Addr} {u v acc:Array Value} {n:Nat} {x y:Value} {p:Addr} (P:yG h lo ch u v acc n) (hx:u[n]? = some x) (hy:v[n]? = some y) (hp:ybn h p x y) (hlo:lo<=p) (hc:p ∉ ch) (hnew:∀i:Nat,acc[i]? ≠ some (yag p)):yG h lo ch u v (acc.push (.ref p)) (n+1):=by
 refine⟨by rw[Array.size_push,P.1],λi x' y' hi h1 h2=>?_,λi j q h1 h2=>?_⟩
 rotate_left
 ·rw [Array.getElem?_push]at h1 h2
  split at h1<;>split at h2
  ·omega
  ·cases h1
   exact absurd h2 (hnew j)
  ·cases h2
   exact absurd h1 (hnew i)
  ·exact P.2.2 i j q h1 h2
 by_cases e:i=n
 ·subst e
  rw[hx]at h1
  rw[hy]at h2
  cases h1
  cases h2
  refine⟨p,?_,hp,hlo,hc⟩
  rw[<-P.1]
  simp
 ·obtain⟨q,e1,e2,e3,e4⟩:=P.2.1 i x' y' (by omega) h1 h2
  refine⟨q,?_,e2,e3,e4⟩
  rw[Array.getElem?_push,if_neg (by rw[P.1];exact e)]
  exact e1
def LZ (z TI TO i1 i2 a1 a2 S:Addr) (u v:Array Value) (k:Nat) (h:Heap):Prop :=
 ((IsZip h z TI TO .none/\∃p q,ybn h TO p q)\/∃(a:Nat)(b:Bool)(o o':Obj),qaO h z TI TO a b/\h.get? a=some o/\h.get? TO=some o'/\(a:Addr) ∉ [z,TO,i1,i2,S])/\ybn h TI (.ref i1) (.ref i2)/\(h.IsTupleIter i1 a1 k/\h.IsTuple a1 u)/\(h.IsTupleIter i2 a2 k/\h.IsTuple a2 v)
section
variable{prog:yan}{w:World}{A:yav}{s:yab}{R:yek->yab->Prop}{z TI TO i1 i2 a1 a2 S:Addr}{u v:Array Value}
theorem LZ.keep {k:Nat} {h h':Heap} (L:LZ z TI TO i1 i2 a1 a2 S u v k h) (n1:S≠z) (n2:S≠TO) (n3:S≠TI) (n4:S≠i1) (n5:S≠i2) (n6:S≠a1) (n7:S≠a2) (kp:∀c o,c≠S->h.get? c=some o->h'.get? c=some o):LZ z TI TO i1 i2 a1 a2 S u v k h':=by
 obtain⟨f,q1,⟨q2,o2,g2,r2⟩,⟨q3,o3,g3,r3⟩⟩:=L
 refine⟨?_,kp _ _ n3.symm q1,⟨q2.at λo e=>kp _ o n4.symm e,o2,kp _ _ n6.symm g2,r2⟩,⟨q3.at λo e=>kp _ o n5.symm e,o3,kp _ _ n7.symm g3,r3⟩⟩
 rcases f with⟨f1,p,q,f2⟩|⟨a,b,o,o',f1,f2,f4,f3⟩
 ·exact .inl ⟨kp _ _ n1.symm f1,p,q,kp _ _ n2.symm f2⟩
 ·refine .inr ⟨a,b,o,o',kp _ _ n1.symm f1,kp _ _ (λe=>f3 ?_) f2,kp _ _ n2.symm f4,f3⟩
  rw[e]
  simp
theorem qli {E:Value->yab->Prop} (hh:A.in1.handled=none) (ap:ZAp z TI TO i1 i2 [i1,a1] [i2,a2]) (m1:a1≠i1) (m2:a2≠i2) {k:Nat} (L:LZ z TI TO i1 i2 a1 a2 S u v k s.heap) (l1:k<u.size) (l2:k<v.size) (hS:∃o,s.heap.get? S=some o) (sa1:a1 ∉ [z,TO,i1,i2]) (sa2:a2 ∉ [z,TO,i1,i2]) {Q:Option Value->yab->Prop}
  (fin:∀x y h' tk,u[k]? = some x->v[k]? = some y->LZ z TI TO i1 i2 a1 a2 S u v (k+1) h'->ybn h' s.heap.objs.size x y->(∀c o,c ∉ [z,TO,i1,i2]->s.heap.get? c=some o->h'.get? c=some o)->(s.heap.objs.size:Addr) ∉ [z,TO,i1,i2,S]->Q (some (.ref s.heap.objs.size)) {s with heap:=h',toks:=tk}) :
  wpAny (model prog w) A (yc0 (.ref z)) Q E s:=by
 obtain⟨f,q1,q2,q3⟩:=L
 have D1:=vp (prog:=prog) (w:=w) hh i1 a1 m1 u
 have D2:=vp (prog:=prog) (w:=w) hh i2 a2 m2 v
 have hT:s.TypeIs (.ref z) "zip":=by
  rcases f with⟨f1,_⟩|⟨a,b,o,o',f1,_⟩
  ·exact⟨_,f1,rfl⟩
  ·exact⟨_,f1,rfl⟩
 have lt:∀c∈[z,TO,i1,i2,S],c≠s.heap.objs.size:=λc hc=>by
  have hz:∃o,s.heap.get? c=some o:=by
   simp only[yax,nN_,or_false]at hc
   obtain⟨⟨o4,g4,_⟩,_⟩:=q2
   obtain⟨⟨o5,g5,_⟩,_⟩:=q3
   rcases hc with rfl|rfl|rfl|rfl|rfl
   ·obtain⟨o,e,_⟩:=hT
    exact⟨o,e⟩
   ·rcases f with⟨_,p,q,f2⟩|⟨_,_,_,o',_,_,f4,_⟩
    ·exact⟨_,f2⟩
    ·exact⟨_,f4⟩
   ·exact⟨_,g4⟩
   ·exact⟨_,g5⟩
   ·exact hS
  obtain⟨o,e⟩:=hz
  exact yao (yae e)
 unfold yc0
 refine yaa (wpAny_attempt (wpAny_callSpecial?_slot (name:=ybb "__next__") hT ydu (ybL ydu hT F.entry_zip_next ?_ (yf8 _))))
 rcases f with⟨f1,p,q,f2⟩|⟨a,b,o,o',f1,f2,f4,f3⟩
 ·refine qmU D1 D2 ap f1 q1 f2 q2 q3 l1 l2 λx y h' tk px py zz zO u1 u2 new kp=>yac ?_
  have hsz:s.heap.objs.size<h'.objs.size:=yae new
  refine fin x y h' tk px py ⟨.inr ⟨s.heap.objs.size,false,_,_,zz,new,zO,λhm=>lt _ hm rfl⟩,kp _ _ ap.zTI.symm ap.IO ap.Ii1 ap.Ii2 q1,u1,u2⟩ new (λc o hc e=>?_) (λhm=>lt _ hm rfl)
  simp only[yax,nN_,or_false,not_or]at hc
  exact kp c o hc.1 hc.2.1 hc.2.2.1 hc.2.2.2 e
 ·refine qlh D1 D2 ap f1 f2 q1 q2 q3 l1 l2 λx y h' tk px py zz u1 u2 new kp=>yac ?_
  have hsz:s.heap.objs.size<h'.objs.size:=yae new
  have f3':=f3
  simp only[yax,nN_,or_false,not_or]at f3'
  refine fin x y h' tk px py ⟨.inr ⟨a,true,o,o',zz,kp _ _ f3'.1 f3'.2.2.1 f3'.2.2.2.1 f2,kp _ _ ap.zTO.symm ap.Oi1 ap.Oi2 f4,f3⟩,kp _ _ ap.zTI.symm ap.Ii1 ap.Ii2 q1,u1,u2⟩ new (λc o hc e=>?_) (λhm=>lt _ hm rfl)
  simp only[yax,nN_,or_false,not_or]at hc
  exact kp c o hc.1 hc.2.2.1 hc.2.2.2 e
theorem qlj {E:Value->yab->Prop} (hh:A.in1.handled=none) (ap:ZAp z TI TO i1 i2 [i1,a1] [i2,a2]) (m1:a1≠i1) (m2:a2≠i2) {k:Nat} (L:LZ z TI TO i1 i2 a1 a2 S u v k s.heap) (hk:k=min u.size v.size) {Q:Option Value->yab->Prop}
  (fin:∀h' tk,(∀c o,c ∉ [z,TO,i1,i2]->s.heap.get? c=some o->h'.get? c=some o)->Q none {s with heap:=h',toks:=tk}) :
  wpAny (model prog w) A (yc0 (.ref z)) Q E s:=by
 obtain⟨f,q1,q2,q3⟩:=L
 have D1:=vp (prog:=prog) (w:=w) hh i1 a1 m1 u
 have D2:=vp (prog:=prog) (w:=w) hh i2 a2 m2 v
 have hT:s.TypeIs (.ref z) "zip":=by
  rcases f with⟨f1,_⟩|⟨a,b,o,o',f1,_⟩
  ·exact⟨_,f1,rfl⟩
  ·exact⟨_,f1,rfl⟩
 unfold yc0
 refine yaa (wpAny_attempt (wpAny_callSpecial?_slot (name:=ybb "__next__") hT ydu (ybL ydu hT F.entry_zip_next ?_ (yf8 _))))
 rcases f with⟨f1,p,q,f2⟩|⟨a,b,o,o',f1,f2,f4,f3⟩
 ·refine qiu hh D1 D2 ap f1 q1 f2 q2 q3 hk λh' tk e kp he=>?_
  obtain⟨o,ho,hcl⟩:=he
  refine yaa (wpAny_isInstance (T:="StopIteration") (b:=true) ⟨o,ho,hcl⟩ isSubtype_stop (yac (fin h' tk λc o hc e=>?_)))
  simp only[yax,nN_,or_false,not_or]at hc
  exact kp c o hc.1 hc.2.1 hc.2.2.1 hc.2.2.2 e
 ·refine qhl hh D1 D2 ap f1 f2 q1 q2 q3 hk λh' tk e kp he=>?_
  obtain⟨o,ho,hcl⟩:=he
  refine yaa (wpAny_isInstance (T:="StopIteration") (b:=true) ⟨o,ho,hcl⟩ isSubtype_stop (yac (fin h' tk λc o hc e=>?_)))
  simp only[yax,nN_,or_false,not_or]at hc
  exact kp c o hc.1 hc.2.2.1 hc.2.2.2 e
theorem qlk (hh:A.handled=none) (ap:ZAp z TI TO i1 i2 [i1,a1] [i2,a2]) (m1:a1≠i1) (m2:a2≠i2) (sa1:a1 ∉ [z,TO,i1,i2]) (sa2:a2 ∉ [z,TO,i1,i2]) (hS:S ∉ [z,TI,TO,i1,i2,a1,a2]) (lo:Nat) (hmin:min u.size v.size<=1000) (res:Value) :
  ∀(m k:Nat)(s:yab)(acc:Array Value)(c:Nat),m=min u.size v.size-k->k<=min u.size v.size->lo<=s.heap.objs.size->LZ z TI TO i1 i2 a1 a2 S u v k s.heap->yG s.heap lo [z,TO,i1,i2,S] u v acc k->s.heap.get? S=some {cls:=.type "list",dict:=none,data:=.seq acc c,slots := #[]} ->
  (∀h' tk acc' c',(∀b o,b ∉ [z,TO,i1,i2,S]->s.heap.get? b=some o->h'.get? b=some o)->h'.get? S=some {cls:=.type "list",dict:=none,data:=.seq acc' c',slots := #[]}->yG h' lo [z,TO,i1,i2,S] u v acc' (min u.size v.size)->R (.ok (.ret res)) {s with heap:=h',toks:=tk}) ->
  ybR (model prog w) A (.builtin "list.extend.loop" ⟨[.ref S,.ref z,res],[]⟩) R s:=by
 have hS':=hS
 simp only[yax,nN_,or_false,not_or]at hS'
 have cut:∀c,c ∉ [z,TO,i1,i2,S]->c ∉ [z,TO,i1,i2]:=λc hc h=>hc (by
  simp only[yax,nN_,or_false]at h
  rcases h with h|h|h|h<;>rw[h]<;>simp)
 have sS:S ∉ [z,TO,i1,i2]:=by
  simp only[yax,nN_,or_false,not_or]
  exact⟨hS'.1,hS'.2.2.1,hS'.2.2.2.1,hS'.2.2.2.2.1⟩
 intro m
 induction m with
 |zero=>
  intro k s acc c hm hk hlo L P hs fin
  refine ycg yfF ?_
  rw[ybX ycD _]
  show wpAny (model prog w) A.in1 (yc0 (yag z) >>= _) _ _ s
  refine yaa (qlj (A:=A.in1) hh ap m1 m2 L (by omega) λh' tk kp=>yac ?_)
  have ek:k=min u.size v.size:=by omega
  rw[ek]at P
  exact fin h' tk acc c (λb o hb e=>kp b o (cut b hb) e) (kp S _ sS hs) (P.keep λb o hb e=>kp b o (cut b hb) e)
 | succ m ih=>
  intro k s acc c hm hk hlo L P hs fin
  refine ycg yfF ?_
  rw[ybX ycD _]
  show wpAny (model prog w) A.in1 (yc0 (yag z) >>= _) _ _ s
  refine yaa (qli (A:=A.in1) hh ap m1 m2 L (by omega) (by omega) ⟨_,hs⟩ sa1 sa2 λx y h' tk px py L' new kp nin=>?_)
  have hs':=kp S _ sS hs
  show wpAny (model prog w) A.in1 (updateSeq S (·.push (yag s.heap.objs.size)) >>= _) _ _ _
  refine yaa ?_
  have P':yG h' lo [z,TO,i1,i2,S] u v (acc.push (.ref s.heap.objs.size)) (k+1):=yG.push (P.keep λb o hb e=>kp b o (cut b hb) e) px py new hlo nin λi hi=>by
   have hik:i<k:=by
    have:=(Array.getElem?_eq_some_iff.mp hi).1
    rw[P.1]at this
    exact this
   obtain⟨p,e1,e2,_⟩:=P.2.1 i u[i] v[i] hik (Array.getElem?_eq_getElem (by omega)) (Array.getElem?_eq_getElem (by omega))
   rw[hi]at e1
   cases e1
   exact ybo _ (yae e2)
  have oth:∀b o,b≠S->h'.get? b=some o->(h'.update S (yaJ (·.push (yag s.heap.objs.size)))).get? b=some o:=λb o hb e=>(Heap.get?_update_other _ _ (ybk hb)).trans e
  have nS:∀b,b ∉ [z,TO,i1,i2,S]->b≠S:=λb hb e=>hb (by rw[e];simp)
  refine yci hs' rfl (yac ⟨ycw ycD _,ih (k+1) _ (acc.push (.ref s.heap.objs.size)) _ (by omega) (by omega) ?_ (L'.keep hS'.1 hS'.2.2.1 hS'.2.1 hS'.2.2.2.1 hS'.2.2.2.2.1 hS'.2.2.2.2.2.1 hS'.2.2.2.2.2.2 oth) (P'.keep λb o hb e=>oth b o (nS b hb) e) (Heap.get?_update_self _ hs' rfl) λh'' tk' acc' c' kp2 hs'' P''=>?_⟩) (by have:=P.1;rw[ybY];omega) (by show(acc.push _).size<=yai+1;rw[Array.size_push,ybY];have:=P.1;omega)
  ·show lo<=(h'.update S _).objs.size
   rw[ydg]
   have:=yae new
   exact yay hlo (yej this)
  ·exact fin h'' tk' acc' c' (λb o hb e=>kp2 b o hb (oth b o (nS b hb) (kp b o (cut b hb) e))) hs'' P''
end
end L2.Sk
set_option maxHeartbeats 1000000
namespace L2.Sk
open PySem PySem.Spec PyProof.Rows
theorem qfz:yfh (.type "zip") "__len__"=pure none:=by
 rw[typeLookup_type,yfe]
 kernel_rfl
theorem qdG:yfh (.type "zip") "__length_hint__"=pure none:=by
 rw[typeLookup_type,yfe]
 kernel_rfl
section
variable{prog:yan}{w:World}{A:yav}{s:yab}{R:yek->yab->Prop}{z TI TO i1 i2 a1 a2 S:Addr}{u v:Array Value}
theorem qoJ (hh:A.handled=none) (ap:ZAp z TI TO i1 i2 [i1,a1] [i2,a2]) (m1:a1≠i1) (m2:a2≠i2) (sa1:a1 ∉ [z,TO,i1,i2]) (sa2:a2 ∉ [z,TO,i1,i2]) (hS:S ∉ [z,TI,TO,i1,i2,a1,a2]) (hmin:min u.size v.size<=1000)
  (zz:IsZip s.heap z TI TO .none) (zO:∃p q,ybn s.heap TO p q) (zI:ybn s.heap TI (.ref i1) (.ref i2)) (t1:s.heap.IsTupleIter i1 a1 0/\s.heap.IsTuple a1 u) (t2:s.heap.IsTupleIter i2 a2 0/\s.heap.IsTuple a2 v)
  (lo:Nat) (hlo:lo<=s.heap.objs.size) (hs:s.heap.get? S=some {cls:=.type "list",data:=.seq #[]})
  (fin:∀h' tk acc' c',(∀b o,b ∉ [z,TO,i1,i2,S]->s.heap.get? b=some o->h'.get? b=some o)->h'.get? S=some {cls:=.type "list",dict:=none,data:=.seq acc' c',slots := #[]}->yG h' lo [z,TO,i1,i2,S] u v acc' (min u.size v.size)->R (.ok (.ret .none)) {s with heap:=h',toks:=tk}) :
  wpAny (model prog w) A.in1 (yb0.«list.__init__» ⟨[.ref S,.ref z],[]⟩)
   (λr s'=>match r with|.done f=>R (.ok f) s'|.again c'=>c'.quiet=true/\ybR (model prog w) A c' R s') (λe s'=>R (.error e) s') s:=by
 have hS':=hS
 simp only[yax,nN_,or_false,not_or]at hS'
 have hT:s.TypeIs (.ref z) "zip":=⟨_,zz,rfl⟩
 show wpAny (model prog w) A.in1 (Builtin.List.listItems (yag S) >>= λold=>yeF (yag S) (λ_ => #[]) >>= λ_=>letGo old.toList.reverse >>= λ_=>ydO (yag S) (yag z) yaQ) _ _ s
 refine yaa (listItems_at hs rfl (yaa (yfC hs rfl ?_ (yaF _) (yaF _))))
 have hs2:=Heap.get?_update_self (yaJ λ_=>(#[]:Array Value)) hs rfl
 have o2:∀b o,b≠S->s.heap.get? b=some o->(s.heap.update S (yaJ λ_=>(#[]:Array Value))).get? b=some o:=λb o hb e=>(Heap.get?_update_other _ _ (ybk hb)).trans e
 refine yaa (ycn ?_)
 generalize hm:s.heap.update S (yaJ λ_=>(#[]:Array Value))=m at hs2 o2
 have szm:m.objs.size=s.heap.objs.size:=by rw[<-hm,ydg]
 unfold ydO
 have hT2:({s with heap:=m}:yab).TypeIs (.ref z) "zip":=⟨_,o2 _ _ (ybk hS'.1) zz,rfl⟩
 refine yaa (ydq hT2 ?_)
 have e1:yew (yag S) (yag z)=false:=by simp[yew,hS'.1]
 have e2:(yca "zip"==yca "list")=false:=by decide
 have e3:(yca "zip"==yca "tuple")=false:=by decide
 simp only[e1,e2,e3,Bool.or_false,yaP,if_false]
 have zz2:IsZip m z TI TO .none:=o2 _ _ (ybk hS'.1) zz
 refine yaa (wpAny_pyIter_zip zz2 (yaa (ya0 ?_)))
 unfold Builtin.List.listLengthHint
 refine yaa (yeN hT2 qfz ?_)
 show wpAny (model prog w) A.in1 (specialOf (yag z) (ybb "__length_hint__") >>= _) _ _ _
 refine yaa (yeN hT2 qdG (yac ?_))
 show wpAny (model prog w) A.in1 (rule "list.extend.makes-room" >>= λ_=>Builtin.List.listTouch (yag S) >>= λ_=>again (.builtin "list.extend.loop" ⟨[yag S,yag z,yaQ],[]⟩)) _ _ _
 refine yaa (ydp (yaa ?_))
 show wpAny (model prog w) A.in1 (updateSeq S (·.push yaQ) >>= λ_=>updateSeq S (·.pop)) _ _ _
 refine yaa (yci hs2 rfl ?_)
 have hs3:=Heap.get?_update_self (yaJ (·.push yaQ)) hs2 rfl
 refine yci (hz:=by seq_fits) hs3 rfl ?_
 have hs4:=Heap.get?_update_self (yaJ (·.pop)) hs3 rfl
 have o4:∀b o,b≠S->s.heap.get? b=some o->((m.update S (yaJ (·.push yaQ))).update S (yaJ (·.pop))).get? b=some o:=λb o hb e=>(Heap.get?_update_other _ _ (ybk hb)).trans ((Heap.get?_update_other _ _ (ybk hb)).trans (o2 b o hb e))
 have sz4:((m.update S (yaJ (·.push yaQ))).update S (yaJ (·.pop))).objs.size=s.heap.objs.size:=by rw[ydg,ydg,szm]
 have L:LZ z TI TO i1 i2 a1 a2 S u v 0 ((m.update S (yaJ (·.push yaQ))).update S (yaJ (·.pop))):=LZ.keep (h:=s.heap) ⟨.inl ⟨zz,zO⟩,zI,t1,t2⟩ hS'.1 hS'.2.2.1 hS'.2.1 hS'.2.2.2.1 hS'.2.2.2.2.1 hS'.2.2.2.2.2.1 hS'.2.2.2.2.2.2 o4
 have nS:∀b,b ∉ [z,TO,i1,i2,S]->b≠S:=λb hb e=>hb (by rw[e];simp)
 exact yac ⟨ycw ycD _,qlk hh ap m1 m2 sa1 sa2 hS lo hmin .none _ 0 _ _ _ rfl (yaF _) (by show lo<=_;rw[sz4];exact hlo) L ⟨rfl,λi x y hi=>absurd hi (ycJ _),λi j p h=>by simp at h⟩ hs4 λh' tk acc' c' kp hs' P=>fin h' tk acc' c' (λb o hb e=>kp b o hb (o4 b o (nS b hb) e)) hs' P⟩
end
section
variable{prog:yan}{w:World}{A:yav}{s:yab}{E:Value->yab->Prop}{z TI TO i1 i2 a1 a2:Addr}{u v:Array Value}
end
end L2.Sk
set_option maxHeartbeats 1000000
namespace L2.Sk
open PySem PySem.Spec PyProof.Rows
section
variable{X:Cx}{H0 H:Hp}{s0 s:yab}{T:Addr}{o:HO}
end
section
variable{X:Cx}{a b:Expr}{pos:Pos}
end
end L2.Sk
set_option maxHeartbeats 1000000
namespace L2.Sk
open PySem PySem.Spec PyProof.Rows
end L2.Sk
set_option maxHeartbeats 1000000
namespace L2.Sk
open PySem PySem.Spec PyProof.Rows
theorem qll (l:Addr) (dd:Option Addr) (items:Array Value) (n:Nat) (sl:Array (Option Value)) (t:Tok) :
  Meets (yb0.«tuple.__mul__» ⟨[.ref l,.int 1 t],[]⟩) (λ_ R s=>s.heap.get? l=some {cls:=.type "tuple",dict:=dd,data:=.seq items n,slots:=sl}/\R (.ok (.ret (.ref l))) s) :=
 .of_wp λprog w A R s h=>by
  obtain⟨hp,g,d,tk,os⟩:=s
  obtain⟨hl,h⟩:=h
  have f1:=yeq
  have f2:=yb5
  have h3:¬(decide ((1:Int) < -(2 ^ 63))||decide ((1:Int) >= 2 ^ 63))=true:=by decide
  have h01:(items.isEmpty||(1:Int)==1)=true:=by simp
  wp_walk using ybC hl
  exact⟨_,rfl,h⟩
theorem qlm (l:Addr) (dd:Option Addr) (items:Array Value) (n:Nat) (sl:Array (Option Value)) (t:Tok) (h0:¬items.isEmpty=true) :
  Meets (yb0.«tuple.__mul__» ⟨[.ref l,.int 0 t],[]⟩) (λ_ R s=>s.heap.get? l=some {cls:=.type "tuple",dict:=dd,data:=.seq items n,slots:=sl}/\R (.ok (.ret (.ref s.heap.objs.size))) {s with heap:=s.heap.push {cls:=.type "tuple",data:=.seq #[]} }) :=
 .of_wp λprog w A R s h=>by
  obtain⟨hp,g,d,tk,os⟩:=s
  obtain⟨hl,h⟩:=h
  have f1:=yeq
  have f2:=yb5
  have h3:¬(decide ((0:Int) < -(2 ^ 63))||decide ((0:Int) >= 2 ^ 63))=true:=by decide
  have h01:¬(items.isEmpty||(0:Int)==1)=true:=by simp only[ycH,not_or];exact⟨h0,by decide⟩
  wp_walk using ybC hl
  exact⟨_,rfl,h⟩
section
variable{X:Cx}
def qhm(K:Fr0):R2:=λx y H Q=>∃a xs k,x=.ref a/\y=.int k/\SqT K H a xs/\xs≠[]/\((k=1/\Q (.ref a) H)\/(k=0/\∀p,H p=none->Q (.ref p) (upd H p (.tup []))))
theorem qiU:OpR X (ya8 .Mult) (qhm X.K):=by
 intro pins s σ H x y v u Q I rx ry h
 obtain⟨a,xs,k,rfl,rfl,hx,hne,q⟩:=h
 cases rx
 obtain⟨t,rfl⟩:=ry
 obtain⟨its,r,p1,_⟩:=I.tuple hx
 obtain⟨⟨cls,dd,data,sl⟩,ho,hc,n,hd⟩:=id p1
 simp only at hc hd
 subst hc hd
 have hl:=r.length
 have e0:¬its.toArray.isEmpty=true:=by
  intro e
  have:its=[]:=by simpa using e
  rw[this]at hl
  exact hne (List.length_eq_zero_iff.mp hl)
 have T1:s.TypeIs (.ref a) "tuple":=⟨_,ho,rfl⟩
 rcases q with⟨rfl,q⟩|⟨rfl,q⟩
 ·exact ybW (T:="tuple") (U:="int") (by decide) T1 (λs'=>yce s' 1 t) ur ydr ybD wJ F.slot_int_index.lookup
   (ybM ybD (yce s 1 t) ydd (ycW _ _) (uT 1 t a dd its.toArray n sl)
    ⟨ho,rfl,T1,ybM yer T1 yd6 (ydM _ _) (qll a dd its.toArray n sl t) ⟨ho,⟨.ref a,H,I,rfl,q⟩⟩⟩)
 ·refine ybW (T:="tuple") (U:="int") (by decide) T1 (λs'=>yce s' 0 t) ur ydr ybD wJ F.slot_int_index.lookup
   (ybM ybD (yce s 0 t) ydd (ycW _ _) (uT 0 t a dd its.toArray n sl)
    ⟨ho,rfl,T1,ybM yer T1 yd6 (ydM _ _) (qlm a dd its.toArray n sl t e0) ⟨ho,?_⟩⟩)
  exact⟨.ref s.heap.objs.size,_,I.laid (t':=s.toks) (o:=.tup []) (λb ob q=>Heap.get?_push_of_some _ q) (yad _) ⟨yaF _,[],.nil,ydh _ _⟩,rfl,q _ (I.hok.fresh (yad _))⟩
theorem qln:OpR X (ya8 .Mult) (λx y H Q=>qfl X.K x y H Q\/qhm X.K x y H Q):=OpR.or zV qiU
end
def qhn:D->D->Option D
 |.tup ds,.int k=>if ds.isEmpty then none else if k=0 then some (.tup [])else if k=1 then some (.tup ds)else ym (.tup ds) (.int k)
 |x,y=>ym x y
theorem qiV {K:Fr0}:OpS K qhn (λx y H Q=>qfl K x y H Q\/qhm K x y H Q):=by
 intro A H x y d v u Q hn ix iy e k
 unfold qhn at e
 split at e
 ·rename_i ds j
  by_cases h0:ds.isEmpty=true
  ·rw[if_pos h0]at e;cases e
  rw[if_neg h0]at e
  by_cases h1:j=0
  ·rw[if_pos h1]at e
   cases e
   subst h1
   obtain⟨a,xs,rfl,ta,il⟩:=ix
   cases iy
   refine .inr ⟨a,xs,0,rfl,rfl,ta.sq,λz=>?_,.inr ⟨rfl,λp hp=>k _ _ (qx hp _) ⟨p,[],rfl,.inl qu,rfl⟩⟩⟩
   have:=il.length
   rw[z]at this
   exact h0 (by rw[List.length_eq_zero_iff.mp this.symm];rfl)
  rw[if_neg h1]at e
  by_cases h2:j=1
  ·rw[if_pos h2]at e
   cases e
   subst h2
   have ix':=ix
   obtain⟨a,xs,rfl,ta,il⟩:=ix
   cases iy
   refine .inr ⟨a,xs,1,rfl,rfl,ta.sq,λz=>?_,.inl ⟨rfl,k _ H (jE.refl H) ix'⟩⟩
   have:=il.length
   rw[z]at this
   exact h0 (by rw[List.length_eq_zero_iff.mp this.symm];rfl)
  rw[if_neg h2]at e
  exact .inl (zm A H _ _ d v u Q hn ix iy e k)
 ·exact .inl (zm A H _ _ d v u Q hn ix iy e k)
end L2.Sk
set_option maxHeartbeats 1000000
namespace L2.Sk
open PySem PySem.Spec PyProof.Rows
section
variable{X:Cx}{pins:List (Addr×Obj)}{σ:St}{H:Hp}{s:yab}{A:Addr->Prop}
def Shw(X:Cx)(s:yab)(d:D)(u:Value):Prop:=∃bs,ReadAtMost s.heap (qM d).depth bs/\ReprK X.prog X.w bs s.heap (qM d).depth u (qM d).shown
theorem qdH (I:Inv X pins σ H s) {d:D} {v:V} {u:Value} (hs:(qM d).showable=true) (hd:(qM d).hasDict=true->noL d=true) (i:Is X.K A H d v) (r:zY v u) (hz:(qM d).shown.length<=yai):Shw X s d u:=by
 obtain⟨as,q,nl⟩:=jG I (qbp hs) i r
 exact ReprK.of_reads q hs (λe=>nl (hd e)) hz
theorem qho:∀ns:List Int,yf9 (ns.map .int)=false
 | []=>rfl
 |n::ns=>by
  rw[mC_,yf9,qho ns]
  rfl
theorem qlo (ns:List Int):(qM (.fz ns)).hasDict=false:=by
 simp only[qM,PyData.hasDict]
 exact qho ns
theorem qaP:∀(ds:List D)(xs:List V)(us:List Value),(∀d∈ds,∀(v:V)(u:Value),(qM d).showable=true->Is X.K A H d v->zY v u->(qM d).shown.length<=yai->Shw X s d u)->yaI (toPDs ds)=true->IsL X.K A H ds xs->zt xs us->(∀t∈ybj (toPDs ds),t.length<=yai) ->
  ∃bs,ReadAtMost s.heap (yaG (toPDs ds)) bs/\ReprAllK X.prog X.w bs s.heap (yaG (toPDs ds)) us (ybj (toPDs ds))
 | [],_,_,_,_,i,r,_=>by
  cases i
  cases r
  exact⟨[],(λ_ h=>nomatch h),by simp only[toPDs,ybj];exact .nil⟩
 | d::ds,_,_,ih,hs,⟨x,ys,hx,i1,i2⟩,r,hz=>by
  subst hx
  cases r with
  |cons r1 r2=>
   simp only[toPDs,yaI,yam]at hs
   simp only[toPDs,ybj,yax]at hz
   obtain⟨b1,g1,k1⟩:=ih d mS_ _ _ hs.1 i1 r1 (hz _ (.inl rfl))
   obtain⟨b2,g2,k2⟩:=qaP ds _ _ (λy hy=>ih y (mM _ hy)) hs.2 i2 r2 λt ht=>hz t (.inr ht)
   simp only[toPDs,yaG,ybj]
   exact⟨b1++b2,(g1.mono (yeO _ _)).append (g2.mono (yex _ _)),.cons ((k1.more λb hb=>ydn _ hb).level_le (yeO _ _)) (k2.more_le (λb hb=>mr_ _ hb) (yex _ _))⟩
theorem qaQ:∀{ds:List D}{d:D},d∈ds->(qM d).depth<=yaG (toPDs ds)
 |e::ds,d,h=>by
  simp only[toPDs,yaG]
  rcases List.mem_cons.mp h with rfl|h
  ·exact yeO _ _
  ·exact yay (qaQ h) (yex _ _)
theorem qjS (I:Inv X pins σ H s):∀(n:Nat)(d:D)(v:V)(u:Value),(qM d).depth<=n->(qM d).showable=true->Is X.K A H d v->zY v u->(qM d).shown.length<=yai->Shw X s d u:=λn=>by
 induction n with
 |zero=>
  intro d v u hn hs i r hz
  refine qdH I hs (λe=>?_) i r hz
  have nx:=qbp hs
  cases d with
  |non=>cases e
  |bl b=>cases e
  |int j=>cases e
  |str x=>cases e
  |dic kvs=>rfl
  |exc c=>simp[noX]at nx
  |fz ns=>rw[qlo]at e;cases e
  |tup ds=>simp only[qM,ybd]at hn;omega
  |lst ds=>simp only[qM,ybd]at hn;omega
 | succ n ih=>
  intro d v u hn hs i r hz
  have nx:=qbp hs
  obtain⟨as,q,_⟩:=jG I nx i r
  cases d with
  |non=>exact qdH I hs (λe=>by cases e) i r hz
  |bl b=>exact qdH I hs (λe=>by cases e) i r hz
  |int j=>exact qdH I hs (λe=>by cases e) i r hz
  |str x=>exact qdH I hs (λe=>by cases e) i r hz
  |dic kvs=>exact qdH I hs (λe=>rfl) i r hz
  |exc c=>simp[noX]at nx
  |fz ns=>exact qdH I hs (λe=>by rw[qlo]at e;cases e) i r hz
  |tup ds=>
   obtain⟨a,xs,hv,ta,il⟩:=i
   subst hv
   cases r
   obtain⟨its,rv,p,_⟩:=I.tuple ta.sq
   obtain⟨o,h1,h2,m,h3⟩:=p
   have e:(qM (.tup ds)).depth=yaG (toPDs ds)+1:=by simp only[qM,ybd]
   have hs':yaI (toPDs ds)=true:=by simpa [qM,ybv] using hs
   have hz':(tupleText (ybj (toPDs ds))).length<=yai:=by simpa only[qM,ybO] using hz
   obtain⟨bs,hb,hk⟩:=qaP ds xs its (λy hy v u=>ih y v u (by have:=qaQ hy;omega)) hs' il rv λt ht=>yay (tupleText_mem_le ht) hz'
   have hna:a ∉ bs:=ycY q (by rw[e];omega) hb
   refine⟨a::bs,ReadAtMost.cons q (by rw[e];omega) hb,?_⟩
   simp only[qM,ybd,ybO]
   exact ReprK.tuple h1 h2 h3 hna (by simpa using hk)
  | lst ds=>
   obtain⟨a,xs,hv,_,ta,il⟩:=i
   subst hv
   cases r
   obtain⟨its,rv,p,_⟩:=I.list (SqL.of ta)
   obtain⟨o,h1,h2,m,h3⟩:=p.isList
   have e:(qM (.lst ds)).depth=yaG (toPDs ds)+1:=by simp only[qM,ybd]
   have hs':yaI (toPDs ds)=true:=by simpa [qM,ybv] using hs
   have hz':(listText (ybj (toPDs ds))).length<=yai:=by simpa only[qM,ybO] using hz
   obtain⟨bs,hb,hk⟩:=qaP ds xs its (λy hy v u=>ih y v u (by have:=qaQ hy;omega)) hs' il rv λt ht=>yay (listText_mem_le ht) hz'
   have hna:a ∉ bs:=ycY q (by rw[e];omega) hb
   refine⟨a::bs,ReadAtMost.cons q (by rw[e];omega) hb,?_⟩
   simp only[qM,ybd,ybO]
   cases its with
   | nil=>
    have e0:toPDs ds=[]:=by
     have g1:=il.length
     have g2:=rv.length
     cases ds with
     |nil=>rfl
     |cons d ds=>exact absurd (g1.symm.trans g2) (by simp)
    rw[e0]
    simp only[ybj,listText_nil]
    exact ReprK.listEmpty h1 h2 h3
   |cons y its=>exact ReprK.list h1 h2 h3 hna (by simpa using hk.length_eq) λj w g=>hk.item j w (by simpa using g)
end
def jS(d:D):Bool:=(qM d).showable&&decide ((qM d).shown.length<=yai)&&decide ((qM d).depth<=50)
def qjT(K:Fr0):List V->Hp->VK->Prop:=λxs H Q=>∃v d A,xs=[v]/\Is K A H d v/\jS d=true/\Q (.str (qM d).shown) H
section
variable{X:Cx}
theorem yw {k:Nat} (hr:uE k X.A):jN X (.builtin "repr") (qjT X.K):=by
 intro pins s σ H xs us Q I r h
 obtain⟨v,d,A,rfl,hi,ok,q⟩:=h
 obtain⟨u,rfl,ru⟩:=zt.one r
 have ok':=ok
 unfold jS at ok'
 simp only[yam,decide_eq_true_eq]at ok'
 obtain⟨⟨o1,o2⟩,o3⟩:=ok'
 have nx:=qbp o1
 have hun:=hr.un
 have leaf:((qM d).hasDict=true->noL d=true)->wpAny (model X.prog X.w) X.A (call (.builtin "repr") [u]) (EP X pins σ Q) X.xe s:=λhl=>by
  refine qfk hr pins s σ H [v] [u] Q I r ⟨v,d,A,rfl,hi,?_,q⟩
  unfold qea
  simp only[o1,o2,o3,decide_true,yaS,ycH,yd9]
  cases e:(qM d).hasDict with
  |false=>exact .inl rfl
  |true=>exact .inr (hl e)
 have fin:∀h' (t:Tok) tk,(∀b o,s.heap.get? b=some o->h'.get? b=some o)->EP X pins σ Q (.str (qM d).shown t) {s with heap:=h',toks:=tk}:=λh' t tk hk=>⟨.str _,H,I.kept hk,⟨_,rfl⟩,q⟩
 obtain⟨as,rd,_⟩:=jG I nx hi ru
 cases d with
 |non=>exact leaf λe=>by cases e
 |bl b=>exact leaf λe=>by cases e
 |int j=>exact leaf λe=>by cases e
 |str x=>exact leaf λe=>by cases e
 |dic kvs=>exact leaf λe=>rfl
 |exc c=>simp[noX]at nx
 |fz ns=>exact leaf λe=>by rw[qlo]at e;cases e
 |tup ds=>
  obtain⟨a,xs,hv,ta,il⟩:=hi
  subst hv
  cases ru
  obtain⟨its,rv,p,_⟩:=I.tuple ta.sq
  obtain⟨o,h1,h2,m,h3⟩:=p
  have e:(qM (.tup ds)).depth=yaG (toPDs ds)+1:=by simp only[qM,ybd]
  have hs':yaI (toPDs ds)=true:=by simpa [qM,ybv] using o1
  have hz':(tupleText (ybj (toPDs ds))).length<=yai:=by simpa only[qM,ybO] using o2
  obtain⟨bs,hb,hk⟩:=qaP (X:=X) (s:=s) ds xs its (λy hy v u=>qjS I _ y v u (yad _)) hs' il rv λt ht=>yay (tupleText_mem_le ht) hz'
  have hna:a ∉ bs:=ycY rd (by rw[e];omega) hb
  refine call_repr_slot (by omega) ⟨o,h1,h2⟩ F.slot_tuple_repr (call_tuple_reprK h1 h2 h3 hna (by simpa using hk) hr.gd (λb _=>Clear.nil b) (by show X.A.units+1+_<cLine;omega) (λ_ _ z=>z) (λh' t tk hk'=>⟨_,_,rfl,?_⟩) hz')
  have:=fin h' t tk hk'
  simp only[qM,ybO]at this
  exact this
 | lst ds=>
  obtain⟨a,xs,hv,_,ta,il⟩:=hi
  subst hv
  cases ru
  obtain⟨its,rv,p,_⟩:=I.list (SqL.of ta)
  obtain⟨o,h1,h2,m,h3⟩:=p.isList
  have e:(qM (.lst ds)).depth=yaG (toPDs ds)+1:=by simp only[qM,ybd]
  have hs':yaI (toPDs ds)=true:=by simpa [qM,ybv] using o1
  have hz':(listText (ybj (toPDs ds))).length<=yai:=by simpa only[qM,ybO] using o2
  obtain⟨bs,hb,hk⟩:=qaP (X:=X) (s:=s) ds xs its (λy hy v u=>qjS I _ y v u (yad _)) hs' il rv λt ht=>yay (listText_mem_le ht) hz'
  have hna:a ∉ bs:=ycY rd (by rw[e];omega) hb
  cases its with
  | nil=>
   have e0:ds=[]:=by
    have g1:=il.length
    have g2:=rv.length
    cases ds with
    |nil=>rfl
    |cons d ds=>exact absurd (g1.symm.trans g2) (by simp)
   subst e0
   exact leaf λz=>by cases z
  |cons y its=>
   refine call_repr_slot (by omega) ⟨o,h1,h2⟩ F.slot_list_repr.toG (call_list_reprK h1 h2 h3 hna (by simpa using hk.length_eq) (λj w g=>hk.item j w (by simpa using g)) hr.gd (λb _=>Clear.nil b) (by show X.A.units+1+_<cLine;omega) (λ_ _ z=>z) (λh' t tk hk'=>⟨_,_,rfl,?_⟩) hz')
   have:=fin h' t tk hk'
   simp only[qM,ybO]at this
   exact this
end
def zB:List D->Option D
 | [d]=>if jS d then some (.str (qM d).shown)else none
 |_=>none
theorem jU {K:Fr0}:uP K zB (qjT K):=by
 intro A H xs d vs Q hn h e k
 unfold zB at e
 split at e
 ·rename_i d0
  obtain⟨v,rfl,e2⟩:=IsL.inv1 h
  obtain⟨e6,e7⟩:=jj e
  subst e7
  exact⟨v,d0,A,rfl,e2,e6,k _ H (jE.refl H) rfl⟩
 ·cases e
end L2.Sk
namespace L2
open PySem PySem.Spec PyProof.Rows
section
variable{κ:Type}[DecidableEq κ]
def qfA(kvs:List (κ×V))(k:κ):Option V:=(kvs.find? λkv=>decide (kv.1=k)).map (·.2)
def qfB (kvs:List (κ×V)) (k:κ) (v:V):List (κ×V) :=
 if(kvs.any λkv=>decide (kv.1=k))=true then kvs.map (λkv=>if kv.1=k then(kv.1,v)else kv)else kvs++[(k,v)]
def qnl(kvs:List (κ×V))(k:κ):List (κ×V):=kvs.filter λkv=>decide (kv.1≠k)
theorem qbT{p:κ×V}{r:List (κ×V)}{k:κ}(e:p.1=k):qfA (p::r) k=some p.2:=by simp[qfA,List.find?_cons,e]
theorem qbU{p:κ×V}{r:List (κ×V)}{k:κ}(e:¬p.1=k):qfA (p::r) k=qfA r k:=by simp[qfA,List.find?_cons,e]
theorem qey (k:κ):∀kvs:List (κ×V),(kvs.any λkv=>decide (kv.1=k))=(qfA kvs k).isSome
 | []=>rfl
 |p::r=>by
  rw[ydY]
  by_cases e:p.1=k
  ·simp only[qbT e,decide_eq_true e,yfY,Option.isSome_some]
  ·rw[qbU e,decide_eq_false e,Bool.false_or];exact qey k r
theorem qaR (kvs:List (κ×V)) (k:κ) (v:V):(qfB kvs k v).length<=kvs.length+1:=by
 unfold qfB
 split
 ·rw[lM_];omega
 ·rw[lA_,lC_,lN_];omega
theorem qe5.isSome_eq {o:Option V} {u:Option Value} (r:qe5 o u):o.isSome=u.isSome:=by
 cases o with
 |none=>cases u with
  |none=>rfl
  |some _=>exact(show False from r).elim
 |some _=>cases u with
  |none=>exact(show False from r).elim
  |some _=>rfl
theorem qe5.getD {o:Option V} {u:Option Value} {d:V} {d':Value} (r:qe5 o u) (rd:zY d d'):zY (o.getD d) (u.getD d'):=by
 cases o with
 |none=>cases u with
  |none=>exact rd
  |some _=>exact(show False from r).elim
 |some _=>cases u with
  |none=>exact(show False from r).elim
  |some _=>exact r
theorem KV.val {kvs:List (κ×V)} {vs:List (κ×Value)} (r:KV kvs vs) (k:κ):qe5 (qfA kvs k) (yeh vs k):=by
 unfold KV at r
 induction r with
 |nil=>exact ybx
 | @cons p q ps qs h t ih=>
  obtain⟨h1,h2⟩:=h
  by_cases e:p.1=k
  ·have e':q.1=k:=h1.symm.trans e
   have b:yeh (q::qs) k=some q.2:=by simp[yeh,List.find?_cons,e']
   rw[qbT e,b];exact h2
  ·have e':¬q.1=k:=λz=>e (h1.trans z)
   have b:yeh (q::qs) k=yeh qs k:=by simp[yeh,List.find?_cons,e']
   rw[qbU e,b];exact ih
theorem KV.any {kvs:List (κ×V)} {vs:List (κ×Value)} (r:KV kvs vs) (k:κ):(kvs.any λkv=>decide (kv.1=k))=vs.any λkv=>decide (kv.1=k):=by
 unfold KV at r
 induction r with
 |nil=>rfl
 |cons h t ih=>rw[ydY,ydY,ih,h.1]
theorem KV.repl {kvs:List (κ×V)} {vs:List (κ×Value)} (r:KV kvs vs) (k:κ) {y:V} {u:Value} (ry:zY y u) :
  KV (kvs.map λkv=>if kv.1=k then(kv.1,y)else kv) (vs.map λkv=>if kv.1=k then(kv.1,u)else kv):=by
 unfold KV at r |-
 induction r with
 |nil=>exact .nil
 | @cons p q ps qs h t ih=>
  rw[mC_,mC_]
  refine .cons ?_ ih
  obtain⟨h1,h2⟩:=h
  by_cases e:p.1=k
  ·rw[if_pos e,if_pos (h1.symm.trans e)];exact⟨h1,ry⟩
  ·rw[if_neg e,if_neg (λz=>e (h1.trans z))];exact⟨h1,h2⟩
theorem KV.put {kvs:List (κ×V)} {vs:List (κ×Value)} (r:KV kvs vs) (k:κ) {y:V} {u:Value} (ry:zY y u):KV (qfB kvs k y) (stored vs k u):=by
 unfold qfB stored
 rw[r.any k]
 by_cases e:(vs.any λkv=>decide (kv.1=k))=true
 ·rw[if_pos e,if_pos e];exact r.repl k ry
 ·rw[if_neg e,if_neg e];exact Paired.snoc r ⟨rfl,ry⟩
theorem KV.drop {kvs:List (κ×V)} {vs:List (κ×Value)} (r:KV kvs vs) (k:κ):KV (qnl kvs k) (without vs k):=by
 unfold KV at r |-
 unfold qnl without
 induction r with
 |nil=>exact .nil
 | @cons p q ps qs h t ih=>
  obtain⟨h1,h2⟩:=h
  rw[ft_,ft_]
  by_cases e:p.1=k
  ·have a:¬decide (p.1≠k)=true:=by simp[e]
   have b:¬decide (q.1≠k)=true:=by simp[h1.symm.trans e]
   rw[if_neg a,if_neg b];exact ih
  ·have e':¬q.1=k:=λz=>e (h1.trans z)
   have a:decide (p.1≠k)=true:=by simp[e]
   have b:decide (q.1≠k)=true:=by simp[e']
   rw[if_pos a,if_pos b];exact .cons ⟨h1,h2⟩ ih
theorem KV.length{kvs:List (κ×V)}{vs:List (κ×Value)}(r:KV kvs vs):kvs.length=vs.length:=yfv r
end
theorem qiW {P:yan} {w:World} {k:Key} {u:Value} (r:zY (kV k) u):(zA P w).is k u=true:=by
 cases k with
 |inl i=>obtain⟨t,e⟩:=(show ∃t,u=ycq i t from r);subst e;exact qdd P w i t
 |inr x=>obtain⟨t,e⟩:=(show ∃t,u=yfG x t from r);subst e;exact qde P w x t
theorem qcM {P:yan} {w:World}:∀{ks:List Key}{us:List Value},zt (ks.map kV) us->ItemsAre (zA P w) ks us
 | [],_,r=>by rw[ycP]at r;cases r;exact .nil
 |k::ks,_,r=>by
  rw[mC_]at r
  cases r with
  |cons h t=>exact .cons (qiW h) (qcM t)
abbrev KT(H:Hp):List (List Key×V)->List (List Key×Addr×Value)->Prop:=yfH λp q=>p.1=q.1/\H q.2.1=some (.tup (p.1.map kV))/\zY p.2 q.2.2
theorem KT.val {H:Hp} {kvs:List (List Key×V)} {xs:List (List Key×Addr×Value)} (r:KT H kvs xs) (k:List Key):qe5 (qfA kvs k) ((atKey xs k).map (·.2)):=by
 induction r with
 |nil=>exact ybx
 | @cons p q ps qs h t ih=>
  obtain⟨h1,_,h2⟩:=h
  by_cases e:p.1=k
  ·have e':q.1=k:=h1.symm.trans e
   have b:atKey (q::qs) k=some q.2:=by simp[atKey,List.find?_cons,e']
   rw[qbT e,b];exact h2
  ·have e':¬q.1=k:=λz=>e (h1.trans z)
   have b:atKey (q::qs) k=atKey qs k:=by simp[atKey,List.find?_cons,e']
   rw[qbU e,b];exact ih
theorem KT.repl {H:Hp} {kvs:List (List Key×V)} {xs:List (List Key×Addr×Value)} (r:KT H kvs xs) (k:List Key) {y:V} {u:Value} (ry:zY y u) :
  KT H (kvs.map λkv=>if kv.1=k then(kv.1,y)else kv) (xs.map (putAt k u)):=by
 induction r with
 |nil=>exact .nil
 | @cons p q ps qs h t ih=>
  rw[mC_,mC_]
  refine .cons ?_ ih
  obtain⟨h1,h2,h3⟩:=h
  unfold putAt
  by_cases e:p.1=k
  ·rw[if_pos e,if_pos (h1.symm.trans e)];exact⟨h1,h2,ry⟩
  ·rw[if_neg e,if_neg (λz=>e (h1.trans z))];exact⟨h1,h2,h3⟩
theorem KT.put {H:Hp} {kvs:List (List Key×V)} {xs:List (List Key×Addr×Value)} (r:KT H kvs xs) (k:List Key) {b:Addr} {y:V} {u:Value} (hb:H b=some (.tup (k.map kV))) (ry:zY y u) :
  KT H (qfB kvs k y) (storedH xs k b u):=by
 have e:(kvs.any λkv=>decide (kv.1=k))=(atKey xs k).isSome:=by
  rw[qey,(r.val k).isSome_eq,Option.isSome_map]
 unfold qfB storedH
 rw[e]
 by_cases q:(atKey xs k).isSome=true
 ·rw[if_pos q,if_pos q];exact r.repl k ry
 ·rw[if_neg q,if_neg q];exact Paired.snoc r ⟨rfl,hb,ry⟩
theorem KT.keeps {H H':Hp} {kvs:List (List Key×V)} {xs:List (List Key×Addr×Value)} (r:KT H kvs xs) (ht:∀b ys,H b=some (.tup ys)->H' b=some (.tup ys)):KT H' kvs xs :=
 Paired.mapP r λ_ _ z=>⟨z.1,ht _ _ z.2.1,z.2.2⟩
section
variable{P:yan}{w:World}{H:Hp}{h:Heap}{a:Addr}
theorem qnm{u:HO}(ok:HOk P w H h)(e:Rd H a u):jd P w H h a u:=e.ok ok
theorem qfC {kvs:List (Key×V)} (ok:HOk P w H h) (e:Rd H a (.dK kvs)):kvs.length<=yai/\(a==ybh)=false/\∃vs,KV kvs vs/\h.DictOf (zA P w) a vs :=
 show jd P w H h a (.dK kvs)from qnm ok e
theorem qoK{kvs:List (Key×V)}(ok:HOk P w H h)(e:H a=some (.dK kvs)):kvs.length<=yai/\(a==ybh)=false/\∃vs,KV kvs vs/\h.DictOf (zA P w) a vs:=qfC ok (.inl e)
theorem qez {ks:List Key} (ok:HOk P w H h) (e:H a=some (.tup (ks.map kV))):(ydG (zA P w)).is h ks a:=by
 obtain⟨_,its,r,o,h1,h2,n,h3⟩:=(show jd P w H h a (.tup (ks.map kV))from ok a _ e)
 exact⟨o,its.toArray,n,h1,h2,h3,by simpa using qcM r⟩
theorem qhp {kvs:List (List Key×V)} (ok:HOk P w H h) (e:Rd H a (.dT kvs)):kvs.length<=yai/\(a==ybh)=false /\
  ∃xs,KT H kvs xs/\h.DictOfH (ydG (zA P w)) a xs:=by
 obtain⟨z,y,xs,r,o,es,ep,h1,h2,h3,h4,h5⟩:=(show jd P w H h a (.dT kvs)from qnm ok e)
 refine⟨z,y,xs,r,o,es,ep,h1,h2,h3,h4,λx hx=>?_,h5⟩
 have all:∀{l:List (List Key×V)}{m:List (List Key×Addr×Value)},KT H l m->∀x∈m,(ydG (zA P w)).is h x.1 x.2.1:=by
  intro l m q
  induction q with
  |nil=>intro x hx;exact nomatch hx
  | @cons p q ps qs hq t ih=>
   intro x hx
   rcases List.mem_cons.mp hx with e|hx
   ·subst e
    exact qez ok (by rw[<-hq.1];exact hq.2.1)
   ·exact ih x hx
 exact all r x hx
theorem qoL {kvs:List (List Key×V)} (ok:HOk P w H h) (e:H a=some (.dT kvs)):kvs.length<=yai/\(a==ybh)=false /\
  ∃xs,KT H kvs xs/\h.DictOfH (ydG (zA P w)) a xs:=qhp ok (.inl e)
end
def qiX (H:Hp) (a:Addr) (y:V) (r:Option V):Prop :=
 (∃kvs k,Rd H a (.dK kvs)/\y=kV k/\r=qfA kvs k)\/∃kvs k b,Rd H a (.dT kvs)/\y=.ref b/\H b=some (.tup (k.map kV))/\r=qfA kvs k
def qnn (H:Hp) (a:Addr) (y v:V) (H':Hp):Prop :=
 (∃kvs k,H a=some (.dK kvs)/\y=kV k/\kvs.length<yai/\H'=upd H a (.dK (qfB kvs k v))) \/
 ∃kvs k b,H a=some (.dT kvs)/\y=.ref b/\H b=some (.tup (k.map kV))/\kvs.length<yai/\H'=upd H a (.dT (qfB kvs k v))
theorem qiX.k{H:Hp}{a:Addr}{kvs:List (Key×V)}{k:Key}(e:H a=some (.dK kvs)):qiX H a (kV k) (qfA kvs k):=.inl ⟨kvs,k,.inl e,rfl,rfl⟩
theorem qnn.k{H:Hp}{a:Addr}{kvs:List (Key×V)}{k:Key}{v:V}(e:H a=some (.dK kvs))(hl:kvs.length<yai):qnn H a (kV k) v (upd H a (.dK (qfB kvs k v))):=.inl ⟨kvs,k,e,rfl,hl,rfl⟩
section
variable{X:Cx}{pins:List (Addr×Obj)}{σ:St}{H:Hp}{s:yab}{a:Addr}{y v:V}{u r:Value}{o:Option V}{A:yav}{E:Value->yab->Prop}
theorem Inv.big (I:Inv X pins σ H s):ybh<s.heap.objs.size:=by
 have h:yaf<s.heap.objs.size:=(I.mod.glob.keeps I.bk).lt
 exact yes (by decide) h
theorem qhq {Q:Value->yab->Prop} (hu:A.units+1<cLine) (I:Inv X pins σ H s) (g:qiX H a y (some v)) (ry:zY y u) (h:∀w' s',Inv X pins σ H s'->zY v w'->Q w' s') :
  wpAny (model X.prog X.w) A (yb1 (.ref a) u) Q E s:=by
 rcases g with⟨kvs,k,e,ey,l⟩|⟨kvs,k,b,e,ey,eb,l⟩
 ·subst ey
  obtain⟨z,hd,vs,rel,dd⟩:=qfC I.hok e
  obtain⟨w',hw,rw'⟩:=qe5.some_of (v:=v) (o:=yeh vs k) (by rw[l];exact rel.val k)
  exact wpAny_getItem_of (qiW ry) dd.mapOf hw (h w' _ (I.tok _) rw')
 ·subst ey
  cases (show u=yag b from ry)
  obtain⟨z,hd,xs,rel,dd⟩:=qhp I.hok e
  obtain⟨w',hw,rw'⟩:=qe5.some_of (v:=v) (o:=(atKey xs k).map (·.2)) (by rw[l];exact rel.val k)
  obtain⟨p,hp,hp2⟩:=Option.map_eq_some_iff.mp hw
  refine wpAny_getItem_heap (ydP hu) (qez I.hok eb) dd hp ?_
  rw[hp2]
  exact h w' _ (I.tok _) rw'
theorem qhr {h':Heap} {t':Nat} {ob:HO} (I:Inv X pins σ H s) (mu:Mut (H a)) (hs:yb2 a s.heap h') (he:∃q,h'.get? a=some q) (new:jd X.prog X.w (upd H a ob) h' a ob) :
  Inv X pins σ (upd H a ob) {s with heap:=h',toks:=t' } :=
 I.write (x:=a) (e:=a) mu (.inl rfl) (λb q hb z=>(hs.2 b hb).trans z) he new
theorem qjU {P:yan} {w:World} {H':Hp} {h':Heap} {kvs:List (Key×V)} {vs:List (Key×Value)} (z:kvs.length<=yai) (hd:(a==ybh)=false) (rel:KV kvs vs) (dd:h'.DictOf (zA P w) a vs) :
  jd P w H' h' a (.dK kvs):=⟨z,hd,vs,rel,dd⟩
theorem qhs {H':Hp} {Q:Unit->yab->Prop} (hu:A.units+1<cLine) (I:Inv X pins σ H s) (g:qnn H a y v H') (ry:zY y u) (rv:zY v r) (h:∀s',Inv X pins σ H' s'->Q () s') :
  wpAny (model X.prog X.w) A (ye3 (.ref a) u r) Q E s:=by
 rcases g with⟨kvs,k,e,ey,l,eH⟩|⟨kvs,k,b,e,ey,eb,l,eH⟩
 ·subst ey eH
  obtain⟨z,hd,vs,rel,dd⟩:=qoK I.hok e
  have hz:vs.length<=yai:=by rw[<-rel.length];exact z
  have hl:(qfB kvs k v).length<=yai:=by have:=qaR kvs k v;omega
  refine wpAny_setItem_pairs (hsz:=hz) (qiW ry) dd λh' dd' hs=>h _ ?_
  have he:∃q,h'.get? a=some q:=let ⟨q,_,_,hq,_⟩:=dd';⟨q,hq⟩
  exact qhr I (by rw[e];exact ybx) hs he (qjU hl hd (rel.put k rv) dd')
 ·subst ey eH
  cases (show u=yag b from ry)
  obtain⟨z,hd,xs,rel,dd⟩:=qoL I.hok e
  have hz:xs.length<=yai:=by rw[<-yfv rel];exact z
  have hl:(qfB kvs k v).length<=yai:=by have:=qaR kvs k v;omega
  refine wpAny_setItem_heap (hsz:=hz) (ydP hu) (qez I.hok eb) dd λh' dd' hs=>h _ ?_
  obtain⟨q,es,ep,hq,h2,h3,h4,_,h5⟩:=dd'
  refine qhr I (by rw[e];exact ybx) hs ⟨q,hq⟩ ⟨hl,hd,_,(rel.put k eb rv).keeps λc ys ec=>?_,q,es,ep,hq,h2,h3,h4,h5⟩
  rw[qv (jp ec e (λz=>nomatch z))]
  exact ec
end
section
variable{X:Cx}{pins:List (Addr×Obj)}{σ:St}{H:Hp}{s:yab}{a:Addr}{kvs:List (Key×V)}{k:Key}{u:Value}{A:yav}{E:Value->yab->Prop}
end
def qoM(i:Expr):Prop:=∀ov iv,yeR i false ov iv=operate [ov,iv] (yb1 ov iv)
theorem qlp {prog:yan} {w:World} {A:yav} {E:Value->yab->Prop} {s:yab} {env:Env} {value slice:Expr} {pos:Pos} {T id:String} {Q:Value->yab->Prop}
  (hl:yfh (.type T) "__getitem__"=pure (some (.builtin id))) (hs:qoM slice)
  (h:wpAny (model prog w) A (eval value env) (λo sK=>wpAny (model prog w) A (eval slice env) (λi sY=>sY.TypeIs o T/\wpAny (model prog w) A (yb1 o i) Q E sY) E sK) E s) :
  wpAny (model prog w) A (eval (.Subscript value slice pos) env) Q E s:=by
 refine yfi (ybi h (λo sK hX=>ybi hX (λi sY h₂=>?_) λ_ _ x=>x) λ_ _ x=>x)
 obtain⟨hT,h₂⟩:=h₂
 unfold yfA
 refine yaa ?_
 rw[getitemInPython_of_ne hT.not_modules]
 refine yaa (yeN hT hl ?_)
 have fin:wpAny (model prog w) A (yeR slice false o i) (λr sQ=>wpAny (model prog w) A (letTemporaryGo value o r >>= λ_=>pure r) Q E sQ) E sY:=by
  rw[hs o i]
  exact wpAny_operating (ybi h₂ (λr sQ hV=>yaa (wpAny_letTemporaryGo (yac hV))) λ_ _ x=>x)
 first
  |exact yac (yaa fin)
  |exact yaa (yac (yaa fin))
  |exact yaa fin
theorem qdI {X:Cx} {pins:List (Addr×Obj)} {σ:St} {H:Hp} {s:yab} {a:Addr} {y:V} {o:Option V} (I:Inv X pins σ H s) (g:qiX H a y o):s.TypeIs (.ref a) "dict":=by
 rcases g with⟨kvs,k,e,_,_⟩|⟨kvs,k,b,e,_,_,_⟩
 ·obtain⟨_,_,vs,_,dd⟩:=qfC I.hok e
  exact dd.typeIs
 ·obtain⟨_,_,xs,_,dd⟩:=qhp I.hok e
  exact dd.typeIs
def qiY(td ty:TE):TE:=λσ H Q=>td σ H λx H1=>ty σ H1 λy H2=>∃a v,x=.ref a/\qiX H2 a y (some v)/\Q v H2
def qiZ(td ty tv:TE):TS:=λD σ H=>tv σ H λv H1=>td σ H1 λx H2=>ty σ H2 λy H3=>∃a H4,x=.ref a/\qnn H3 a y v H4/\D.nx σ H4
section
variable{X:Cx}{o i e value:Expr}{pos pos' tpos:Pos}{td ty tv:TE}
theorem qht (hu:X.A.units+1<cLine) (ho:PE X o td) (hi:PE X i ty) (hs:qoM i):PE X (.Subscript o i pos) (qiY td ty):=by
 intro pins s σ H Q I h
 refine qlp PySem.F.slot_dict_getitem.lookup hs (thn (ho pins s σ H _ I h) λu s1 ⟨x,H1,I1,rx,q1⟩=>thn (hi pins s1 σ H1 _ I1 q1) λiv s2 ⟨y,H2,I2,ry,a,v,ex,g,q2⟩=>?_)
 subst ex
 obtain rfl:u=yag a:=rx
 exact⟨qdI I2 g,qhq hu I2 g ry λw' s3 I3 rw'=>⟨v,H2,I3,rw',q2⟩⟩
theorem qlq (hu:X.A.units+1<cLine) (ho:PE X o td) (hi:PE X i ty) (hv:PE X value tv) (hs:ycK value (some (.Subscript o i pos')) pos.line X.env=pure false) :
  PS X (.Assign [.Subscript o i pos'] value pos) (qiZ td ty tv):=by
 intro pins s σ H D I h
 refine wpAny_Assign_Subscript (thn (hv pins s σ H _ I h) λr s1 ⟨v,H1,I1,rv,q1⟩=>thn (ho pins s1 σ H1 _ I1 q1) λu s2 ⟨x,H2,I2,rx,q2⟩=>thn (hi pins s2 σ H2 _ I2 q2) λiv s3 ⟨y,H3,I3,ry,a,H4,ex,g,q3⟩=>?_) hs
 subst ex
 obtain rfl:u=yag a:=rx
 exact qhs hu I3 g ry rv λs4 I4=>⟨σ,H4,I4,q3⟩
end
section
variable{X:Cx}{pos:Pos}
end
structure M1 (X:Cx) (o:Expr) (m:Str) (apos:Pos) (e:Expr) (cpos:Pos):Prop where
 base:yc9 o m X.env (eval o X.env)=eval o X.env
 few:((yaX cpos (yah [e] X.env)).all (λx => !x.1)&&(yfj cpos (ydE [] X.env)).all (λx=>x.1.isSome)
  && decide (([e]:List Expr).length+([]:List ycy).length+(if([]:List ycy).isEmpty then 0 else 1)<30))=true
 line:(apos.endLine==cpos.line)=true
 trees:yaX cpos (yah [e] X.env)=[(false,eval e X.env)]
structure M2 (X:Cx) (o:Expr) (m:Str) (apos:Pos) (e f:Expr) (cpos:Pos):Prop where
 base:yc9 o m X.env (eval o X.env)=eval o X.env
 few:((yaX cpos (yah [e,f] X.env)).all (λx => !x.1)&&(yfj cpos (ydE [] X.env)).all (λx=>x.1.isSome)
  && decide (([e,f]:List Expr).length+([]:List ycy).length+(if([]:List ycy).isEmpty then 0 else 1)<30))=true
 line:(apos.endLine==cpos.line)=true
 trees:yaX cpos (yah [e,f] X.env)=[(false,eval e X.env),(false,eval f X.env)]
def IsD(H:Hp)(a:Addr):Prop:=(∃kvs,Rd H a (.dK kvs))\/∃kvs,Rd H a (.dT kvs)
theorem qno {X:Cx} {pins:List (Addr×Obj)} {σ:St} {H:Hp} {s:yab} {a:Addr} (I:Inv X pins σ H s) (d:IsD H a) :
  s.TypeIs (.ref a) "dict"/\(∀b,yag a=.ref b->∃ob,s.heap.get? b=some ob/\ob.dict=none)/\(a==ybh)=false:=by
 rcases d with⟨kvs,e⟩|⟨kvs,e⟩
 ·obtain⟨_,hd,vs,_,dd⟩:=qfC I.hok e
  refine⟨dd.typeIs,λb q=>?_,hd⟩
  cases q
  obtain⟨ob,_,_,h1,h2,_⟩:=dd
  exact⟨ob,h1,h2.2.1⟩
 ·obtain⟨_,hd,xs,_,dd⟩:=qhp I.hok e
  refine⟨dd.typeIs,λb q=>?_,hd⟩
  cases q
  obtain⟨ob,_,_,h1,h2,_⟩:=dd
  exact⟨ob,h1,h2.2.1⟩
section
variable{X:Cx}{pins:List (Addr×Obj)}{σ:St}{H:Hp}{s:yab}{a:Addr}{y d:V}{u r:Value}{o:Option V}{A:yav}{E:Value->yab->Prop}
theorem qnp {Q:Value->yab->Prop} (hu:A.units+1<cLine) (I:Inv X pins σ H s) (g:qiX H a y o) (ry:zY y u) (rd:zY d r) (h:∀w' s',Inv X pins σ H s'->zY (o.getD d) w'->Q w' s') :
  wpAny (model X.prog X.w) A (call (.builtin "dict.get") [.ref a,u,r]) Q E s:=by
 rcases g with⟨kvs,k,e,ey,l⟩|⟨kvs,k,b,e,ey,eb,l⟩
 ·subst ey
  obtain⟨z,hd,vs,rel,dd⟩:=qfC I.hok e
  refine call_meetsIn ydl dd.typeIs yeZ (yeG _ _ _) (meets_dict_get_default (zA X.prog X.w) a (qiW ry) hd r) ⟨_,dd.mapOf,h _ _ (I.tok _) ?_⟩
  rw[l]
  exact(rel.val k).getD rd
 ·subst ey
  cases (show u=yag b from ry)
  obtain⟨z,hd,xs,rel,dd⟩:=qhp I.hok e
  refine call_meetsIn ydl dd.typeIs yeZ (yeG _ _ _) (meetsH_dict_get_default (ydG (zA X.prog X.w)) a b hd r) ⟨ydP hu,k,xs,qez I.hok eb,dd,h _ _ (I.tok _) ?_⟩
  rw[l]
  exact(rel.val k).getD rd
end
def qeA(td ty tx:TE):TE:=λσ H Q=>td σ H λx H1=>∃a,x=.ref a/\IsD H1 a/\ty σ H1 λy H2=>tx σ H2 λz H3=>∃o,qiX H3 a y o/\Q (o.getD z) H3
section
variable{X:Cx}{o e f:Expr}{apos cpos:Pos}{td ty tx:TE}
theorem qi0 (hu:X.A.units+1<cLine) (ho:PE X o td) (he:PE X e ty) (hf:PE X f tx) (m:M2 X o "get" apos e f cpos):PE X (.Call (.Attribute o "get" apos) [e,f] [] cpos) (qeA td ty tx):=by
 intro pins s σ H Q I h
 refine wpAny_Call_method m.base m.few m.line PySem.F.plainAttrs_dict ydl PySem.F.type_dict_get (thn (ho pins s σ H _ I h) λu s1 ⟨x,H1,I1,rx,a,ex,d,q1⟩=>?_)
 subst ex
 obtain rfl:u=yag a:=rx
 obtain⟨t1,t2,_⟩:=qno I1 d
 refine⟨t1,t2,?_⟩
 rw[m.trees]
 refine yeT rfl (yfk (ydJ (thn (he pins s1 σ H1 _ I1 q1) λiv s2 ⟨y,H2,I2,ry,q2⟩=>
  ydJ (thn (hf pins s2 σ H2 _ I2 q2) λfv s3 ⟨z,H3,I3,rz,ov,g,q3⟩=>yf6 ?_))))
 exact qnp hu I3 g ry rz λw' s4 I4 rw'=>⟨_,H3,I4,rw',q3⟩
end
section
variable{X:Cx}{pins:List (Addr×Obj)}{σ:St}{H:Hp}{s:yab}{a:Addr}{kvs:List (Key×V)}{A:yav}{E:Value->yab->Prop}
theorem qi1 {Q:Value->yab->Prop} (I:Inv X pins σ H s) (e:Rd H a (.dK kvs)) (h:∀p s',H p=none->Inv X pins σ (upd H p (.dK kvs)) s'->Q (.ref p) s'):wpAny (model X.prog X.w) A (call (.type "dict") [.ref a]) Q E s:=by
 obtain⟨z,hd,vs,rel,dd⟩:=qfC I.hok e
 refine kt_call_dict hd dd (by rw[<-rel.length];exact z) λh' dd' hs=>?_
 refine h _ _ (I.hok.fresh (yad _)) (I.laid (a:=s.heap.objs.size) (o:=.dK kvs) (t':=s.toks) (λb q hq=>?_) (yad _) (qjU z (beq_eq_false_iff_ne.mpr (ybk (yao I.big))) rel dd'))
 exact(hs.2 b (yao (yae hq))).trans (Heap.get?_push_of_some _ hq)
end
end L2
namespace L2
open PySem PySem.Spec PyProof.Rows
section
variable{X:Cx}{pins:List (Addr×Obj)}{σ:St}{H:Hp}{s:yab}{a:Addr}{kvs:List (Key×V)}{o:Obj}{u u':HO}
theorem Inv.reword (I:Inv X pins σ H s) (ea:H a=some u) (h1:∀xs,u ≠ .tup xs) (h2:∀pos q,u ≠ .lam pos q) (h3:∀ob v,X.H₀ a≠some (.frz ob v)) (hk:HOk X.prog X.w (upd H a u') s.heap):Inv X pins σ (upd H a u') s where
 ok:=I.ok
 os:=I.os
 bare:=I.bare
 base:=⟨I.base.keep,I.base.slot,λb ob e n hx=>by rw[qv (qA ea (I.base.free b ob e n hx)).symm];exact I.base.free b ob e n hx,I.base.there,
  fun b xs e=>by
   have q:=I.base.tups b xs e
   rw[qv (jp q ea λz=>h1 xs z.symm)];exact q,
  fun b ob v e=>by
   have q:=I.base.frzs b ob v e
   have hb:b≠a:=λz=>h3 ob v (z▸e)
   rw[qv hb];exact q,
  fun b pos x e=>by
   have q:=I.base.tbls b pos x e
   rw[qv (jp q ea λz=>h2 pos x z.symm)];exact q⟩
 loc:=I.loc
 cell:=I.cell
 free:=by rw[qv (qA ea I.free).symm];exact I.free
 freeC:=λx c e=>by rw[qv (qA ea (I.freeC x c e)).symm];exact I.freeC x c e
 pin:=λp hp=>by
  obtain⟨p1,p2,p3⟩:=I.pin p hp
  exact⟨p1,by rw[qv (qA ea p2).symm];exact p2,p3⟩
 hok:=hk
 len:=I.len
theorem Inv.noFrz (I:Inv X pins σ H s) (ea:H a=some (.dK kvs)):∀ob v,X.H₀ a≠some (.frz ob v):=λob v e=>by
 have q:=I.base.frzs a ob v e
 rw[ea]at q;cases q
theorem Inv.freeze (I:Inv X pins σ H s) (ea:H a=some (.dK kvs)) (ho:s.heap.get? a=some o):Inv X pins σ (upd H a (.frz o (.dK kvs))) s:=by
 refine I.reword ea (λ_ z=>by cases z) (λ_ _ z=>by cases z) (I.noFrz ea) λb v e=>?_
 have st:∀{c:Addr}{w':HO},H c=some w'->(∀kv,w' ≠ .dK kv)->upd H a (.frz o (.dK kvs)) c=some w':=λhc n=>by
  rw[qv (jp hc ea (n _))];exact hc
 by_cases hb:b=a
 ·subst hb
  rw[qu]at e;cases e
  exact⟨ho,(I.hok b _ ea).stay (λ_ _ _ q=>q) (λc q=>st q λ_ z=>by cases z) (λc xs q=>st q λ_ z=>by cases z) λc ob y q=>st q λ_ z=>by cases z⟩
 ·rw[qv hb]at e
  exact(I.hok b v e).stay (λ_ _ _ q=>q) (λc q=>st q λ_ z=>by cases z) (λc xs q=>st q λ_ z=>by cases z) λc ob y q=>st q λ_ z=>by cases z
theorem jd.thaw {P:yan} {w:World} {h:Heap} {b:Addr} (ea:H a=some (.frz o (.dK kvs))):∀{v:HO},jd P w H h b v->jd P w (upd H a (.dK kvs)) h b v:=by
 have st:∀{c:Addr}{w':HO},H c=some w'->w' ≠ .frz o (.dK kvs)->upd H a (.dK kvs) c=some w':=λhc n=>by
  rw[qv (jp hc ea n)];exact hc
 intro v x
 induction v with
 |dT kvs=>
  obtain⟨z,y,xs,r,ob,es,ep,e,c⟩:=x
  exact⟨z,y,xs,Paired.mapP r λp q z=>⟨z.1,st z.2.1 (λz=>by cases z),z.2.2⟩,ob,es,ep,e,c⟩
 |ins C dx fs=>
  obtain⟨d,z,ne,e,mA,⟨od,es,ep,e2,c⟩,r⟩:=x
  exact⟨st d (λz=>by cases z),z,ne,e,mA,⟨od,es,ep,e2,c⟩,r⟩
 |frz ob u ih=>obtain⟨e,q⟩:=x;exact⟨e,ih q⟩
 |lam pos q=>
  rcases x with e|⟨c,oc,vs,t,h1,h2,h3,e⟩
  ·exact .inl e
  ·exact .inr ⟨c,oc,vs,t,st h1 (λz=>by cases z),h2,h3,e⟩
 |_=>exact x
theorem Inv.thaw (I:Inv X pins σ H s) (ea:H a=some (.frz o (.dK kvs))) (h0:∀ob v,X.H₀ a≠some (.frz ob v)):Inv X pins σ (upd H a (.dK kvs)) s:=by
 refine I.reword ea (λ_ z=>by cases z) (λ_ _ z=>by cases z) h0 λb v e=>?_
 by_cases hb:b=a
 ·subst hb
  rw[qu]at e;cases e
  exact jd.thaw ea (I.hok b _ ea).2
 ·rw[qv hb]at e
  exact jd.thaw ea (I.hok b v e)
end
def Itd (d:Addr) (o:Obj) (kvs:List (Key×V)):It :=
 ⟨λi H=>H d=some (.frz o (.dK kvs))/\i<kvs.length,λi H x H'=>H'=H/\∃p,kvs[i]? = some p/\x=kV p.1,λi H=>H d=some (.frz o (.dK kvs))/\i=kvs.length⟩
theorem KV.get {κ:Type} {kvs:List (κ×V)} {vs:List (κ×Value)} (r:KV kvs vs):∀{i:Nat}{q:κ×Value},vs[i]? = some q->∃p,kvs[i]? = some p/\p.1=q.1:=by
 unfold KV at r
 induction r with
 |nil=>intro i q h;simp at h
 |cons h t ih=>
  intro i q e
  cases i with
  |zero=>simp at e;subst e;exact⟨_,rfl,h.1⟩
  |succ i=>simpa using ih (by simpa using e)
theorem qoN {P:yan} {w:World} {k:Key} {u:Value} (h:(zA P w).is k u=true):zY (kV k) u:=by
 rcases zr h with⟨i,t,rfl,rfl⟩|⟨x,t,rfl,rfl⟩
 ·exact⟨t,rfl⟩
 ·exact⟨t,rfl⟩
theorem qhu {P:yan} {w:World} {K:yal} {tg:Expr} (d it:Addr) (o:Obj) (kvs:List (Key×V)) (es:Array DictEntry) (ep:Nat) (hd:o.data=.dict es ep) (hne:d≠it) :
  qkk P w K tg (Itd d o kvs) [it] it (λi h=>h.IsKeyIter it d i kvs.length ep) where
 mem:=by simp
 obj:=λi h st b hb=>by
  have e:b=it:=by simpa using hb
  subst e
  obtain⟨o',e,c,d'⟩:=st
  exact⟨o',e,λv z=>by rw[d']at z;cases z⟩
 keep:=λi h h' st k=>by
  obtain⟨o',e,c⟩:=st
  exact⟨o',k it (by simp) o' e,c⟩
 item:=by
  intro X hP hw hK hc i pins s σ H E I hf st hg
  subst hP hw hK
  obtain⟨hdf,hi⟩:=hg
  obtain⟨ho,hz,hS,vs,rel,ob,es',ep',e1,e2,e3,e4⟩:=I.hok d _ hdf
  have eo:ob=o:=by rw[ho]at e1;exact(yaz e1).symm
  subst eo
  rw[hd]at e3
  cases e3
  obtain⟨f0,f1,f2,f3,f4,f5⟩:=hf it (by simp)
  have W:=Walks.dictKeys (prog:=X.prog) (w:=X.w) (knd:=zA X.prog X.w) (I.ok.hd hc) it d hne vs ep
  have hl:=rel.length
  refine W.item i s _ _ (by rw[<-hl];exact hi) ⟨by rw[<-hl];exact st,?_⟩ λv h' tk hv st' kk=>?_
  ·exact⟨ob,es,ho,e2,hd,e4⟩
  ·obtain⟨k,x,hk,hkv⟩:=hv
   obtain⟨p,hp,hpk⟩:=rel.get hk
   have I1:Inv X pins σ H {s with heap:=h',toks:=tk}:=I.turned (λb o hb e=>kk b o (by simpa using hb) e) f0 f1 f3 f4 f5
   refine⟨_,rfl,letGo_keyiter (by rw[<-hl]at st';exact st'.1) ⟨kV k,H,I1,qoN hkv,⟨rfl,p,hp,by rw[hpk]⟩,by rw[<-hl]at st';exact st'.1,λb hb=>(hf b hb).1⟩⟩
 done:=by
  intro X hP hw hK hc i pins s σ H E I hf st hg
  subst hP hw hK
  obtain⟨hdf,hi⟩:=hg
  obtain⟨ho,hz,hS,vs,rel,ob,es',ep',e1,e2,e3,e4⟩:=I.hok d _ hdf
  have eo:ob=o:=by rw[ho]at e1;exact(yaz e1).symm
  subst eo
  rw[hd]at e3
  cases e3
  obtain⟨f0,f1,f2,f3,f4,f5⟩:=hf it (by simp)
  have W:=Walks.dictKeys (prog:=X.prog) (w:=X.w) (knd:=zA X.prog X.w) (I.ok.hd hc) it d hne vs ep
  have hl:=rel.length
  subst hi
  refine W.done s _ _ ⟨by rw[<-hl];exact st,?_⟩ λh' tk kk=>⟨rfl,I.turned (λb o hb e=>kk b o (by simpa using hb) e) f0 f1 f3 f4 f5⟩
  exact⟨ob,es,ho,e2,hd,e4⟩
 self:=λ_ _ _ _ _ st h=>wpAny_pyIter_keyiter st h
def qnq(tl:TE):TI:=λσ H R=>tl σ H λx H1=>∃a kvs,x=.ref a/\H1 a=some (.dK kvs)/\∀o,R (Itd a o kvs) (upd H1 a (.frz o (.dK kvs)))
section
variable{X:Cx}{tg:Expr}
theorem qlr {l:Expr} {tl:TE} (hl:PE X l tl):PI X tg l (qnq tl):=by
 intro pins s σ H R I h
 refine thn (hl pins s σ H _ I h) λv s1 ⟨x,H1,I1,r1,q1⟩=>?_
 obtain⟨a,kvs,e,ea,q⟩:=q1
 subst e
 cases r1
 obtain⟨hz,hS,vs,rel,ob,es,ep,e1,e2,e3,e4⟩:=I1.hok a _ ea
 refine wpAny_pyIter_dict (knd:=zA X.prog X.w) hS ⟨ob,es,e1,e2,e3,e4⟩ ?_
 have hlt:a<s1.heap.objs.size:=yae e1
 have I2:Inv X pins σ H1 {s1 with heap:=s1.heap.push {cls:=.type "dict_keyiterator",data:=.fields #[.ref a,.int 0 0,.int (vs.length:Nat) 0,.int (ep:Nat) 0]} }:=I1.kept (t':=s1.toks) λb o e=>Heap.get?_push_of_some _ e
 refine⟨s1.heap.objs.size,[s1.heap.objs.size],_,_,upd H1 a (.frz ob (.dK kvs)),rfl,I2.freeze ea (Heap.get?_push_of_some _ e1),qhu a _ ob kvs es ep e3 (yao hlt),⟨_,Heap.get?_push_size _ rfl,rfl,by rw[rel.length];rfl⟩,λb hb=>?_,q ob⟩
 have e:b=s1.heap.objs.size:=by simpa using hb
 subst e
 exact I1.fpOk (yad _) (by rw[qv (yb4 hlt)];exact I1.hok.fresh (yad _))
def qoO(t:TS):TS:=λD σ H=>∃a kvs,H a=some (.dK kvs)/\t {nx:=λσ' H'=>∃o,H' a=some (.frz o (.dK kvs))/\D.nx σ' (upd H' a (.dK kvs)),rt:=λ_ _=>False} σ H
theorem qls {st:Stmt} {t:TS} (h:PS X st t):PS X st (qoO t):=by
 intro pins s σ H D I ⟨a,kvs,ea,q⟩
 have h0:=I.noFrz ea
 refine thn (h pins s σ H _ I q) λf s1 z=>?_
 cases f with
 |next=>
  obtain⟨σ',H',I',o,ea',q'⟩:=z
  exact⟨σ',_,I'.thaw ea' h0,q'⟩
 |ret v=>obtain⟨_,_,_,_,_,z⟩:=z;exact z.elim
 |brk=>obtain⟨_,_,_,z⟩:=z;exact z.elim
 |cont=>obtain⟨_,_,_,z⟩:=z;exact z.elim
theorem qnr{l:Expr}:PI X tg l (λσ H R=>∃w,PI X tg l w/\w σ H R):=λpins s σ H R I ⟨w,p,h⟩=>p pins s σ H R I h
theorem qns{e:Expr}:PE X e (λσ H Q=>∃t,PE X e t/\t σ H Q):=λpins s σ H Q I ⟨t,p,h⟩=>p pins s σ H Q I h
theorem qfD:jN X (.type "dict") (λxs H Q=>∃a kvs,xs=[.ref a]/\H a=some (.dK kvs)/\∀p,H p=none->Q (.ref p) (upd H p (.dK kvs))):=by
 intro pins s σ H xs us Q I r h
 obtain⟨a,kvs,rfl,ea,q⟩:=h
 cases r with
 |cons r1 r2=>
  cases r2
  cases r1
  exact qi1 I (.inl ea) λp s' hp I'=>⟨.ref p,_,I',rfl,q p hp⟩
end
end L2
namespace L2.Sk
open PySem PySem.Spec PyProof.Rows
abbrev Kv:=List (Key×Int)
def toV(kvs:Kv):List (Key×V):=kvs.map λp=>(p.1,V.int p.2)
def qbc(kvs:Kv)(k:Int):Option Int:=(kvs.find? λp=>decide (p.1=yaO k)).map (·.2)
def qlt(kvs:Kv)(k v:Int):Kv:=if(kvs.any λp=>decide (p.1=yaO k))=true then kvs.map (λp=>if p.1=yaO k then(p.1,v)else p)else kvs++[(yaO k,v)]
theorem qdJ (kvs:Kv) (k:Int):qfA (toV kvs) (yaO k)=(qbc kvs k).map V.int:=by
 unfold qfA qbc toV
 rw[List.find?_map]
 simp[ycZ]
theorem qlu (kvs:Kv) (k v:Int):qfB (toV kvs) (yaO k) (.int v)=toV (qlt kvs k v):=by
 unfold qfB qlt toV
 rw[List.any_map]
 simp only[ycZ]
 split
 ·rw[mm_,mm_]
  apply mL_
  intro p _
  simp only[ycZ]
  split<;>rfl
 ·simp
section
variable{X:Cx}{c:Fc}{a b e:Expr}{pos:Pos}
def qi2:D->D->Option D
 |.dic kvs,.int k=>(qbc kvs k).map D.int
 |_,_=>none
theorem qlv {k0:Nat} {f g:M D} (hr:uE k0 X.A) (ha:DE X c a f) (hb:DE X c b g) (hs:qoM b:=by intro _ _;rfl):DE X c (.Subscript a b pos) (d2 qi2 f g):=by
 obtain⟨ta,pa,wa⟩:=ha
 obtain⟨tb,pb,wb⟩:=hb
 refine⟨_,qht (qif hr) pa pb hs,λρ σ H Q rp h=>wa ρ σ H _ rp (Wp.bnd h λx ρ1 v H1 r1 i1 g1 h1=>wb ρ1 σ H1 _ r1 (Wp.bnd h1 λy ρ2 u H2 r2 i2 g2 h2=>?_))⟩
 obtain⟨d,e,h3⟩:=h2.lift
 have i3:=g2.is i1
 unfold qi2 at e
 split at e
 ·rename_i kvs k
  obtain⟨l,rfl,hA,hl⟩:=i3
  cases i2
  cases eg:qbc kvs k with
  |none=>rw[eg]at e;cases e
  |some n=>
   rw[eg]at e;cases e
   refine⟨l,.int n,rfl,?_,h3 _ H2 r2 rfl .refl⟩
   have:=qiX.k (k:=yaO k) hl
   rw[show(List.map (λp:Key×Int=>(p.1,V.int p.2)) kvs)=toV kvs from rfl,qdJ,eg]at this
   exact this
 ·cases e
end
def gin (kvs0:Kv) (e1:M D) (jP jF jL jT jH:Nat):List D->Env->Kv->Option (Env×Kv)
 | [],ρ,kvs=>some (ρ,kvs)
 | d :: ds,ρ,kvs=>match d with
  | .tup [x,y]=>(match e1 ((ρ.set jF (some x)).set jL (some y)) with
   | .ok (.int t,ρ2)=>(match (ρ2.set jT (some (.int t)))[jP]?,(ρ2.set jT (some (.int t)))[jL]? with
    | some (some (.int k)),some (some (.int l))=>(match qbc kvs0 k with
     | some v=>(match ((ρ2.set jT (some (.int t))).set jH (some (.int (v+l))))[jT]?,((ρ2.set jT (some (.int t))).set jH (some (.int (v+l))))[jH]? with
      | some (some (.int t')),some (some (.int h))=>if kvs.length<1000 then
        gin kvs0 e1 jP jF jL jT jH ds ((ρ2.set jT (some (.int t))).set jH (some (.int (v+l)))) (qlt kvs t' (if h<(qbc kvs t').getD h then h else(qbc kvs t').getD h))
       else none
      |_,_=>none)
     |none=>none)
    |_,_=>none)
   |_=>none)
  |_=>none
def qfE (kvs0:Kv) (it:M (List D)) (e1:M D) (jP jF jL jT jH:Nat):List Key->Env->Kv->Option (Env×Kv)
 | [],ρ,kvs=>some (ρ,kvs)
 | k :: ks,ρ,kvs=>match k with
  | .inl n=>(match it (ρ.set jP (some (.int n))) with
   |.ok (ds,ρ2)=>(match gin kvs0 e1 jP jF jL jT jH ds ρ2 kvs with
    |some (ρ3,kvs3)=>qfE kvs0 it e1 jP jF jL jT jH ks ρ3 kvs3
    |none=>none)
   |_=>none)
  |.inr _=>none
def qcN (ρ:Env):Bool:=ρ.all λo=>match o with
 |some d=>imm d
 |none=>true
def qhv (i iF:Nat) (it:M (List D)) (e1:M D) (jP jF jL jT jH:Nat):MS:=λρ=>match ρ[iF]? with
 |some (some (.dic kvs0))=>if(qcN ((ρ.set i none).set iF none)&&decide (i<ρ.length))=true then(match qfE kvs0 it e1 jP jF jL jT jH (kvs0.map (·.1)) ((ρ.set i none).set iF none) kvs0 with
  |some (ρ',kvs') => .ok (.nx ((ρ'.set i (some (.dic kvs'))).set iF (some (.dic kvs'))))
  |none => .bad)else .bad
 |_ => .bad
abbrev cg(a:Addr)(Hf:Hp):Fc:=⟨[],[],λx=>Hf x=none,Hf,λx=>x=a,λ_ _=>False,λ_=>none⟩
structure RP (K:Fr0) (i iF:Nat) (a b:Addr) (Hf:Hp) (ρ:Env) (kvs:Kv) (σ:St) (H:Hp):Prop where
 rep:Rep K (cg a Hf) ρ σ H
 si:σ[i]? = some (some (.ref a))
 sF:σ[iF]? = some (some (.ref b))
 ha:H a=some (.dK (toV kvs))
def GA(a:Addr)(H H':Hp):Prop:=∀x o,x≠a->H x=some o->H' x=some o
theorem GA.refl{a:Addr}{H:Hp}:GA a H H:=λ_ _ _ h=>h
theorem GA.trans{a:Addr}{H H1 H2:Hp}(g:GA a H H1)(k:GA a H1 H2):GA a H H2:=λx o n h=>k x o n (g x o n h)
section
variable{K:Fr0}{i iF:Nat}{a b:Addr}{Hf:Hp}{ρ:Env}{kvs:Kv}{σ:St}{H H':Hp}
theorem RP.gr {ρ':Env} (r:RP K i iF a b Hf ρ kvs σ H) (rep:Rep K (cg a Hf) ρ' σ H') (g:Gr [] σ H H'):RP K i iF a b Hf ρ' kvs σ H' :=
 ⟨rep,r.si,r.sF,g.ext.at_ a _ (λ_ z=>by cases z) r.ha⟩
theorem qnt(g:Gr [] σ H H'):GA a H H':=λx o _ h=>g.ext.at_ x o (λ_ z=>by cases z) h
theorem RP.set {j:Nat} {d:D} {v:V} (r:RP K i iF a b Hf ρ kvs σ H) (hi:i≠j) (hF:iF≠j) (h:Is K (Cn (cg a Hf) σ) H d v):RP K i iF a b Hf (ρ.set j (some d)) kvs (σ.set j (some v)) H :=
 ⟨r.rep.set (by simp) h,by rw[List.getElem?_set_ne hi.symm];exact r.si,by rw[List.getElem?_set_ne hF.symm];exact r.sF,r.ha⟩
theorem RP.int {j:Nat} {n:Int} (r:RP K i iF a b Hf ρ kvs σ H) (h:ρ[j]? = some (some (.int n))):σ[j]? = some (some (.int n)):=by
 obtain⟨v,h1,h2⟩:=r.rep.get (by simp) h
 cases h2
 exact h1
theorem RP.put {kvs':Kv} (r:RP K i iF a b Hf ρ kvs σ H) (hfa:Hf a≠none):RP K i iF a b Hf ρ kvs' σ (upd H a (.dK (toV kvs'))):=by
 have e1:∀x o,x≠a->H x=some o->upd H a (.dK (toV kvs')) x=some o:=λx o n h=>by rw[qv n];exact h
 have ex:Ext (Cn (cg a Hf) σ) H (upd H a (.dK (toV kvs'))):=⟨λx xs h=>e1 x _ (jp h r.ha λz=>by cases z) h,λx o u h=>e1 x _ (jp h r.ha λz=>by cases z) h,λx o hx h=>e1 x o (λz=>by subst z;exact hfa hx.1) h⟩
 refine⟨⟨r.rep.len,λj d h=>?_,λj hj=>absurd hj (by simp),λj _ _ hj=>absurd hj (by simp),r.rep.b0,λx o h n=>e1 x o n (r.rep.kp x o h n),λx h=>r.rep.dm x (uq h),λj hj=>absurd hj (by simp),λj hj=>absurd hj (by simp)⟩,r.si,r.sF,qu⟩
 obtain⟨v,h1,h2⟩:=r.rep.val j d h
 rcases h2 with⟨hj,_⟩|⟨hj,h2⟩
 ·exact absurd hj (by simp)
 ·exact⟨v,h1,.inr ⟨hj,Is.ext ex (λ_ h _=>h) h2⟩⟩
end
abbrev qnu:List V->Hp->VK->Prop:=λxs H Q=>∃a kvs,xs=[.ref a]/\H a=some (.dK kvs)/\∀p,H p=none->Q (.ref p) (upd H p (.dK kvs))
abbrev qlw:List V->Hp->VK->Prop:=λxs H Q=>∃i j,xs=[.int i,.int j]/\Q (.int (if j<i then j else i)) H
abbrev rAdd:R2:=rI0 λi j => .int (i+j)
theorem qhw {K:Fr0} {A:Addr->Prop} {H:Hp} {x y:D} {v:V} (h:Is K A H (.tup [x,y]) v):∃l u w,v=.ref l/\SqT K H l [u,w]/\Is K A H x u/\Is K A H y w:=by
 obtain⟨l,xs,rfl,t,il⟩:=h
 obtain⟨u,ys,rfl,hu,il2⟩:=il
 obtain⟨w,zs,rfl,hw,il3⟩:=il2
 cases il3
 exact⟨l,u,w,rfl,t.sq,hu,hw⟩
section
variable{X:Cx}{c:Fc}{i iF jP jF jL jT jH:Nat}{e1:Expr}{s1 s2 s3:Stmt}{g:M D}{a b:Addr}{Hf:Hp}{kvs0:Kv}
theorem qi3 {te:TE} {ρ:Env} {kvs:Kv} {σ:St} {H:Hp} {D':qe6} {x y:D} {ds:List D} {fin:Env×Kv}
  (hfa:Hf a≠none) (hfb:∃o,Hf b=some (.frz o (.dK (toV kvs0)))) (hab:b≠a)
  (n1:i≠jT) (n2:i≠jH) (n3:iF≠jT) (n4:iF≠jH)
  (we:∀ρ σ H Q,Rep X.K (cg a Hf) ρ σ H->Wp X.K (cg a Hf) σ H Q (g ρ)->te σ H Q)
  (r:RP X.K i iF a b Hf ((ρ.set jF (some x)).set jL (some y)) kvs σ H) (hg:gin kvs0 g jP jF jL jT jH (.tup [x,y]::ds) ρ kvs=some fin)
  (hD:∀ρ' kvs' σ' H',RP X.K i iF a b Hf ρ' kvs' σ' H'->GA a H H'->gin kvs0 g jP jF jL jT jH ds ρ' kvs'=some fin->D'.nx σ' H') :
  qmg (qh2 te (vA jT)) (qmg (qh2 (tOp rAdd (qiY (uM iF) (uM jP)) (uM jL)) (vA jH)) (qiZ (uM i) (uM jT) (tCB qlw (qcm (qeA (uM i) (uM jT) (uM jH)) (qcm (uM jH) qmp))))) D' σ H:=by
 unfold gin at hg
 simp only at hg
 split at hg
 ·rename_i t ρ2 he
  split at hg
  ·rename_i k l hk hl
   cases hv:qbc kvs0 k with
   |none=>rw[hv]at hg;cases hg
   | some v=>
    rw[hv]at hg
    simp only at hg
    split at hg
    ·rename_i t' h ht hh
     split at hg
     ·rename_i hsz
      refine we _ σ H _ r.rep ?_
      rw[he]
      intro v1 H1 r1 i1 g1
      cases i1
      have R1:RP X.K i iF a b Hf ρ2 kvs σ H1:=r.gr r1 g1
      have R2:=R1.set (j:=jT) (d:=.int t) (v:=.int t) n1 n3 rfl
      refine⟨.ref b,R2.sF,.int k,R2.int hk,b,.int v,rfl,?_,.int l,R2.int hl,v,l,rfl,rfl,?_⟩
      ·obtain⟨o,hb⟩:=hfb
       have hb1:H1 b=some (.frz o (.dK (toV kvs0))):=r1.kp b _ hb hab
       refine .inl ⟨toV kvs0,yaO k,.inr ⟨o,hb1⟩,rfl,?_⟩
       rw[qdJ,hv];rfl
      ·have R3:=R2.set (j:=jH) (d:=.int (v+l)) (v:=.int (v+l)) n2 n4 rfl
       have hT:=R3.int ht
       have hH:=R3.int hh
       have hIs:IsD H1 a:=.inl ⟨_,.inl R3.ha⟩
       refine⟨.ref a,R3.si,a,rfl,hIs,.int t',hT,.int h,hH,_,qiX.k (k:=yaO t') R3.ha,.int h,hH,?_⟩
       rw[qdJ]
       have eg:((qbc kvs t').map V.int).getD (.int h)=.int ((qbc kvs t').getD h):=by cases qbc kvs t'<;>rfl
       rw[eg]
       refine⟨_,_,rfl,.ref a,R3.si,.int t',hT,a,_,rfl,qnn.k (k:=yaO t') R3.ha ?_,?_⟩
       ·unfold toV;rw[lM_];exact yes hsz (by decide)
       ·rw[qlu]
        refine hD _ _ _ _ (R3.put hfa) (qnt g1 |>.trans λx o n hx=>?_) hg
        rw[qv n];exact hx
     ·cases hg
    ·cases hg
  ·cases hg
 ·cases hg
theorem qlx {ρ:Env} {kvs:Kv} {d:D} {ds:List D} {fin:Env×Kv} (h:gin kvs0 g jP jF jL jT jH (d::ds) ρ kvs=some fin):∃x y,d=.tup [x,y]:=by
 unfold gin at h
 split at h
 ·exact⟨_,_,rfl⟩
 ·cases h
theorem RP.same{K:Fr0}{ρ:Env}{kvs:Kv}{σ:St}{H H':Hp}(r:RP K i iF a b Hf ρ kvs σ H)(s:jE H H'):RP K i iF a b Hf ρ kvs σ H':=⟨r.rep.same s,r.si,r.sF,s _ _ r.ha⟩
abbrev qoP(te:TE)(i iF jP jL jT jH:Nat):TS:=qmg (qh2 te (vA jT)) (qmg (qh2 (tOp rAdd (qiY (uM iF) (uM jP)) (uM jL)) (vA jH)) (qiZ (uM i) (uM jT) (tCB qlw (qcm (qeA (uM i) (uM jT) (uM jH)) (qcm (uM jH) qmp)))))
abbrev qjV(w:TI)(te:TE)(K:Fr0)(i iF jP jF jL jT jH:Nat):TS:=qpd w (qn9 K 2 (qfX (vA jF) (qfX (vA jL) qn8))) (qoP te i iF jP jL jT jH)
theorem qly {te:TE} {w:TI} {f:M (List D)} {ρ ρ2:Env} {kvs:Kv} {σ:St} {H:Hp} {D':qe6} {ds:List D} {fin:Env×Kv}
  (hfa:Hf a≠none) (hfb:∃o,Hf b=some (.frz o (.dK (toV kvs0)))) (hab:b≠a)
  (n1:i≠jT) (n2:i≠jH) (n3:iF≠jT) (n4:iF≠jH) (n5:i≠jF) (n6:i≠jL) (n7:iF≠jF) (n8:iF≠jL)
  (we:∀ρ σ H Q,Rep X.K (cg a Hf) ρ σ H->Wp X.K (cg a Hf) σ H Q (g ρ)->te σ H Q)
  (wi:∀ρ σ H Q,Rep X.K (cg a Hf) ρ σ H->WpI X.K (cg a Hf) σ H Q (f ρ)->w σ H Q)
  (r:RP X.K i iF a b Hf ρ kvs σ H) (hf:f ρ=.ok (ds,ρ2)) (hg:gin kvs0 g jP jF jL jT jH ds ρ2 kvs=some fin)
  (hD:∀σ' H',RP X.K i iF a b Hf fin.1 fin.2 σ' H'->GA a H H'->D'.nx σ' H') :
  qjV w te X.K i iF jP jF jL jT jH D' σ H:=by
 refine wi ρ σ H _ r.rep ?_
 rw[hf]
 intro J H1 r1 iok g1
 have R1:=r.gr r1 g1
 refine⟨λn m σ' H'=>m=ds.length-n/\n<=ds.length/\∃ρ' kvs',RP X.K i iF a b Hf ρ' kvs' σ' H'/\GA a H1 H'/\gin kvs0 g jP jF jL jT jH (ds.drop n) ρ' kvs'=some fin,⟨ds.length,by simp,yaF _,ρ2,kvs,R1,.refl,by simpa using hg⟩,?_⟩
 rintro n m σ' H' ⟨rfl,hn,ρ',kvs',R',ga,hg'⟩
 have ex:Ext (CnT (cg a Hf) σ H1) H1 H':=⟨λx xs h=>ga x _ (jp h R1.ha λz=>by cases z) h,λx o u h=>ga x _ (jp h R1.ha λz=>by cases z) h,λx o hx h=>ga x o (λz=>by subst z;exact hfa hx.1.1) h⟩
 by_cases hlt:n<ds.length
 ·refine .inr ⟨iok.go H' n ds[n] ex (by simp[hlt]),λσ2 H2=>∃ρ2 kvs2,RP X.K i iF a b Hf ρ2 kvs2 σ2 H2/\GA a H1 H2/\gin kvs0 g jP jF jL jT jH (ds.drop (n+1)) ρ2 kvs2=some fin,λσ2 H2 z=>⟨ds.length-(n+1),by omega,rfl,hlt,z⟩,λx H'' y=>?_⟩
  obtain⟨sm,ix⟩:=iok.yl H' n ds[n] x H'' ex (by simp[hlt]) y
  rw[y9 hlt]at hg'
  obtain⟨p,q,ed⟩:=qlx hg'
  rw[ed]at ix hg'
  have ix2:Is X.K (Cn (cg a Hf) σ') H'' (.tup [p,q]) x:=Is.ext Ext.refl (λ_ hx _=>⟨hx.1.1,λ_ z=>by cases z⟩) ix
  obtain⟨l,u,v,rfl,hq,iu,iv⟩:=qhw ix2
  have R2:=(R'.same sm).set (j:=jF) n5 n7 iu
  have R3:=R2.set (j:=jL) n6 n8 (Is.ext Ext.refl (λ_ hx _=>⟨hx.1,λ_ z=>by cases z⟩) iv)
  refine⟨l,[u,v],rfl,hq,rfl,u,[v],rfl,v,[],rfl,rfl,?_⟩
  exact qi3 hfa hfb hab n1 n2 n3 n4 we R3 hg' λρ3 kvs3 σ3 H3 R4 ga2 hg3=>⟨ρ3,kvs3,R4,(ga.trans λx o _ h=>sm x o h).trans ga2,hg3⟩
 ·have e:n=ds.length:=by omega
  subst e
  rw[List.drop_length]at hg'
  cases hg'
  exact .inl ⟨iok.stop H' ex,hD σ' H' R' ((qnt g1).trans ga)⟩
theorem qi4 {te:TE} {w:TI} {f:M (List D)} {ρ:Env} {kvs:Kv} {σ:St} {H:Hp} {D':qe6} {fin:Env×Kv}
  (hfa:Hf a≠none) {o:Obj} (hfb:Hf b=some (.frz o (.dK (toV kvs0)))) (hab:b≠a)
  (n1:i≠jT) (n2:i≠jH) (n3:iF≠jT) (n4:iF≠jH) (n5:i≠jF) (n6:i≠jL) (n7:iF≠jF) (n8:iF≠jL) (n9:i≠jP) (n0:iF≠jP)
  (we:∀ρ σ H Q,Rep X.K (cg a Hf) ρ σ H->Wp X.K (cg a Hf) σ H Q (g ρ)->te σ H Q)
  (wi:∀ρ σ H Q,Rep X.K (cg a Hf) ρ σ H->WpI X.K (cg a Hf) σ H Q (f ρ)->w σ H Q)
  (r:RP X.K i iF a b Hf ρ kvs σ H) (hg:qfE kvs0 f g jP jF jL jT jH (kvs0.map (·.1)) ρ kvs=some fin)
  (hD:∀σ' H',RP X.K i iF a b Hf fin.1 fin.2 σ' H'->D'.nx σ' H') :
  ∃ W:Nat->Nat->St->Hp->Prop,(∃m,W 0 m σ H)/\∀n m σ H,W n m σ H ->
   ((Itd b o (toV kvs0)).stop n H/\D'.nx σ H)\/((Itd b o (toV kvs0)).go n H/\∃N:St->Hp->Prop,(∀σ' H',N σ' H'->∃m',m'<m/\W (n+1) m' σ' H')/\∀x H',(Itd b o (toV kvs0)).yld n H x H'->vA jP x σ H' λσ2 H2=>qjV w te X.K i iF jP jF jL jT jH {D' with nx:=N,ct:=N,bk:=D'.nx} σ2 H2):=by
 have hlen:(toV kvs0).length=kvs0.length:=by unfold toV;rw[lM_]
 refine⟨λn m σ' H'=>m=kvs0.length-n/\n<=kvs0.length/\∃ρ' kvs',RP X.K i iF a b Hf ρ' kvs' σ' H'/\qfE kvs0 f g jP jF jL jT jH ((kvs0.drop n).map (·.1)) ρ' kvs'=some fin,⟨kvs0.length,by simp,yaF _,ρ,kvs,r,by simpa using hg⟩,?_⟩
 rintro n m σ' H' ⟨rfl,hn,ρ',kvs',R',hg'⟩
 have hb:H' b=some (.frz o (.dK (toV kvs0))):=R'.rep.kp b _ hfb hab
 by_cases hlt:n<kvs0.length
 ·refine .inr ⟨⟨hb,by rw[hlen];exact hlt⟩,λσ2 H2=>∃ρ2 kvs2,RP X.K i iF a b Hf ρ2 kvs2 σ2 H2/\qfE kvs0 f g jP jF jL jT jH ((kvs0.drop (n+1)).map (·.1)) ρ2 kvs2=some fin,λσ2 H2 z=>⟨kvs0.length-(n+1),by omega,rfl,hlt,z⟩,λx H'' y=>?_⟩
  obtain⟨rfl,p,hp,rfl⟩:=y
  rw[y9 hlt,mC_]at hg'
  have ep:p.1=kvs0[n].1:=by
   unfold toV at hp
   rw[gM_,gG hlt]at hp
   simp at hp
   rw[<-hp]
  unfold qfE at hg'
  split at hg'
  ·rename_i k hk
   split at hg'
   ·rename_i ds ρ2 hf
    split at hg'
    ·rename_i ρ3 kvs3 hgi
     have ek:kV p.1=.int k:=by rw[ep,hk];rfl
     rw[ek]
     have R2:=R'.set (j:=jP) (d:=.int k) (v:=.int k) n9 n0 rfl
     exact qly hfa ⟨o,hfb⟩ hab n1 n2 n3 n4 n5 n6 n7 n8 we wi R2 hf hgi λσ3 H3 R3 _=>⟨ρ3,kvs3,R3,hg'⟩
    ·cases hg'
   ·cases hg'
  ·cases hg'
 ·have e:n=kvs0.length:=by omega
  subst e
  rw[List.drop_length]at hg'
  cases hg'
  exact .inl ⟨⟨hb,hlen.symm⟩,hD σ' H' R'⟩
theorem qi5 {ρ:Env} {j:Nat} {d:D} (h:qcN ρ=true) (e:ρ[j]? = some (some d)):imm d=true:=by
 unfold qcN at h
 rw[List.all_eq_true]at h
 exact h _ (ybq e)
theorem qi6 {ρ:Env} {j:Nat} {d:D} (h:((ρ.set i none).set iF none)[j]? = some (some d)):j≠i/\j≠iF/\ρ[j]? = some (some d):=by
 by_cases e1:j=iF
 ·subst e1
  by_cases hl:j<(ρ.set i none).length
  ·rw[List.getElem?_set_self hl]at h;cases h
  ·rw[List.getElem?_eq_none (by rw[lS_];omega)]at h;cases h
 ·rw [qP e1]at h
  by_cases e2:j=i
  ·subst e2
   by_cases hl:j<ρ.length
   ·rw[List.getElem?_set_self hl]at h;cases h
   ·rw[List.getElem?_eq_none (by rw[lS_];omega)]at h;cases h
  ·rw[qP e2]at h;exact⟨e2,e1,h⟩
section
variable{K:Fr0}{ρ ρ':Env}{σ σ':St}{H H':Hp}{l p:Addr}{kv kv':List (Key×V)}{o:Obj}{kvs':Kv}
abbrev hpF(H:Hp)(p l:Addr)(kv:List (Key×V))(o:Obj):Hp:=upd (upd H p (.dK kv)) l (.frz o (.dK kv))
theorem qeB {x:Addr} {u:HO} (hl:H l=some (.dK kv)) (hp:H p=none) (h:H x=some u) (n:x≠l):hpF H p l kv o x=some u:=by
 unfold hpF;rw[qv n,qv (qA h hp)];exact h
theorem qal{x:Addr}(h:hpF H p l kv o x=none):H x=none:=uq (uq h)
theorem qnv (r:Rep K c ρ σ H) (hO:c.O=[]) (hl:H l=some (.dK kv)) (hp:H p=none) (him:qcN ((ρ.set i none).set iF none)=true):Rep K (cg p (hpF H p l kv o)) ((ρ.set i none).set iF none) (σ.set i (some (.ref p))) (hpF H p l kv o) where
 len:=by simp only[lS_];exact r.len
 val:=λj d h=>by
  obtain⟨e1,e2,h1⟩:=qi6 h
  obtain⟨v,hv,iv⟩:=r.get (by rw[hO];simp) h1
  refine⟨v,by rw[qP e1];exact hv,.inr ⟨by simp,?_⟩⟩
  have i1:Is K (λ_=>False) H d v:=Is.imm (qi5 him h) iv
  exact Is.ext ⟨λx xs q=>qeB hl hp q (jp q hl λz=>by cases z),λx ob u q=>qeB hl hp q (jp q hl λz=>by cases z),λ_ _ z=>z.elim⟩ (λ_ z=>z.elim) i1
 own:=λj hj=>absurd hj (by simp)
 inj:=λj _ _ hj=>absurd hj (by simp)
 b0 := ⟨λ_ h=>h,λc' P pos e=>by
  have t:=(r.tb c' P pos e).1
  exact ⟨qeB hl hp t (jp t hl λz=>by cases z),λz=>by
   have z':P=p:=z
   subst z';rw[hp]at t;cases t⟩⟩
 kp:=λ_ _ h _=>h
 dm:=λ_ h=>h
 pO:=λj hj=>absurd hj (by simp)
 ps:=λj hj=>absurd hj (by simp)
theorem qeC (hl:H l=some (.dK kv)) (hp:H p=none) (R:Rep K (cg p (hpF H p l kv o)) ρ' σ' H') {x:Addr} {u:HO} (h:H x=some u):upd H' l (.dK kv) x=some u:=by
 by_cases e:x=l
 ·subst e;rw[qu,<-hl];exact h
 ·rw[qv e]
  exact R.kp x u (qeB hl hp h e) (qA h hp)
mutual
theorem Is.thaw {A B:Addr->Prop} (hl:H l=some (.frz o (.dK kv))) (hA:∀x,A x->x≠l/\B x):∀{d:D}{v:V},Is K A H d v->Is K B (upd H l (.dK kv)) d v
 |.non,_,h=>h
 |.bl _,_,h=>h
 |.int _,_,h=>h
 |.str _,_,h=>h
 |.tup ds,_,⟨a,xs,hv,h,r⟩=>⟨a,xs,hv,h.elim (λh => .inl (by rw[qv (jp h hl λz=>by cases z)];exact h)) .inr,IsL.thaw hl hA r⟩
 |.lst ds,_,⟨a,xs,hv,hA',h,r⟩=>⟨a,xs,hv,(hA a hA').2,by rw[qv (hA a hA').1];exact h,IsL.thaw hl hA r⟩
 |.dic kvs,_,⟨a,hv,hA',h⟩=>⟨a,hv,(hA a hA').2,by rw[qv (hA a hA').1];exact h⟩
 |.fz ns,_,⟨a,hv,h⟩=>⟨a,hv,h.elim (λ⟨o',h⟩ => .inl ⟨o',by rw[qv (jp h hl λz=>by cases z)];exact h⟩) .inr⟩
 |.exc n,_,⟨a,hv,C,hc,hk,o',vs,h,r⟩=>⟨a,hv,C,hc,hk,o',vs,by rw[qv (jp h hl λz=>by cases z)];exact h,r⟩
theorem IsL.thaw {A B:Addr->Prop} (hl:H l=some (.frz o (.dK kv))) (hA:∀x,A x->x≠l/\B x):∀{ds:List D}{xs:List V},IsL K A H ds xs->IsL K B (upd H l (.dK kv)) ds xs
 | [],_,h=>h
 |_::_,_,⟨x,ys,hx,h,r⟩=>⟨x,ys,hx,Is.thaw hl hA h,IsL.thaw hl hA r⟩
end
theorem qlz (r:Rep K c ρ σ H) (hO:c.O=[]) (hP:c.P=[]) (hl:H l=some (.dK kv)) (hp:H p=none) (R:RP K i iF p l (hpF H p l kv o) ρ' kvs' σ' H') :
  Rep K c ((ρ'.set i (some (.dic kvs'))).set iF (some (.dic kvs'))) (σ'.set iF (some (.ref p))) (upd H' l (.dK kv)) where
 len:=by simp only[lS_];exact R.rep.len
 val := λj d h=>by
  have npl:p≠l:=(qA hl hp).symm
  have hd:Is K (Cn c (σ'.set iF (some (.ref p)))) (upd H' l (.dK kv)) (.dic kvs') (.ref p):=⟨p,rfl,⟨r.b0.1 p (r.dm p hp),λk hk=>by rw[hO]at hk;cases hk⟩,by rw[qv npl];exact R.ha⟩
  by_cases e1:j=iF
  ·subst e1
   have hlt:j<(ρ'.set i (some (.dic kvs'))).length:=by
    have:=(gI_.mp h).1
    rwa [lS_]at this
   rw[List.getElem?_set_self hlt]at h
   cases h
   exact⟨.ref p,List.getElem?_set_self (by rw[<-R.rep.len];rwa [lS_]at hlt),.inr ⟨by rw[hO];simp,hd⟩⟩
  ·rw [qP e1]at h
   by_cases e2:j=i
   ·subst e2
    have hlt:j<ρ'.length:=by
     have:=(gI_.mp h).1
     rwa [lS_]at this
    rw[List.getElem?_set_self hlt]at h
    cases h
    exact⟨.ref p,by rw[qP e1];exact R.si,.inr ⟨by rw[hO];simp,hd⟩⟩
   ·rw[qP e2]at h
    obtain⟨v,hv,iv⟩:=R.rep.get (by simp) h
    refine⟨v,by rw[qP e1];exact hv,.inr ⟨by rw[hO];simp,?_⟩⟩
    have q2:H' l=some (.frz o (.dK kv)):=R.rep.kp l _ qu npl.symm
    exact Is.thaw q2 (λx hx=>⟨λz=>(by subst z;rw[qal hx.1]at hl;cases hl),r.b0.1 x (r.dm x (qal hx.1)),λk hk=>by rw[hO]at hk;cases hk⟩) iv
 own:=λj hj=>by rw[hO]at hj;cases hj
 inj:=λj _ _ hj=>by rw[hO]at hj;cases hj
 b0:=r.b0
 kp:=λx u h n=>qeC hl hp R.rep (r.kp x u h n)
 dm:=λx h=>r.dm x (qal (R.rep.dm x (uq h)))
 pO:=λj hj=>by rw[hP]at hj;cases hj
 ps:=λj hj=>by rw[hP]at hj;cases hj
end
theorem qi7 {S0 S4:Stmt} {tgP itF tg2 it:Expr} {f:M (List D)} {pos pos2:Pos} (hO:c.O=[]:=by rfl) (hP:c.P=[]:=by rfl)
  (n1:i≠jT:=by decide) (n2:i≠jH:=by decide) (n3:iF≠jT:=by decide) (n4:iF≠jH:=by decide) (n5:i≠jF:=by decide) (n6:i≠jL:=by decide) (n7:iF≠jF:=by decide) (n8:iF≠jL:=by decide) (n9:i≠jP:=by decide) (n0:iF≠jP:=by decide) (nn:i≠iF:=by decide)
  (h0:PS X S0 (qh2 (tCB qnu (qcm (uM iF) qmp)) (vA i))) (hF:PI X tgP itF (qnq (uM iF))) (hgP:PG X tgP (vA jP))
  (hg2:PG X tg2 (qn9 X.K 2 (qfX (vA jF) (qfX (vA jL) qn8)))) (hI:∀B H0 Io E S,DI X ⟨[],[],B,H0,Io,E,S⟩ tg2 it f) (hE:∀B H0 Io E S,DE X ⟨[],[],B,H0,Io,E,S⟩ e1 g)
  (b1:∀te,PE X e1 te->PS X s1 (qh2 te (vA jT))) (b2:PS X s2 (qh2 (tOp rAdd (qiY (uM iF) (uM jP)) (uM jL)) (vA jH)))
  (b3:PS X s3 (qiZ (uM i) (uM jT) (tCB qlw (qcm (qeA (uM i) (uM jT) (uM jH)) (qcm (uM jH) qmp)))))
  (h4:PS X S4 (qh2 (uM i) (vA iF))) (hp:yeJ (model X.prog X.w) X.A X.env X.xe) (hc:X.calm=true) (hs1:∀x,ybs itF X.env x=pure x:=by intro _;rfl) (hs2:∀x,ybs it X.env x=pure x:=by intro _;rfl) :
  DSs X c [S0,.For tgP itF [.For tg2 it [s1,s2,s3] [] pos2] [] pos,S4] (qhv i iF f g jP jF jL jT jH):=by
 refine⟨_,vX h0 (vX (qls (qf5 hp hc hF hgP (qbA (qf5 hp hc qnr hg2 (vX (b1 _ qns) (vX b2 (qbA b3))) hs2)) hs1)) (qbA h4)),λρ σ H D' r h=>?_⟩
 unfold qhv at h
 split at h
 ·rename_i kvs0 hρ
  by_cases hb:(qcN ((ρ.set i none).set iF none)&&decide (i<ρ.length))=true
  ·rw [if_pos hb]at h
   rw[yam]at hb
   have him:=hb.1
   have hil:i<ρ.length:=of_decide_eq_true hb.2
   split at h
   ·rename_i ρ' kvs' hgo
    have hnO:∀j,j ∉ c.O:=λj hj=>by rw[hO]at hj;cases hj
    obtain⟨v,hv,l,rfl,hB,hl⟩:=r.get (hnO _) hρ
    have hl':H l=some (.dK (toV kvs0)):=hl
    refine⟨.ref l,hv,l,toV kvs0,rfl,hl,λp hp0=>?_⟩
    have npl:l≠p:=qA hl hp0
    refine⟨l,toV kvs0,by rw[qv npl];exact hl,.ref l,by rw[qP nn.symm];exact hv,l,toV kvs0,rfl,by rw[qv npl];exact hl,λo=>?_⟩
    obtain⟨te,pe,we⟩:=hE (λx=>hpF H p l (toV kvs0) o x=none) (hpF H p l (toV kvs0) o) (λx=>x=p) (λ_ _=>False) (λ_=>none)
    obtain⟨w,pi,wi⟩:=hI (λx=>hpF H p l (toV kvs0) o x=none) (hpF H p l (toV kvs0) o) (λx=>x=p) (λ_ _=>False) (λ_=>none)
    have hfa:hpF H p l (toV kvs0) o p=some (.dK (toV kvs0)):=by unfold hpF;rw[qv npl.symm,qu]
    have hfb:hpF H p l (toV kvs0) o l=some (.frz o (.dK (toV kvs0))):=qu
    have R0:RP X.K i iF p l (hpF H p l (toV kvs0) o) ((ρ.set i none).set iF none) kvs0 (σ.set i (some (.ref p))) (hpF H p l (toV kvs0) o) :=
     ⟨qnv r hO hl' hp0 him,List.getElem?_set_self (by rw[<-r.len];exact hil),by rw[qP nn.symm];exact hv,hfa⟩
    refine qi4 (X:=X) (i:=i) (iF:=iF) (a:=p) (b:=l) (Hf:=hpF H p l (toV kvs0) o) (kvs0:=kvs0) (fin:=(ρ',kvs')) (by rw[hfa];exact λz=>by cases z) hfb npl n1 n2 n3 n4 n5 n6 n7 n8 n9 n0
     (λρ σ H Q r h=>⟨te,pe,we ρ σ H Q r h⟩) (λρ σ H Q r h=>⟨w,pi,wi ρ σ H Q r h⟩) R0 hgo λσ' H' R'=>?_
    refine⟨o,R'.rep.kp l _ hfb npl,.ref p,R'.si,?_⟩
    refine h _ _ (qlz r hO hP hl' hp0 R') ?_
    have kk:∀x u,H x=some u->upd H' l (.dK (toV kvs0)) x=some u:=λx u hx=>qeC hl' hp0 R'.rep hx
    exact⟨⟨λx xs hx=>kk x _ hx,λx ob u hx=>kk x _ hx,λx ob _ hx=>kk x _ hx⟩,λx _ _ k hk=>(by rw[hO]at hk;cases hk),λx hx=>qal (R'.rep.dm x (uq hx))⟩
   ·exact h.elim
  ·rw[if_neg hb]at h;exact h.elim
 ·exact h.elim
end
def qlA:List D->Option D
 | [.int i]=>if decide (i.natAbs.log2<1920)then some (.str (ybm i))else none
 |_=>none
theorem qfF {K:Fr0}:uP K qlA (λxs H Q=>∃i,xs=[.int i]/\i.natAbs.log2<1920/\Q (.str (ybm i)) H):=by
 intro A H xs d vs Q hn h e k
 unfold qlA at e
 split at e
 ·rename_i i
  obtain⟨v,rfl,e2⟩:=IsL.inv1 h
  cases e2
  obtain⟨e6,e7⟩:=jj e
  subst e7
  exact⟨i,rfl,of_decide_eq_true e6,k _ H (jE.refl H) rfl⟩
 ·cases e
section
variable{X:Cx}{c:Fc}{e:Expr}{pos:Pos}
def qhx (i j1 j2:Nat) (f:M D):MS:=sbnd f λd ρ=>match d,zH i ρ,ρ[j1]?,ρ[j2]? with
 |.tup [d1,d2],some ds,some (some (.int n1)),some (some (.int n2))=>(match ixN ds.length n1,ixN ds.length n2 with
  |some q1,some q2=>if(imm d1&&imm d2)=true then .ok (.nx (ρ.set i (some (.lst ((ds.set q1 d1).set q2 d2)))))else .bad
  |_,_ => .bad)
 |_,_,_,_ => .bad
theorem qlB {i j1 j2:Nat} {x y1 y2:Str} {p1 p2 p3 p4 p5 p6 pt:Pos} {kt:Nat} {f:M D} (hc:X.calm=true) (he:DE X c e f) (ho:i∈c.O:=by exact of_decide_eq_true rfl) (o1:j1 ∉ c.O:=by exact of_decide_eq_false rfl) (o2:j2 ∉ c.O:=by exact of_decide_eq_false rfl)
  (hx:PE X (.Name x p1) (uM i):=by exact pv _) (hx2:PE X (.Name x p4) (uM i):=by exact pv _) (h1:PE X (.Name y1 p2) (uM j1):=by exact pv _) (h2:PE X (.Name y2 p5) (uM j2):=by exact pv _)
  (ha1:∀v,yb3 (.Subscript (.Name x p1) (.Name y1 p2) p3) X.env v=(do
   let ov <-ybZ [v] (eval (.Name x p1) X.env)
   let iv <-ybZ [v,ov] (eval (.Name y1 p2) X.env)
   ye2 p3
   ybZ [v,ov,iv] (ye3 ov iv v)
   release [v,ov,iv] []):=by intro _;rfl)
  (ha2:∀v,yb3 (.Subscript (.Name x p4) (.Name y2 p5) p6) X.env v=(do
   let ov <-ybZ [v] (eval (.Name x p4) X.env)
   let iv <-ybZ [v,ov] (eval (.Name y2 p5) X.env)
   ye2 p6
   ybZ [v,ov,iv] (ye3 ov iv v)
   release [v,ov,iv] []):=by intro _;rfl)
  (hs:yct [.Tuple [.Subscript (.Name x p1) (.Name y1 p2) p3,.Subscript (.Name x p4) (.Name y2 p5) p6] kt pt] e pos.line X.env=pure false:=by rfl) (hw:ycu [.Tuple [.Subscript (.Name x p1) (.Name y1 p2) p3,.Subscript (.Name x p4) (.Name y2 p5) p6] kt pt] e X.env=pure none:=by rfl)
  (hq:(ybw [.Tuple [.Subscript (.Name x p1) (.Name y1 p2) p3,.Subscript (.Name x p4) (.Name y2 p5) p6] kt pt] X.env).map (·.2)=[yb3 (.Tuple [.Subscript (.Name x p1) (.Name y1 p2) p3,.Subscript (.Name x p4) (.Name y2 p5) p6] kt pt) X.env]:=by rfl) :
  DS X c (.Assign [.Tuple [.Subscript (.Name x p1) (.Name y1 p2) p3,.Subscript (.Name x p4) (.Name y2 p5) p6] kt pt] e pos) (qhx i j1 j2 f):=by
 obtain⟨t,p,w⟩:=he
 refine⟨_,qf0 p (qfY (n:=2) hc (vY (qfZ hx h1 qbG ha1) (vY (qfZ hx2 h2 qbG ha2) qdg))) hs hw hq,λρ σ H D r h=>w ρ σ H _ r (Wp.sbnd h λd ρ1 v H1 r1 i1 g1 z=>?_)⟩
 split at z
 ·rename_i d1 d2 ds n1 n2 e0 e1 e2
  split at z
  ·rename_i q1 q2 eq1 eq2
   by_cases hb:(imm d1&&imm d2)=true
   ·rw [if_pos hb]at z
    rw[yam]at hb
    obtain⟨a,u,v2,rfl,hq2,iu,iv⟩:=qhw i1
    obtain⟨l,xs,him,hl,hH,il⟩:=r1.getLO ho e0
    obtain⟨w1,hw1,iw1⟩:=r1.get o1 e1
    obtain⟨w2,hw2,iw2⟩:=r1.get o2 e2
    cases iw1
    cases iw2
    refine⟨a,[u,v2],rfl,hq2,rfl,u,[v2],rfl,.ref l,hl,.int n1,hw1,l,xs,n1,q1,rfl,rfl,hH,by rw[il.length];exact eq1,?_⟩
    have ext:Ext (Cn c σ) H1 (upd H1 l (.lst (xs.set q1 u))):=⟨λb us hb=>zh (jp hb hH (by intro z;cases z)) hb,λb o u hb=>zh (jp hb hH (by intro z;cases z)) hb,λb o hb hq=>zh (λe=>hb.2 i ho (by rw[hl,e])) hq⟩
    obtain ⟨r3,g3⟩:=r1.io (H':=upd H1 l (.lst (xs.set q1 u))) (bs:=ds.set q1 d1) ho hl (λb o hb ho=>zh hb ho) qu trivial
     (IsL.set (Is.ext ext (λ_ h _=>h) iu) q1 (IsL.ext ext (λ_ h _=>h) il)) (λb hb=>uq hb)
    have il3:IsL X.K (Cn c σ) (upd H1 l (.lst (xs.set q1 u))) (ds.set q1 d1) (xs.set q1 u):=IsL.set (Is.ext ext (λ_ h _=>h) iu) q1 (IsL.ext ext (λ_ h _=>h) il)
    have hH3:upd H1 l (.lst (xs.set q1 u)) l=some (.lst (xs.set q1 u)):=qu
    have ext2:Ext (Cn c σ) (upd H1 l (.lst (xs.set q1 u))) (upd (upd H1 l (.lst (xs.set q1 u))) l (.lst ((xs.set q1 u).set q2 v2))):=⟨λb us hb=>zh (jp hb hH3 (by intro z;cases z)) hb,λb o u hb=>zh (jp hb hH3 (by intro z;cases z)) hb,λb o hb hq=>zh (λe=>hb.2 i ho (by rw[hl,e])) hq⟩
    obtain ⟨r4,g4⟩:=r3.io (H':=upd (upd H1 l (.lst (xs.set q1 u))) l (.lst ((xs.set q1 u).set q2 v2))) (bs:=(ds.set q1 d1).set q2 d2) ho hl (λb o hb ho=>zh hb ho) qu trivial
     (IsL.set (Is.ext ext2 (λ_ h _=>h) (Is.ext ext (λ_ h _=>h) iv)) q2 (IsL.ext ext2 (λ_ h _=>h) il3)) (λb hb=>uq hb)
    refine⟨v2,[],rfl,.ref l,hl,.int n2,hw2,l,xs.set q1 u,n2,q2,rfl,rfl,hH3,by rw[lS_,il.length];exact eq2,rfl,?_⟩
    refine z σ _ ?_ (g3.trans g4).s
    rw[List.set_set]at r4
    exact r4
   ·rw[if_neg hb]at z;exact z.elim
  ·exact z.elim
 ·exact z.elim
end
section
variable{X:Cx}
theorem qhy (hc:X.calm=true):jN X (.builtin "min") (λxs H Q=>∃(p:Addr)(ns:List Int),xs=[.ref p]/\SqT X.K H p (ns.map V.int)/\ns≠[]/\Q (.int (qbs ns)) H):=by
 intro pins s σ H xs us Q I r h
 obtain⟨p,ns,rfl,hp,hne,q⟩:=h
 obtain⟨u,rfl,ru⟩:=zt.one r
 cases ru
 obtain⟨its,rv,pl,hz⟩:=I.tuple hp
 have hi:yby its ns:=vn rv
 obtain⟨zs,hx⟩:=hi.allInts.items
 have hl':s.heap.IsTuple p (ycS zs):=by rw[<-hx];exact pl
 have e1:ns=zs.toList.map (·.1):=by
  rw[<-yfB,<-hx]
  exact(show numsOf its.toArray.toList=ns from hi.numsOf).symm
 have hsz:0<zs.size:=by
  cases hzz:zs.toList with
  |nil=>rw[hzz]at e1;exact absurd e1 hne
  |cons a b=>
   have:zs.size=zs.toList.length:=by simp
   rw[this,hzz];simp
 have hlt:p<s.heap.objs.size:=by
  obtain⟨o,e,_⟩:=hl'
  exact yae e
 refine call_min_walk (ych hl' ⟨s.heap.objs.size,[s.heap.objs.size,p],[s.heap.objs.size],(ycS zs).size,λi v=>(ycS zs)[i]? = some v,_,λi j=>decide (numAt zs i<numAt zs j),rfl,Walks.tuple (show X.A.in1.handled=none from I.ok.hd hc) s.heap.objs.size p (yao hlt) (ycS zs),⟨⟨_,Heap.get?_push_size _ rfl,rfl,rfl⟩,?_⟩,?_,?_,CmpOf.ints_lt (numAt zs) (λi v hv=>yeX hv),λv h' tk hv kp=>?_⟩)
 ·obtain⟨o,e,c⟩:=hl'
  exact⟨o,Heap.get?_push_of_some _ e,c⟩
 ·intro b hb
  show b<(s.heap.push _).objs.size
  rw[ybA]
  simp only[yax,nN_,or_false]at hb
  rcases hb with hb|hb
  ·rw[hb];exact Nat.lt_succ_self _
  ·rw[hb];exact yd8 hlt
 ·unfold ycS;rw[Array.size_map];exact hsz
 ·have esz:(ycS zs).size=zs.size:=by unfold ycS;rw[Array.size_map]
  rw[esz]at hv
  obtain⟨t,rfl⟩:=yeX hv
  obtain⟨b1,b2⟩:=argBest_lt (numAt zs) (zs.size-1)
  have e2:qbs ns=numAt zs (yaL (λi j=>decide (numAt zs i<numAt zs j)) (zs.size-1)):=by
   refine qgX ?_ λn hn=>?_
   ·rw[e1]
    exact ybq (ua (by omega))
   ·rw [e1]at hn
    obtain⟨j,hj⟩:=List.mem_iff_getElem?.mp hn
    have hj2:j<zs.size:=by
     have:=(gI_.mp hj).1
     simpa using this
    rw[ua hj2]at hj
    cases hj
    exact b2 j (by omega)
  rw[<-e2]
  have hfr:H s.heap.objs.size=none:=I.hok.fresh (yad _)
  exact ⟨.int _,H,I.kept (t':=tk) (λb o e=>kp b o (by
   simp only[yax,nN_,or_false]
   exact yao (yae e)) (Heap.get?_push_of_some _ e)),⟨_,rfl⟩,q⟩
end
def qcO:List D->Option D
 | [.tup ds]=>match y7 ds with
  |some (n::ns)=>some (.int (qbs (n::ns)))
  |_=>none
 |_=>none
theorem qfG {K:Fr0}:uP K qcO (λxs H Q=>∃(p:Addr)(ns:List Int),xs=[.ref p]/\SqT K H p (ns.map V.int)/\ns≠[]/\Q (.int (qbs ns)) H):=by
 intro A H xs d vs Q hn h e k
 unfold qcO at e
 split at e
 ·rename_i ds
  obtain⟨v,rfl,a,zs,rfl,ta,il⟩:=IsL.inv1 h
  split at e
  ·rename_i n ns hi
   cases e
   rw[y8 il hi]at ta
   exact⟨a,n::ns,rfl,ta.sq,by simp,k _ H (jE.refl H) rfl⟩
  ·cases e
 ·cases e
end L2.Sk
namespace L2.Sk
namespace Law
open PySem PySem.Spec PyProof.Rows
set_option maxHeartbeats 4000000
theorem qjW(ds:List D)(r:Env):zH 0 (some (.lst ds)::r)=some ds:=rfl
theorem qjX(i:Nat)(o:Option D)(r:Env):zH (i+1) (o::r)=zH i r:=rfl
theorem ix0(a b c:D):ixD (.tup [a,b,c]) (.int 0)=some a:=rfl
theorem ix1(a b c:D):ixD (.tup [a,b,c]) (.int 1)=some b:=rfl
theorem ix2(a b c:D):ixD (.tup [a,b,c]) (.int 2)=some c:=rfl
theorem qaS(i j:Int):neB (.int i) (.int j)=some (.bl (!decide (i=j))):=rfl
theorem qaT(i j:Int):eqB (.int i) (.int j)=some (.bl (decide (i=j))):=rfl
theorem vQ(ds:List D):qcA (tyD (.tup ds)) "tuple"=true:=rfl
theorem yN(ds:List D):uk [.tup ds]=some (.int ds.length):=rfl
theorem qeD(d:D):isN d .non=some (.bl (uR d)):=rfl
theorem qhz(d:D):qpY d .non=some (.bl (!uR d)):=rfl
theorem vR(i j:Int):gtD (.int i) (.int j)=some (.bl (decide (j<i))):=rfl
theorem qaU(i j:Int):ltD (.int i) (.int j)=some (.bl (decide (i<j))):=rfl
theorem qhA(i j:Int):leD (.int i) (.int j)=some (.bl (decide (i<=j))):=rfl
local macro_rules | `(tactic| push_cast [$xs,*]) => `(tactic| simp only [uS, qbP, qpq, zW, w6, qcG, qgI, qmZ, qoy, qaH, wf, qgJ, qgK, uW, qef, qgL, qdr, qjH, qm0, qjI, qiy, qgM, qaI, qbr, qaJ, vO, qgN, qeg, qcH, yd, qcI, qgO, qjK, wj, qgP, qgQ, qdt, qgR, qgS, qjL, qaK, qm1, qdu, lC_, lN_, mC_, List.map_nil, List.replicate, List.nil_append, List.cons_append, List.append_nil, List.getElem?_cons_zero, List.getElem?_cons_succ, List.set_cons_zero, List.set_cons_succ, Nat.reduceAdd, Nat.reduceSub, Nat.sub_self, Nat.zero_add, reduceIte, Bool.not_true, Bool.not_false, Bool.false_eq_true, if_true, if_false, ite_true, ite_false, cond_true, cond_false, decide_true, decide_false, ix0, ix1, ix2, vQ, yN, qaS, qaT, qeD, qhz, vR, qaU, qhA, qjW, qjX, qek, qel, qem, qjN, qdz, qdv, $xs,*])
theorem uZ {n p:Nat} {body:MS} {ds:List D} {d:D} (h:ds.length=p) (e:∃ρ,body (uS n ds)=.ok (.rt d ρ)):dfn n p body ds=.ok d:=by
 obtain⟨ρ,e⟩:=e
 exact qkZ h e
def qaV:D->Bool
 |.int _=>true
 |_=>false
def jk:D->Bool
 |.int i=>decide (0<=i)
 |_=>false
def qhB:D->Bool
 |.int i=>decide (0<i)
 |_=>false
def vF:D->Bool
 |.tup [a,b,c]=>qhB a&&jk b&&(uR c||jk c)
 |_=>false
theorem qp6 {ds:List D} (h:ds.length=3):∃a b c,ds=[a,b,c]:=by
 match ds,h with
 | [a,b,c],_=>exact⟨a,b,c,rfl⟩
theorem qfH {ds:List D} (h:ds.length≠3):vF (.tup ds)=false:=by
 match ds,h with
 | [],_=>rfl
 | [_],_=>rfl
 | [_,_],_=>rfl
 | [a,b,c],h=>exact absurd rfl h
 |_::_::_::_::_,_=>rfl
theorem qp{p q:MS}{ρ ρ':Env}(h:p ρ=.ok (.nx ρ')):qN p q ρ=q ρ':=by rw[qjJ,h]
theorem yn{p q:MS}{ρ ρ':Env}{d:D}(h:p ρ=.ok (.rt d ρ')):qN p q ρ=.ok (.rt d ρ'):=by rw[qjJ,h]
theorem qnw {e:M D} {f:D->D}:∀(ds acc:List D)(o:Option D),(∀d∈ds,e [some d]=.ok (f d,[some d]))->acc.length+ds.length<=1000->∃ρ',zS (qm 0) (ret true) e ds acc [o]=.ok (acc++ds.map f,ρ')
 | [],acc,o,_,_=>⟨[o],by simp[zS]⟩
 |d::ds,acc,o,h,hl=>by
  have hl':acc.length+(ds.length+1)<=1000:=hl
  obtain⟨ρ',q⟩:=qnw ds (acc++[f d]) (some d) (λx hx=>h x (mM _ hx)) (by rw[lA_,yaM];omega)
  refine⟨ρ',?_⟩
  unfold zS
  simp only[qm,ybP,ret,h d mS_,ye (show acc.length+1<=1000000 by omega),if_true,q]
  simp
theorem qcP (f:D->Bool):∀ds:List D,uH (ds.map λd=>D.bl (f d))=some (ds.map f)
 | []=>rfl
 |d::ds=>by simp[uH,qcP f ds]
theorem all_map {ds:List D} {f:D->Bool}:qc8 [.lst (ds.map λd=>D.bl (f d))]=some (.bl (ds.all f)):=by
 simp only[qc8,qcP,yeP]
 congr 2
 rw[yey]
 rfl
theorem qlC {F:List D->R D} {f:D->Bool} {xs:M (List D)} {ds:List D} {ρ:Env} (hx:xs ρ=.ok (ds,ρ)) (hF:∀d∈ds,F [d]=.ok (.bl (f d))) (hl:ds.length<=1000) :
  qw qc8 (qa (z7 1 [] none xs (qm 0) (ret true) (qh F (qa (dv 0) (ret [])))) (ret [])) ρ=.ok (.bl (ds.all f),ρ):=by
 obtain⟨ρ',q⟩:=qnw (e:=qh F (qa (dv 0) (ret []))) (f:=λd=>D.bl (f d)) ds [] none (λx hm=>by push_cast [];rw[hF x hm]) (by simpa using hl)
 have q':zS (qm 0) (ret true) (qh F (qa (dv 0) (ret []))) ds [] (yE 1 [] ρ)=.ok ([]++ds.map λd=>D.bl (f d),ρ'):=q
 simp only[qaH,zW,qds,hx,q',qbP,ycf,all_map]
 rfl
def wM:D->Bool
 |.tup ds=>decide (ds.length<=12)&&ds.all vF
 |_=>false
def leI:D->D->Bool
 |.int i,.int j=>decide (i<=j)
 |_,_=>false
def qoQ (k x:D):Bool:=match k with
 |.tup [_,_,m]=>jk x&&(uR m||leI x m)
 |_=>false
def qeE:List D->List D->Bool
 |k::ks,x::xs=>qoQ k x&&qeE ks xs
 |_,_=>true
def qpF:D->D->Bool
 |.tup xs,.tup ks=>decide (xs.length=ks.length)&&qeE ks xs
 |_,_=>false
theorem qeF:∀bs:List Bool,uH (bs.map D.bl)=some bs
 | []=>rfl
 |b::bs=>by simp[uH,qeF bs]
theorem qnx {ds:List D} {i:Nat} {d:D} (h:ds[i]? = some d):ixD (.tup ds) (.int (i:Nat))=some d:=by
 have hi:i<ds.length:=(gI_.mp h).1
 show atI ds (i:Int)=some d
 unfold atI ixN
 rw[if_pos (by omega),if_pos (by omega)]
 simpa using h
theorem ut {l:M (List D)} {ρ ρ1:Env} {j:Int} (e:l ρ=.ok ([.int j],ρ1)) (h0:0<=j) (h:j<=1000000):yC l ρ=.ok (wZ 0 j.toNat,ρ1):=by
 have h1:(-(2 ^ 62)<=j):=by omega
 have h2:(j<2 ^ 62):=by omega
 have e2:qjB [.int j]=some (wZ 0 j.toNat):=by
  simp only[qjB,h1,h2,decide_true,yaR,if_true]
 have e3:yC l ρ=lift (qjB [.int j]) ρ1:=by
  show bnd l (λds=>lift (qjB ds)) ρ=_
  rw[qox,e]
 rw[e3,e2]
 rfl
theorem qhC {n m:Int} (h0:0<m) (h1:m<1606938044258990275541962092341162602522202993782792835301376):qaB [.int n,.int m]=some (.tup [.int (n/m),.int (n%m)]):=by
 simp only[qaB,qff,h0,h1,decide_true,yaR,if_true]
theorem at0 (d:D) (r:List D):atI (d::r) 0=some d:=by
 unfold atI ixN
 rw[if_pos (by omega),if_pos (by simp)]
 rfl
theorem qp7:ixN 1 0=some 0:=by decide
theorem yr(i j:Int):zb (.int i) (.int j)=some (.int (i+j)):=rfl
theorem ww(i j:Int):qbg (.int i) (.int j)=some (.int (i-j)):=rfl
theorem qhD {ds:List D} {k:Int} (h0:0<=k) (h1:k<ds.length):∃d∈ds,ixD (.lst ds) (.int k)=some d:=by
 obtain⟨i,rfl⟩:=yeH h0
 have hi:i<ds.length:=by omega
 refine⟨ds[i],ycr hi,?_⟩
 show atI ds (i:Int)=_
 unfold atI ixN
 rw[if_pos (by omega),if_pos (by omega)]
 show ds[(i:Int).toNat]? = _
 rw[yaW,gG hi]
theorem qeG(j:Nat):(wZ 0 j).length=j:=by simp[wZ]
theorem uu {i j:Int} (h:0<j):jM (.int i) (.int j)=some (.int (i%j)):=by
 simp only[jM,qfe,h,decide_true,if_true]
theorem ud {i j:Int} (h:0<j) (h1:j<1606938044258990275541962092341162602522202993782792835301376):j9 (.int i) (.int j)=some (.int (i/j)):=by
 simp only[j9,qfe,qff,h,h1,decide_true,yaR,if_true]
theorem qcQ {i j:Int} (h:jt i=true):ym (.int i) (.int j)=some (.int (i*j)):=by
 simp only[ym,qdk,h,yfY,if_true]
theorem qcR {i j:Int} (h:jt j=true):ym (.int i) (.int j)=some (.int (i*j)):=by
 simp only[ym,qdk,h,Bool.or_true,if_true]
def facts:List Int:=[48271,69621,16807,39373,30269,40014,40692,50021,61687,71993,83869,95561,30307]
structure wx (w e:Nat) (d:D):Prop where
 lv:(qM d).leavesShort 40=true
 sh:(qM d).showable=true
 wt:(qM d).weight<=w
 dp:(qM d).depth<=e
theorem wx.mono{w e w' e':Nat}{d:D}(h:wx w e d)(h1:w<=w')(h2:e<=e'):wx w' e' d:=⟨h.lv,h.sh,yay h.wt h1,yay h.dp h2⟩
theorem qbV {w e:Nat}:∀ds:List D,(∀d∈ds,wx w e d)->yff 40 (toPDs ds)=true/\yaI (toPDs ds)=true/\PyData.weightAll (toPDs ds)<=ds.length*(w+1)/\yaG (toPDs ds)<=e
 | [],_=>⟨rfl,rfl,yaF _,yaF _⟩
 |d::ds,h=>by
  obtain⟨h1,h2,h3,h4⟩:=qbV ds λx hx=>h x (mM _ hx)
  have g:=h d mS_
  have g3:=g.wt
  have g4:=g.dp
  simp only[toPDs,yff,yaI,PyData.weightAll,yaG,h1,h2,g.lv,g.sh,yaR,true_and,lC_,ycQ]
  omega
theorem uv {w e n:Nat} {ds:List D} (h:∀d∈ds,wx w e d) (hl:ds.length<=n):wx (n*(w+1)) (e+1) (.tup ds):=by
 obtain⟨h1,h2,h3,h4⟩:=qbV ds h
 refine⟨?_,?_,?_,?_⟩
 ·simp only[qM,yfZ,h1]
 ·simp only[qM,ybv,h2]
 ·simp only[qM,PyData.weight]
  exact yay h3 (yfr _ hl)
 ·simp only[qM,ybd]
  omega
theorem qi8 {w e n:Nat} {ds:List D} (h:∀d∈ds,wx w e d) (hl:ds.length<=n):wx (n*(w+1)) (e+1) (.lst ds):=by
 obtain⟨h1,h2,h3,h4⟩:=qbV ds h
 refine⟨?_,?_,?_,?_⟩
 ·simp only[qM,yfZ,h1]
 ·simp only[qM,ybv,h2]
 ·simp only[qM,PyData.weight]
  exact yay h3 (yfr _ hl)
 ·simp only[qM,ybd]
  omega
def qlD(d:D):Bool:=(qM d).leavesShort 40&&(qM d).showable&&decide ((qM d).weight<=130)&&decide ((qM d).depth<=5)
theorem wN {d:D} (h:qlD d=true):wx 130 5 d:=by
 simp only[qlD,yam,decide_eq_true_eq]at h
 exact⟨h.1.1.1,h.1.1.2,h.1.2,h.2⟩
def plain(d:D):Bool := !(qM d).hasDict&&noL d
theorem neg_int(i:Int):qkR (.int i)=some (.int (-i)):=rfl
theorem qbW {xs ys:List D} (h:xs.length+ys.length<=1000000):zb (.lst xs) (.lst ys)=some (.lst (xs++ys)):=by
 simp only[zb,ye h,if_true]
theorem qbX {xs ys:List D} (h:xs.length+ys.length<=1000000):zb (.tup xs) (.tup ys)=some (.tup (xs++ys)):=by
 simp only[zb,ye h,if_true]
def pt (p:Int):D->Int
 |.tup [.int a,.int b,_]=>if p=0 then a else b
 |_=>0
def num:D->Int
 |.int x=>x
 |_=>0
def qoR (p:Int):List D->List D->List Int
 |k::ks,x::xs=>(pt p k*num x)::qoR p ks xs
 |_,_=>[]
theorem qbY:∀ns:List Int,y7 (ns.map D.int)=some ns
 | []=>rfl
 |n::ns=>by simp[y7,qbY ns]
theorem qhE (lo:Int) (n:Nat):wZ lo (n+1)=.int lo::wZ (lo+1) n:=by
 unfold wZ
 rw[yc6,mC_,mm_]
 congr 1
 ·simp
 ·apply mL_
  intro i _
  show D.int _=D.int _
  congr 1
  show lo+((i+1:Nat):Int)=_
  omega
theorem qeH {i:Int} (h:i.natAbs<10 ^ 39):wx 130 0 (.int i):=by
 have hl:i.natAbs.log2<130:=by
  by_cases h0:i.natAbs=0
  ·rw[h0];decide
  ·refine(yc1 h0).mpr (yaw h (by decide +kernel))
 refine⟨?_,?_,?_,yad _⟩
 ·show decide ((ybO (.int i)).length<=40)=true
  refine decide_eq_true ?_
  have e:=ydv (k:=39) (by decide) h
  show(ybb (ybm i)).length<=40
  rw[ydm]
  exact e
 ·show decide (i.natAbs.log2<1920)=true
  exact decide_eq_true (by omega)
 ·show(if(i==0)=true then 0 else i.natAbs.log2+1)<=130
  split<;>omega
theorem qbx(xs:List D):v3 [.lst xs]=some (.tup xs):=rfl
theorem qhF(xs:List D):qdl [.tup xs]=some (.lst xs):=rfl
theorem qdK (x:Str):neB (.str x) (.str x)=some (.bl false):=by
 show some (D.bl (!decide (x=x)))=_
 rw[decide_eq_true rfl];rfl
theorem qoS {F:List D->R D} {f g h:M D} {ρ:Env} {a b c d:D} (hf:f ρ=.ok (a,ρ)) (hg:g ρ=.ok (b,ρ)) (hh:h ρ=.ok (c,ρ)) (e:F [a,b,c]=.ok d):qh F (qa f (qa g (qa h (ret [])))) ρ=.ok (d,ρ):=by
 have e1:qa h (ret []) ρ=.ok ([c],ρ):=by rw[zW,hh];rfl
 have e2:qa g (qa h (ret [])) ρ=.ok ([b,c],ρ):=by rw[zW,hg];dsimp only;rw[e1]
 have e3:qa f (qa g (qa h (ret []))) ρ=.ok ([a,b,c],ρ):=by rw[zW,hf];dsimp only;rw[e2]
 rw[wf,e3]
 dsimp only
 rw[e]
theorem zD {F:List D->Option D} {f:M D} {ρ:Env} {a d:D} (hf:f ρ=.ok (a,ρ)) (e:F [a]=some d):qw F (qa f (ret [])) ρ=.ok (d,ρ):=by
 have e0:qa f (ret []) ρ=.ok ([a],ρ):=by rw[zW,hf];rfl
 rw[qaH,e0]
 dsimp only
 rw[e]
theorem qi9(i j:Int):qbh [.int i,.int j]=some (.int (if j<i then j else i)):=rfl
theorem sl_tup(xs:List D)(a b:Option Int):slD (.tup xs) a b=some (.tup (qfS xs a b)):=rfl
theorem qoT:qda (.int 10) (.int 20)=some (.int 100000000000000000000):=by
 have h:qgE 10 20=true:=by decide +kernel
 have e:(10:Int) ^ (20:Int).toNat=100000000000000000000:=by decide +kernel
 simp only[qda,qfe,h,if_true,e]
theorem qlE {α:Type} {e:M D} {t:M Bool} {k f:α->D} {p:α->Bool} {r:Env}:∀(as:List α)(acc:List D)(o:Option D),(∀a∈as,t (some (k a)::r)=.ok (p a,some (k a)::r))->(∀a∈as,p a=true->e (some (k a)::r)=.ok (f a,some (k a)::r))->acc.length+as.length<=1000000 ->
  ∃o',zS (qm 0) t e (as.map k) acc (o::r)=.ok (acc++(as.filter p).map f,o'::r)
 | [],acc,o,_,_,_=>⟨o,by simp[zS]⟩
 | a::as,acc,o,ht,he,hl=>by
  have hl':acc.length+(as.length+1)<=1000000:=hl
  have h1:=ht a mS_
  rw[mC_]
  unfold zS
  simp only[qm,ybP,h1]
  cases hp:p a with
  |false=>
   obtain⟨o',q⟩:=qlE as acc (some (k a)) (λx hx=>ht x (mM _ hx)) (λx hx=>he x (mM _ hx)) (by omega)
   refine⟨o',?_⟩
   simp only[q,ft_,hp,yaP,if_false]
  |true=>
   obtain⟨o',q⟩:=qlE as (acc++[f a]) (some (k a)) (λx hx=>ht x (mM _ hx)) (λx hx=>he x (mM _ hx)) (by rw[lA_,yaM];omega)
   refine⟨o',?_⟩
   simp only[he a mS_ hp,ye (show acc.length+1<=1000000 by omega),if_true,q,ft_,hp,mC_,yd5,List.singleton_append]
theorem qny {α:Type} {e:M D} {t:M Bool} {k:α->D} {xs:M (List D)} {ρ r:Env} {fr:List Nat} (as:List α) (p:α->Bool) (f:α->D) (hx:xs ρ=.ok (as.map k,ρ)) (hr:yE 1 fr ρ=none::r) (hl:as.length<=1000000)
  (ht:∀a∈as,t (some (k a)::r)=.ok (p a,some (k a)::r)) (he:∀a∈as,p a=true->e (some (k a)::r)=.ok (f a,some (k a)::r)):z7 1 fr none xs (qm 0) t e ρ=.ok (.lst ((as.filter p).map f),ρ):=by
 obtain⟨o',q⟩:=qlE as [] none ht he (by simpa using hl)
 rw[qds,hx]
 simp only[hr,q,ycf]
 rfl
theorem qdL{α:Type}(as:List α):as.filter (λ_=>true)=as:=by simp
theorem uJ {α:Type} {e:M D} {k:α->D} {xs:M (List D)} {ρ r:Env} {fr:List Nat} (as:List α) (f:α->D) (hx:xs ρ=.ok (as.map k,ρ)) (hr:yE 1 fr ρ=none::r) (hl:as.length<=1000000)
  (he:∀a∈as,e (some (k a)::r)=.ok (f a,some (k a)::r)):z7 1 fr none xs (qm 0) (ret true) e ρ=.ok (.lst (as.map f),ρ):=by
 rw[qny as (λ_=>true) f hx hr hl (λ_ _=>rfl) λa ha _=>he a ha,qdL]
theorem ue {α β:Type} {G:D->Env->Option Env} {b:MS} {k:α->D} {step:β->α->β} {Inv:Nat->β->Env->Prop}:∀(as:List α)(n:Nat)(s:β)(ρ:Env),Inv n s ρ ->
  (∀a∈as,∀m s ρ,n<=m->m<n+as.length->Inv m s ρ->∃ρ1 ρ2,G (k a) ρ=some ρ1/\b ρ1=.ok (.nx ρ2)/\Inv (m+1) (step s a) ρ2) ->
  ∃ρ',jR G b (as.map k) ρ=.ok (.nx ρ')/\Inv (n+as.length) (as.foldl step s) ρ'
 | [],n,s,ρ,h,_=>⟨ρ,rfl,h⟩
 | a::as,n,s,ρ,h,H=>by
  obtain⟨ρ1,ρ2,h1,h2,h3⟩:=H a mS_ n s ρ (yad _) (by rw[lC_];omega) h
  obtain⟨ρ',q,w⟩:=ue as (n+1) (step s a) ρ2 h3 λx hx m s ρ m1 m2=>H x (mM _ hx) m s ρ (by omega) (by rw[lC_];omega)
  refine⟨ρ',?_,?_⟩
  ·rw[mC_]
   unfold jR
   simp only[h1,h2]
   exact q
  ·rw[lC_,show n+(as.length+1)=n+1+as.length by omega]
   exact w
theorem qae{f:M D}{ρ:Env}{a:D}(hf:f ρ=.ok (a,ρ)):qa f (ret []) ρ=.ok ([a],ρ):=by rw[zW,hf];rfl
theorem qcS{f g:M D}{ρ:Env}{a b:D}(hf:f ρ=.ok (a,ρ))(hg:g ρ=.ok (b,ρ)):qa f (qa g (ret [])) ρ=.ok ([a,b],ρ):=by rw[zW,hf];simp only[qae hg]
theorem qoU{f g h:M D}{ρ:Env}{a b c:D}(hf:f ρ=.ok (a,ρ))(hg:g ρ=.ok (b,ρ))(hh:h ρ=.ok (c,ρ)):qa f (qa g (qa h (ret []))) ρ=.ok ([a,b,c],ρ):=by rw[zW,hf];simp only[qcS hg hh]
theorem ql0{f g:M D}{ρ:Env}{a b:D}(hf:f ρ=.ok (a,ρ))(hg:g ρ=.ok (b,ρ)):jO (qa f (qa g (ret []))) ρ=.ok (.tup [a,b],ρ):=by rw[w6,qcS hf hg];simp only[lC_,lN_,ye (show 0+1+1<=1000000 by omega),if_true]
theorem qp8{f g h:M D}{ρ:Env}{a b c:D}(hf:f ρ=.ok (a,ρ))(hg:g ρ=.ok (b,ρ))(hh:h ρ=.ok (c,ρ)):jO (qa f (qa g (qa h (ret [])))) ρ=.ok (.tup [a,b,c],ρ):=by rw[w6,qoU hf hg hh];simp only[lC_,lN_,ye (show 0+1+1+1<=1000000 by omega),if_true]
theorem zJ{F:List D->R D}{f:M D}{ρ:Env}{a d:D}(hf:f ρ=.ok (a,ρ))(e:F [a]=.ok d):qh F (qa f (ret [])) ρ=.ok (d,ρ):=by rw[wf,qae hf];simp only[e]
theorem w8{F:List D->R D}{f g:M D}{ρ:Env}{a b d:D}(hf:f ρ=.ok (a,ρ))(hg:g ρ=.ok (b,ρ))(e:F [a,b]=.ok d):qh F (qa f (qa g (ret []))) ρ=.ok (d,ρ):=by rw[wf,qcS hf hg];simp only[e]
theorem qk{F:D->D->Option D}{f g:M D}{ρ:Env}{a b d:D}(hf:f ρ=.ok (a,ρ))(hg:g ρ=.ok (b,ρ))(e:F a b=some d):d2 F f g ρ=.ok (d,ρ):=by rw[qmZ,hf];simp only[hg,e]
theorem z8{f:M D}{ρ:Env}{b:Bool}(hf:f ρ=.ok (.bl b,ρ)):tst f ρ=.ok (b,ρ):=by rw[qgK,hf];rfl
theorem qfI{t:M Bool}{p q:MS}{ρ:Env}(h:t ρ=.ok (true,ρ)):sif t p q ρ=p ρ:=by rw[qgM,h];rfl
theorem qfJ{t:M Bool}{p q:MS}{ρ:Env}(h:t ρ=.ok (false,ρ)):sif t p q ρ=q ρ:=by rw[qgM,h];rfl
theorem qcT {i:Nat} {f:M D} {ρ:Env} {ds:List D} {d:D} (h:zH i ρ=some ds) (hf:f ρ=.ok (d,ρ)) (hi:imm d=true) (hl:ds.length<1000000):uL (yU i f) ρ=.ok (.nx (ρ.set i (some (.lst (ds++[d]))))):=by
 simp only[vO,qaK,h,hf,hi,ye (show ds.length+1<=1000000 by omega),yaR,if_true]
theorem yH {G:D->Env->Option Env} {b:MS} {d:D} {ds:List D} {ρ ρ1 ρ2:Env} (h1:G d ρ=some ρ1) (h2:b ρ1=.ok (.nx ρ2)):jR G b (d::ds) ρ=jR G b ds ρ2:=by
 show(match G d ρ with|none=>R.bad|some ρ1=>_)=_
 rw[h1]
 simp only[h2]
theorem io1 {F:List D->List D->R (D×List D)} {i:Nat} {f:M D} {ρ:Env} {ds ds':List D} {a d:D} (h:zH i ρ=some ds) (hf:f ρ=.ok (a,ρ)) (e:F ds [a]=.ok (d,ds')):qy F i (qa f (ret [])) ρ=.ok (d,ρ.set i (some (.lst ds'))):=by
 simp only[wj,h,qae hf,e]
def mD:Option Int->D
 |none => .non
 |some j => .int j
abbrev Kd:=Int×Int×Option Int
def kD(x:Kd):D:=.tup [.int x.1,.int x.2.1,mD x.2.2]
theorem qnz(m:Option Int):imm (mD m)=true:=by cases m<;>rfl
theorem qnA (x:Kd):imm (kD x)=true:=by
 simp only[kD,imm,immL,qnz,yaR]
theorem qbZ {α:Type} {f:α->D}:∀{as:List α},(∀a∈as,imm (f a)=true)->immL (as.map f)=true
 | [],_=>rfl
 |a::as,h=>by simp only[mC_,immL,h a mS_,qbZ λx hx=>h x (mM _ hx),yaR]
def okK(x:Kd):Prop:=0<x.1/\0<=x.2.1/\(∀j,x.2.2=some j->0<=j)
theorem qhG {x:Kd} (h:okK x):vF (kD x)=true:=by
 obtain⟨a,b,m⟩:=x
 obtain⟨h1,h2,h3⟩:=h
 have e1:qhB (.int a)=true:=decide_eq_true h1
 have e2:jk (.int b)=true:=decide_eq_true h2
 cases m with
 |none=>simp only[kD,mD,vF,e1,e2,uR,yaS,yfY]
 |some j=>
  have e3:jk (.int j)=true:=decide_eq_true (h3 j rfl)
  simp only[kD,mD,vF,e1,e2,e3,yaS,Bool.or_true]
theorem qby {ks:List Kd} (h:∀x∈ks,okK x) (hl:ks.length<=12):wM (.tup (ks.map kD))=true:=by
 have:(ks.map kD).all vF=true:=by
  rw[yey]
  exact List.all_eq_true.mpr λx hx=>qhG (h x hx)
 simp only[wM,lM_,hl,decide_true,this,yaS]
theorem yV(x:Kd):ixD (kD x) (.int 0)=some (.int x.1):=rfl
theorem qb0(x:Kd):ixD (kD x) (.int 1)=some (.int x.2.1):=rfl
theorem qoV(x:Kd):ixD (kD x) (.int 2)=some (mD x.2.2):=rfl
theorem qeI {α:Type} {ds:List α} {n:Nat} {d:α} (h:ds[n]? = some d):atI ds (n:Int)=some d:=by
 unfold atI ixN
 have hl:=(gI_.mp h).1
 rw[if_pos (by omega),if_pos (by omega)]
 show ds[(n:Int).toNat]? = _
 rw[yaW];exact h
theorem qja(lo:Int)(n:Nat):wZ lo n=(yap n).map λi=>D.int (lo+(i:Nat)):=rfl
theorem qam {α:Type} {as:List α} {f:α->Bool}:qc8 [.lst (as.map λa=>D.bl (f a))]=some (.bl (as.all f)):=by
 have:uH (as.map λa=>D.bl (f a))=some (as.map f):=by
  have:=qeF (as.map f)
  rw[mm_]at this
  exact this
 simp only[qc8,this,yeP]
 congr 2
 rw[yey]
 rfl
theorem qhH {ns:List Int}:qad (.tup (ns.map D.int))=true:=by
 have h:∀ns:List Int,ybt (toPDs (ns.map D.int))=true/\yaG (toPDs (ns.map D.int))=0:=λns=>by
  induction ns with
  |nil=>exact⟨rfl,rfl⟩
  |cons n ns ih=>exact⟨by simp only[mC_,toPDs,qM,ybt,ycp,ih.1,yaR],by simp only[mC_,toPDs,qM,yaG,ybd,ih.2];rfl⟩
 obtain⟨h1,h2⟩:=h ns
 simp only[qad,qM,ycp,ybd,h1,h2]
 rfl
theorem qjb:∀ns ms:List Int,ya4 (.tuple (toPDs (ns.map D.int))) (.tuple (toPDs (ms.map D.int)))=decide (ns=ms):=by
 have h:∀ns ms:List Int,PyData.eqvAll (toPDs (ns.map D.int)) (toPDs (ms.map D.int))=decide (ns=ms):=λns=>by
  induction ns with
  |nil=>intro ms;cases ms<;>rfl
  | cons n ns ih=>
   intro ms
   cases ms with
   |nil=>rfl
   |cons m ms=>
    simp only[mC_,toPDs,qM,PyData.eqvAll,ya4,ih ms,List.cons.injEq,Bool.decide_and]
    rfl
 intro ns ms
 simp only[ya4,h]
def kAt(ks:List Kd)(p:Nat):Kd:=(ks[p]?).getD (1,0,none)
theorem qaW {ks:List Kd} {p:Nat} (h:p<ks.length):ks[p]? = some (kAt ks p):=by
 unfold kAt
 rw[gG h]
 rfl
theorem u0{ks:List Kd}{p:Nat}(h:p<ks.length):kAt ks p∈ks:=ybq (qaW h)
theorem qeJ{ks:List Kd}{p:Nat}(h:p<ks.length):ixD (.tup (ks.map kD)) (.int (p:Nat))=some (kD (kAt ks p)):=qnx (by rw[gM_,qaW h];rfl)
theorem qoW (n:Nat):wZ 0 n=(yap n).map λi=>D.int (i:Nat):=by
 unfold wZ
 refine mL_ λi _=>?_
 rw[Int.zero_add]
theorem qjY{t u:M Bool}{ρ:Env}(h1:t ρ=.ok (false,ρ))(h2:u ρ=.ok (false,ρ)):tor t u ρ=.ok (false,ρ):=by rw[qdr,h1];exact h2
theorem qnB{t u:M Bool}{ρ:Env}(h1:t ρ=.ok (true,ρ)):tor t u ρ=.ok (true,ρ):=by rw[qdr,h1];rfl
theorem qnC{F:List D->R D}{f g h:M D}{ρ:Env}{a b c d:D}(hf:f ρ=.ok (a,ρ))(hg:g ρ=.ok (b,ρ))(hh:h ρ=.ok (c,ρ))(e:F [a,b,c]=.ok d):qh F (qa f (qa g (qa h (ret [])))) ρ=.ok (d,ρ):=qoS hf hg hh e
theorem qnD {F:List D->Option D} {f g:M D} {ρ:Env} {a b d:D} (hf:f ρ=.ok (a,ρ)) (hg:g ρ=.ok (b,ρ)) (e:F [a,b]=some d):qw F (qa f (qa g (ret []))) ρ=.ok (d,ρ):=by
 rw[qaH,qcS hf hg]
 simp only[e]
theorem qjc (xs:List D) (j:Nat) (h:j<=xs.length):qfS xs none (some (j:Int))=xs.take j:=by
 unfold qfS
 rw[HT.sIx_none,HT.sIx_nat,ydt h]
 simp
theorem yf{i:Nat}{f:M D}{ρ ρ1:Env}{d:D}(h:f ρ=.ok (d,ρ1)):zp i f ρ=.ok (.nx (ρ1.set i (some d))):=by rw[qbr,h]
theorem qaX{f:M D}{ρ ρ1:Env}{d:D}(h:f ρ=.ok (d,ρ1)):ji f ρ=.ok (.rt d ρ1):=by rw[qaI,h]
theorem qaY{f:M D}{ρ ρ1:Env}{d:D}(h:f ρ=.ok (d,ρ1)):uL f ρ=.ok (.nx ρ1):=by rw[vO,h]
end Law
end L2.Sk
namespace L2.Sk.Law
theorem qjZ:∀(n:Nat)(f:Nat->Nat),(∀i,i<=n->f i<n)->∃i j,i<j/\j<=n/\f i=f j
 |0,f,h=>absurd (h 0 (yad _)) (ycJ _)
 | n + 1,f,h=>by
  by_cases hv:∃i,i<n+1/\f i=f (n+1)
  ·obtain⟨i,hi,e⟩:=hv
   exact⟨i,n+1,hi,yad _,e⟩
  ·have ne:∀i,i<=n->f i≠f (n+1):=λi hi e=>hv ⟨i,by omega,e⟩
   obtain ⟨i,j,h1,h2,e⟩:=qjZ n (λi=>if f (n+1)<f i then f i-1 else f i) λi hi=>by
    have a:=h i (by omega)
    have b:=h (n+1) (yad _)
    have c:=ne i hi
    show(if f (n+1)<f i then f i-1 else f i)<n
    split<;>omega
   refine⟨i,j,h1,by omega,?_⟩
   have c1:=ne i (by omega)
   have c2:=ne j h2
   have e':(if f (n+1)<f i then f i-1 else f i)=(if f (n+1)<f j then f j-1 else f j):=e
   split at e'<;>split at e'<;>omega
def qoX(ws l:List Nat):Prop:=∀x∈l,x∈ws
theorem few {ws:List Nat} {a:Nat} (ha:0<a):∀(n:Nat)(l:List Nat),l.length=n->qoX ws l->∃l',qoX ws l'/\l'.length<a/\l'.sum%a=l.sum%a:=by
 intro n
 induction n using Nat.strongRecOn with
 | _ n ih=>
  intro l hl hf
  by_cases h:l.length<a
  ·exact⟨l,hf,h,rfl⟩
  ·obtain ⟨i,j,h1,h2,e⟩:=qjZ a (λi=>(l.take i).sum%a) λi _=>yba _ ha
   have hj:j<=l.length:=by omega
   let m:=l.take i++l.drop j
   have hm:m.length<n:=by
    show(l.take i++l.drop j).length<n
    rw[lA_,ybK,yb6]
    omega
   have fm:qoX ws m:=λx hx=>by
    rcases mA_.mp hx with hx|hx
    ·exact hf x (yfs hx)
    ·exact hf x (ydw hx)
   obtain⟨l',g1,g2,g3⟩:=ih m.length hm m rfl fm
   refine⟨l',g1,g2,g3.trans ?_⟩
   have s1:m.sum=(l.take i).sum+(l.drop j).sum:=List.sum_append
   have s2:l.sum=(l.take j).sum+(l.drop j).sum:=by
    rw[<-List.sum_append,List.take_append_drop]
   rw[s1,s2,Nat.add_mod,Nat.add_mod (l.take j).sum]
   have e':(l.take i).sum%a=(l.take j).sum%a:=e
   rw[e']
end L2.Sk.Law
namespace L2.Sk
namespace Law
open PySem PySem.Spec PyProof.Rows
set_option maxHeartbeats 4000000
end Law
end L2.Sk
namespace L2.Sk.Law
abbrev Kn:=Nat×Nat
def mxN:List Nat->Nat
 | []=>0
 |n::ns=>max n (mxN ns)
def qoY(ks:List Kn)(t:List Nat):Nat:=mxN ((ks.filter λk=>decide (k.1<=t.length)).map λk=>t.getD (t.length-k.1) 0+k.2)
def tab (ks:List Kn):Nat->List Nat
 |0=>[]
 |n+1=>tab ks n++[qoY ks (tab ks n)]
def W(ks:List Kn)(r:Nat):Nat:=(tab ks (r+1)).getD r 0
section
variable{ks:List Kn}(hw:∀k∈ks,1<=k.1)
include hw
end
def wS(l:List Kn):Nat:=(l.map (·.1)).sum
def vS(l:List Kn):Nat:=(l.map (·.2)).sum
theorem qaZ(k:Kn)(l:List Kn):wS (k::l)=k.1+wS l:=by simp[wS]
theorem qdM(k:Kn)(l:List Kn):vS (k::l)=k.2+vS l:=by simp[vS]
section
variable{ks:List Kn}(hw:∀k∈ks,1<=k.1)
include hw
end
def qnE(ks:List Kn)(p:Kn):Prop:=p∈ks/\∀k∈ks,k.2*p.1<=p.2*k.1
end L2.Sk.Law
namespace L2.Sk.Law
def qp9:Nat->(Nat->Nat)->Nat
 |0,_=>0
 |n+1,f=>qp9 n f+f n
structure Kw where
 w:Int
 v:Int
 m:Option Int
def okT(k:Kw)(t:Nat)(r:Int):Bool:=decide ((t:Int)*k.w<=r)&&(match k.m with|none=>true|some j=>decide ((t:Int)<=j))
def ofn(k:Kw)(r:Int):Nat:=(match k.m with|none=>r/k.w|some j=>if j<r/k.w then j else r/k.w).toNat
def qnF:List Kw->List Int->Int
 |k::ks,t::ts=>t*k.v+qnF ks ts
 |_,_=>0
end L2.Sk.Law
namespace L2.Sk.Law
def qnG:List Kw->Int->List (List Int)
 | [],_=>[[]]
 |k::ks,r=>(yap (ofn k r+1)).flatMap λt:Nat=>(qnG ks (r-(t:Int)*k.w)).map λl=>(t:Int)::l
end L2.Sk.Law
namespace L2.Sk.Law
def qdc(l:List Nat)(u:Nat×Nat):List Nat:=l.set u.1 (min (l.getD u.1 0) u.2)
theorem qdN (l:List Nat) (u:Nat×Nat) (j:Nat):(qdc l u).getD j 0=if u.1=j/\j<l.length then min (l.getD j 0) u.2 else l.getD j 0:=by
 unfold qdc
 rw[List.getD_eq_getElem?_getD,List.getElem?_set]
 by_cases h:u.1=j
 ·subst h
  by_cases hl:u.1<l.length
  ·rw[if_pos rfl,if_pos hl,if_pos ⟨rfl,hl⟩]
   rfl
  ·rw[if_pos rfl,if_neg hl,if_neg (λh=>hl h.2),List.getD_eq_getElem?_getD,List.getElem?_eq_none (by omega)]
 ·rw[if_neg h,if_neg (λhh=>h hh.1),List.getD_eq_getElem?_getD]
theorem qb1(l:List Nat)(u:Nat×Nat):(qdc l u).length=l.length:=lS_
theorem qan:∀(U:List (Nat×Nat))(l:List Nat),(U.foldl qdc l).length=l.length
 | [],l=>rfl
 |u::U,l=>by rw[fo_,qan U,qb1]
theorem qb2:∀(U:List (Nat×Nat))(l:List Nat)(j:Nat),(U.foldl qdc l).getD j 0<=l.getD j 0
 | [],l,j=>yad _
 |u::U,l,j=>by
  rw[fo_]
  refine yay (qb2 U _ j) ?_
  rw[qdN]
  split<;>omega
theorem qeK:∀(U:List (Nat×Nat))(l:List Nat)(u:Nat×Nat),u∈U->u.1<l.length->(U.foldl qdc l).getD u.1 0<=u.2
 | x::U,l,u,h,hl=>by
  rw[fo_]
  rcases List.mem_cons.mp h with rfl|h
  ·refine yay (qb2 U _ _) ?_
   rw[qdN,if_pos ⟨rfl,hl⟩]
   omega
  ·exact qeK U _ u h (by rw[qb1];exact hl)
theorem qeL:∀(U:List (Nat×Nat))(l:List Nat)(j:Nat),(U.foldl qdc l).getD j 0=l.getD j 0\/∃u∈U,u.1=j/\(U.foldl qdc l).getD j 0=u.2
 | [],l,j => .inl rfl
 | u :: U,l,j=>by
  rw[fo_]
  rcases qeL U (qdc l u) j with e|⟨x,hx,e1,e2⟩
  ·rw [e,qdN]
   split
   ·rename_i h
    by_cases hm:l.getD j 0<=u.2
    ·exact .inl (by omega)
    ·exact .inr ⟨u,mS_,h.1,by omega⟩
   ·exact .inl rfl
  ·exact .inr ⟨x,mM _ hx,e1,e2⟩
theorem qj0:∀(a b:List Nat),a.length=b.length->(∀j,a.getD j 0<=b.getD j 0)->a.sum<=b.sum
 | [],[],_,_=>yad _
 |x::a,y::b,hl,h=>by
  have h0:=h 0
  have:=qj0 a b (by simpa using hl) λj=>by simpa using h (j+1)
  rw[ydZ,ydZ]
  have h0:x<=y:=by simpa using h0
  omega
 | [],y::b,hl,_=>by simp at hl
 |x::a,[],hl,_=>by simp at hl
theorem qj1:∀(a b:List Nat),a.length=b.length->(∀j,a.getD j 0<=b.getD j 0)->(∃j,a.getD j 0<b.getD j 0)->a.sum<b.sum
 | [],[],_,_,⟨j,hj⟩=>by simp at hj
 | x::a,y::b,hl,h,⟨j,hj⟩=>by
  have h0:x<=y:=by simpa using h 0
  have hl':a.length=b.length:=by simpa using hl
  have ht:∀j,a.getD j 0<=b.getD j 0:=λj=>by simpa using h (j+1)
  rw[ydZ,ydZ]
  cases j with
  |zero=>
   have:x<y:=by simpa using hj
   have:=qj0 a b hl' ht
   omega
  |succ j=>
   have:=qj1 a b hl' ht ⟨j,by simpa using hj⟩
   omega
 | [],y::b,hl,_,_=>by simp at hl
 |x::a,[],hl,_,_=>by simp at hl
def stN(p:Kn)(ks:List Kn):List (Nat×Nat):=(1,p.2)::ks.map λk=>(k.1,k.1*p.2-k.2*p.1)
def ju(st:List (Nat×Nat))(n:List Nat):Bool:=(yap n.length).all λi=>st.all λs=>decide (n.getD ((i+s.1)%n.length) 0<=n.getD i 0+s.2)
def ql1(st:List (Nat×Nat))(n:List Nat):List (Nat×Nat):=(yap n.length).flatMap λi=>st.map λs=>((i+s.1)%n.length,n.getD i 0+s.2)
def qeM(st:List (Nat×Nat))(n:List Nat):List Nat:=(ql1 st n).foldl qdc n
theorem vt {st:List (Nat×Nat)} {n:List Nat} (h:ju st n=true) {i:Nat} (hi:i<n.length) {s:Nat×Nat} (hs:s∈st):n.getD ((i+s.1)%n.length) 0<=n.getD i 0+s.2:=by
 have:=List.all_eq_true.mp h i (mR_.mpr hi)
 exact of_decide_eq_true (List.all_eq_true.mp this s hs)
theorem qj2 {st:List (Nat×Nat)} {n:List Nat} (h:ju st n=false):(qeM st n).sum<n.sum:=by
 have hx:∃i,i<n.length/\∃s∈st,n.getD i 0+s.2<n.getD ((i+s.1)%n.length) 0:=by
  unfold ju at h
  rw[yea]at h
  obtain⟨i,hi,h2⟩:=h
  have h2:(st.all λs=>decide (n.getD ((i+s.1)%n.length) 0<=n.getD i 0+s.2))=false:=by simpa using h2
  rw[yea]at h2
  obtain⟨s,hs,h3⟩:=h2
  have h3:¬n.getD ((i+s.1)%n.length) 0<=n.getD i 0+s.2:=by simpa using h3
  exact⟨i,mR_.mp hi,s,hs,by omega⟩
 obtain⟨i,hi,s,hs,hlt⟩:=hx
 refine qj1 _ _ (qan _ _) (λj=>qb2 _ _ j) ⟨(i+s.1)%n.length,?_⟩
 have:=qeK (ql1 st n) n ((i+s.1)%n.length,n.getD i 0+s.2) (List.mem_flatMap.mpr ⟨i,mR_.mpr hi,mP_.mpr ⟨s,hs,rfl⟩⟩) (yba _ (by omega))
 have this:((ql1 st n).foldl qdc n).getD ((i+s.1)%n.length) 0<=n.getD i 0+s.2:=this
 unfold qeM
 omega
def Rz(ks:List Kn)(p:Kn)(i x:Nat):Prop:=∃(l:List Kn)(T:Nat),(∀k∈l,k∈ks)/\wS l<=T/\T%p.1=i/\x+vS l*p.1=T*p.2
theorem qnH {ks:List Kn} {p:Kn} {i x:Nat} (h:Rz ks p i x):Rz ks p ((i+1)%p.1) (x+p.2):=by
 obtain⟨l,T,h1,h2,h3,h4⟩:=h
 refine⟨l,T+1,h1,by omega,?_,?_⟩
 ·rw[<-h3,ycj]
 ·rw[ycQ]
  omega
theorem qlF {ks:List Kn} {p:Kn} (hp:qnE ks p) {k:Kn} (hk:k∈ks) {i x:Nat} (h:Rz ks p i x):Rz ks p ((i+k.1)%p.1) (x+(k.1*p.2-k.2*p.1)):=by
 obtain⟨l,T,h1,h2,h3,h4⟩:=h
 refine⟨k::l,T+k.1,λy hy=>?_,by rw[qaZ];omega,?_,?_⟩
 ·rcases List.mem_cons.mp hy with rfl|hy
  ·exact hk
  ·exact h1 y hy
 ·rw[<-h3,ycj]
 ·have:=hp.2 k hk
  rw[yb8 p.2 k.1]at this
  rw[qdM,yc7,yc7]
  omega
structure okP (ks:List Kn) (p:Kn) (n:List Nat):Prop where
 len:n.length=p.1
 fst:n.getD 0 0=0
 rz:∀i,i<p.1->Rz ks p i (n.getD i 0)
theorem okP.start {ks:List Kn} {p:Kn} (hp:1<=p.1):okP ks p ((yap p.1).map λi=>i*p.2):=by
 refine⟨by simp,?_,λi hi=>?_⟩
 ·cases e:p.1 with
  |zero=>omega
  |succ m=>simp[yc6]
 ·refine⟨[],i,(λ_ h=>by cases h),yaF _,Nat.mod_eq_of_lt hi,?_⟩
  rw[List.getD_eq_getElem?_getD,gM_,List.getElem?_range hi]
  show i*p.2+vS []*p.1=i*p.2
  simp[vS]
theorem okP.low {ks:List Kn} {p:Kn} (hl:qnE ks p) {n:List Nat} (h:okP ks p n):okP ks p (qeM (stN p ks) n):=by
 refine⟨by unfold qeM;rw[qan];exact h.len,?_,λi hi=>?_⟩
 ·have:=qb2 (ql1 (stN p ks) n) n 0
  have h0:=h.fst
  unfold qeM
  omega
 ·rcases qeL (ql1 (stN p ks) n) n i with e|⟨u,hu,e1,e2⟩
  ·unfold qeM
   rw[e]
   exact h.rz i hi
  ·unfold qeM
   rw[e2]
   obtain⟨j,hj,hu⟩:=List.mem_flatMap.mp hu
   obtain⟨s,hs,rfl⟩:=mP_.mp hu
   have hj:=mR_.mp hj
   rw[h.len]at hj
   have rj:=h.rz j hj
   have e1:(j+s.1)%n.length=i:=e1
   rw[h.len]at e1
   subst e1
   rcases List.mem_cons.mp hs with rfl|hs
   ·exact qnH rj
   ·obtain⟨k,hk,rfl⟩:=mP_.mp hs
    exact qlF hl hk rj
theorem wy {ks:List Kn} {p:Kn} (hp:1<=p.1) (hl:qnE ks p) {n:List Nat} (h:okP ks p n) (hk:ju (stN p ks) n=true):∀(l:List Kn)(e:Nat),(∀k∈l,k∈ks)->n.getD ((wS l+e)%p.1) 0+vS l*p.1<=(wS l+e)*p.2
 | [],0,_=>by
  show n.getD ((0+0)%p.1) 0+0*p.1<=_
  rw[Nat.zero_mod,h.fst]
  simp
 | [],e+1,_=>by
  have ih:=wy hp hl h hk [] e (λ_ h=>by cases h)
  have st:=vt hk (i:=(wS []+e)%p.1) (by rw[h.len];exact yba _ (by omega)) (s:=(1,p.2)) mS_
  rw[h.len]at st
  have e1:((wS []+e)%p.1+1)%p.1=(wS []+(e+1))%p.1:=by rw[ycj];rfl
  have st:n.getD (((wS []+e)%p.1+1)%p.1) 0<=n.getD ((wS []+e)%p.1) 0+p.2:=st
  rw[e1]at st
  have e2:(wS []+(e+1))*p.2=(wS []+e)*p.2+p.2:=ycQ _ _
  omega
 | k::l,e,hm=>by
  have hkm:=hm k mS_
  have ih:=wy hp hl h hk l e (λx hx=>hm x (mM _ hx))
  have st:=vt hk (i:=(wS l+e)%p.1) (by rw[h.len];exact yba _ (by omega)) (s:=(k.1,k.1*p.2-k.2*p.1)) (mM _ (mP_.mpr ⟨k,hkm,rfl⟩))
  rw[h.len]at st
  have e1:((wS l+e)%p.1+k.1)%p.1=(wS (k::l)+e)%p.1:=by
   rw[ycj,qaZ]
   congr 1
   omega
  have st:n.getD (((wS l+e)%p.1+k.1)%p.1) 0<=n.getD ((wS l+e)%p.1) 0+(k.1*p.2-k.2*p.1):=st
  rw[e1]at st
  have hle:=hl.2 k hkm
  rw[yb8 p.2 k.1]at hle
  have e2:(wS (k::l)+e)*p.2=k.1*p.2+(wS l+e)*p.2:=by
   rw[qaZ,<-yc7]
   congr 1
   omega
  have e3:vS (k::l)*p.1=k.2*p.1+vS l*p.1:=by rw[qdM,yc7]
  omega
end L2.Sk.Law
namespace L2.Sk.Law
abbrev Tb:=List (Nat×Nat)
def gN(T:Tb)(k:Nat):Option Nat:=(T.find? λp=>decide (p.1=k)).map (·.2)
def pN(T:Tb)(k v:Nat):Tb:=if(T.any λp=>decide (p.1=k))=true then T.map (λp=>if p.1=k then(p.1,v)else p)else T++[(k,v)]
def uN(T:Tb)(u:Nat×Nat):Tb:=pN T u.1 (min ((gN T u.1).getD u.2) u.2)
theorem u6 (p:Nat×Nat) (T:Tb) (k:Nat):gN (p::T) k=if p.1=k then some p.2 else gN T k:=by
 unfold gN
 rw[List.find?_cons]
 by_cases h:p.1=k<;>simp[h]
theorem qlG {T:Tb} {k:Nat} (h:¬(T.any λp=>decide (p.1=k))=true):gN T k=none:=by
 unfold gN
 rw[List.find?_eq_none.mpr λp hp=>?_]
 ·rfl
 ·intro z
  exact h (List.any_eq_true.mpr ⟨p,hp,z⟩)
theorem qnI (T:Tb) (k v j:Nat):gN (T.map λp=>if p.1=k then(p.1,v)else p) j=if j=k/\(T.any λp=>decide (p.1=k))=true then some v else gN T j:=by
 induction T with
 |nil=>simp[gN]
 | cons p T ih=>
  rw[mC_,u6,u6,ih]
  by_cases h1:p.1=k
  ·rw [if_pos h1]
   by_cases h2:k=j
   ·subst h2;simp[h1]
   ·have:¬j=k:=λz=>h2 z.symm
    simp[h1,h2,this]
  ·rw [if_neg h1]
   by_cases h2:p.1=j
   ·have:¬j=k:=λz=>h1 (h2.trans z)
    simp[h2,this]
   ·rw[if_neg h2,if_neg h2,ydY,decide_eq_false h1,Bool.false_or]
theorem qnJ (T:Tb) (k v j:Nat):gN (T++[(k,v)]) j=match gN T j with
  |some x=>some x
  |none=>if k=j then some v else none:=by
 induction T with
 |nil=>rw[ycf,u6];rfl
 |cons p T ih=>
  rw[List.cons_append,u6,u6,ih]
  split<;>rfl
theorem qnK (T:Tb) (k v j:Nat):gN (pN T k v) j=if j=k then some v else gN T j:=by
 unfold pN
 split
 ·rename_i h
  rw[qnI]
  by_cases e:j=k<;>simp[e,h]
 ·rename_i h
  rw[qnJ]
  by_cases e:j=k
  ·subst e
   simp[qlG h]
  ·rw [if_neg e]
   cases gN T j with
   |some x=>rfl
   |none=>
    show(if k=j then some v else none)=none
    rw[if_neg λz=>e z.symm]
structure qfV (w:Nat) (T:Tb):Prop where
 nd:(T.map (·.1)).Nodup
 lt:∀p∈T,p.1<w
theorem qfV.put {w:Nat} {T:Tb} (h:qfV w T) {k:Nat} (hk:k<w) (v:Nat):qfV w (pN T k v):=by
 unfold pN
 split
 ·have e:(T.map λp=>if p.1=k then(p.1,v)else p).map (·.1)=T.map (·.1):=by
   rw[mm_]
   exact mL_ λp _=>by
    show(if p.1=k then(p.1,v)else p).1=p.1
    split<;>rfl
  refine⟨by rw[e];exact h.nd,λp hp=>?_⟩
  obtain⟨q,hq,rfl⟩:=mP_.mp hp
  have:=h.lt q hq
  split
  ·exact this
  ·exact this
 ·rename_i hn
  refine⟨?_,λp hp=>?_⟩
  ·rw[ydx,List.nodup_append]
   refine⟨h.nd,by simp,λa ha b hb=>?_⟩
   have hb':b=k:=by simpa using hb
   subst hb'
   rintro rfl
   obtain⟨q,hq,e⟩:=mP_.mp ha
   exact hn (List.any_eq_true.mpr ⟨q,hq,decide_eq_true e⟩)
  ·rcases mA_.mp hp with hp|hp
   ·exact h.lt p hp
   ·have:p=(k,v):=by simpa using hp
    subst this;exact hk
theorem qj3:∀(w:Nat)(l:List Nat),l.Nodup->(∀x∈l,x<w)->l.length<=w
 |0,l,_,h=>by
  cases l with
  |nil=>exact yad _
  |cons a l=>exact absurd (h a mS_) (by omega)
 | w+1,l,hn,h=>by
  have ih:=qj3 w (l.erase w) (hn.erase w) λx hx=>by
   have h1:=h x (List.mem_of_mem_erase hx)
   have h2:x≠w:=λz=>by subst z;exact hn.not_mem_erase hx
   omega
  have:=List.length_erase (a:=w) (l:=l)
  split at this<;>omega
theorem qfV.len {w:Nat} {T:Tb} (h:qfV w T):T.length<=w:=by
 have:=qj3 w (T.map (·.1)) h.nd λx hx=>by
  obtain⟨p,hp,rfl⟩:=mP_.mp hx
  exact h.lt p hp
 rwa [lM_]at this
theorem qhI:∀{T:Tb},(T.map (·.1)).Nodup->∀p∈T,gN T p.1=some p.2
 | q::T,h,p,hp=>by
  rw[mC_,List.nodup_cons]at h
  rw[u6]
  rcases List.mem_cons.mp hp with rfl|hp
  ·simp
  ·have:q.1≠p.1:=λz=>h.1 (by rw[z];exact mP_.mpr ⟨p,hp,rfl⟩)
   rw[if_neg this]
   exact qhI h.2 p hp
abbrev uF(U T:Tb):Tb:=U.foldl uN T
theorem qlH(T:Tb)(u:Nat×Nat)(j:Nat):gN (uN T u) j=if j=u.1 then some (min ((gN T u.1).getD u.2) u.2)else gN T j:=qnK _ _ _ _
theorem qlI:∀(U T:Tb)(j x:Nat),gN T j=some x->∃y,y<=x/\gN (uF U T) j=some y
 | [],T,j,x,h=>⟨x,yad _,h⟩
 | u :: U,T,j,x,h=>by
  have e:∃z,z<=x/\gN (uN T u) j=some z:=by
   rw[qlH]
   by_cases hj:j=u.1
   ·rw[if_pos hj]
    rw[<-hj,h]
    exact⟨_,Nat.min_le_left _ _,rfl⟩
   ·rw[if_neg hj]
    exact⟨x,yad _,h⟩
  obtain⟨z,hz,e⟩:=e
  obtain⟨y,hy,q⟩:=qlI U (uN T u) j z e
  exact⟨y,yay hy hz,q⟩
theorem qj4:∀(U T:Tb)(u:Nat×Nat),u∈U->∃y,y<=u.2/\gN (uF U T) u.1=some y
 | x::U,T,u,h=>by
  rcases List.mem_cons.mp h with rfl|h
  ·obtain⟨y,hy,q⟩:=qlI U (uN T u) u.1 (min ((gN T u.1).getD u.2) u.2) (by rw[qlH,if_pos rfl])
   exact⟨y,yay hy (Nat.min_le_right _ _),q⟩
  ·exact qj4 U (uN T x) u h
theorem qj5:∀(U T:Tb)(j y:Nat),gN (uF U T) j=some y->gN T j=some y\/(j,y)∈U
 | [],T,j,y,h => .inl h
 | u :: U,T,j,y,h=>by
  rcases qj5 U (uN T u) j y h with e|e
  ·rw [qlH]at e
   by_cases hj:j=u.1
   ·rw [if_pos hj]at e
    cases hg:gN T u.1 with
    |none=>
     rw[hg]at e
     have e':min u.2 u.2=y:=by simpa using e
     have:u=(j,y):=by rw[hj];exact yfg rfl (by show u.2=y;omega)
     exact .inr (by rw[this];exact mS_)
    | some x=>
     rw[hg]at e
     have e':min x u.2=y:=by simpa using e
     by_cases hm:x<=u.2
     ·exact .inl (by rw[hj,hg];congr 1;omega)
     ·have:u=(j,y):=by rw[hj];exact yfg rfl (by show u.2=y;omega)
      exact .inr (by rw[this];exact mS_)
   ·rw[if_neg hj]at e
    exact .inl e
  ·exact .inr (mM _ e)
theorem qlJ {w:Nat}:∀(U T:Tb),(∀u∈U,u.1<w)->qfV w T->qfV w (uF U T)
 | [],T,_,h=>h
 |u::U,T,hu,h=>qlJ U (uN T u) (λx hx=>hu x (mM _ hx)) (h.put (hu u mS_) _)
def upT(st:Tb)(w:Nat)(T:Tb):Tb:=T.flatMap λp=>st.map λs=>((p.1+s.1)%w,p.2+s.2)
def qhJ(st:Tb)(w:Nat)(T:Tb):Tb:=uF (upT st w T) T
def qa0 (st:Tb) (w:Nat):Nat->Tb
 |0=>[(0,0)]
 |L+1=>qhJ st w (qa0 st w L)
theorem qhK {st:Tb} {w:Nat} {T:Tb} {u:Nat×Nat} (h:u∈upT st w T):∃p∈T,∃s∈st,u=((p.1+s.1)%w,p.2+s.2):=by
 obtain⟨p,hp,h⟩:=List.mem_flatMap.mp h
 obtain⟨s,hs,rfl⟩:=mP_.mp h
 exact⟨p,hp,s,hs,rfl⟩
inductive Tt (st:Tb) (n:List Nat):Nat->Prop
 |zero:Tt st n 0
 |step {i:Nat} {s:Nat×Nat}:Tt st n i->i<n.length->s∈st->n.getD ((i+s.1)%n.length) 0=n.getD i 0+s.2->Tt st n ((i+s.1)%n.length)
section
variable{ks:List Kn}{p:Kn}(hp:1<=p.1)(hl:qnE ks p){n:List Nat}(h:okP ks p n)(hk:ju (stN p ks) n=true)
include hp hl h hk
theorem qlK:∀(l:List Kn)(e:Nat),(∀k∈l,k∈ks)->n.getD ((wS l+e)%p.1) 0+vS l*p.1=(wS l+e)*p.2->Tt (stN p ks) n ((wS l+e)%p.1)
 | [],0,_,_=>by
  have:(wS []+0)%p.1=0:=Nat.zero_mod _
  rw[this]
  exact .zero
 | [],e+1,hm,ht=>by
  have top:=wy hp hl h hk [] e (λ_ h=>by cases h)
  have st:=vt hk (i:=(wS []+e)%p.1) (by rw[h.len];exact yba _ (by omega)) (s:=(1,p.2)) mS_
  rw[h.len]at st
  have e1:((wS []+e)%p.1+1)%p.1=(wS []+(e+1))%p.1:=by rw[ycj];rfl
  have st:n.getD (((wS []+e)%p.1+1)%p.1) 0<=n.getD ((wS []+e)%p.1) 0+p.2:=st
  have e2:(wS []+(e+1))*p.2=(wS []+e)*p.2+p.2:=ycQ _ _
  have ih:=qlK [] e (λ_ h=>by cases h) (by rw[e1]at st;omega)
  have:=Tt.step (s:=(1,p.2)) ih (by rw[h.len];exact yba _ (by omega)) mS_ (by
   rw[h.len]
   show n.getD (((wS []+e)%p.1+1)%p.1) 0=n.getD ((wS []+e)%p.1) 0+p.2
   rw[e1]at st |-
   omega)
  rw[h.len]at this
  have this:Tt (stN p ks) n (((wS []+e)%p.1+1)%p.1):=this
  rw[e1]at this
  exact this
 | k::l,e,hm,ht=>by
  have hkm:=hm k mS_
  have hsub:∀x∈l,x∈ks:=λx hx=>hm x (mM _ hx)
  have top:=wy hp hl h hk l e hsub
  have hs:(k.1,k.1*p.2-k.2*p.1)∈stN p ks:=mM _ (mP_.mpr ⟨k,hkm,rfl⟩)
  have st:=vt hk (i:=(wS l+e)%p.1) (by rw[h.len];exact yba _ (by omega)) hs
  rw[h.len]at st
  have e1:((wS l+e)%p.1+k.1)%p.1=(wS (k::l)+e)%p.1:=by
   rw[ycj,qaZ]
   congr 1
   omega
  have st:n.getD (((wS l+e)%p.1+k.1)%p.1) 0<=n.getD ((wS l+e)%p.1) 0+(k.1*p.2-k.2*p.1):=st
  have hle:=hl.2 k hkm
  rw[yb8 p.2 k.1]at hle
  have e2:(wS (k::l)+e)*p.2=k.1*p.2+(wS l+e)*p.2:=by
   rw[qaZ,<-yc7]
   congr 1
   omega
  have e3:vS (k::l)*p.1=k.2*p.1+vS l*p.1:=by rw[qdM,yc7]
  have ih:=qlK l e hsub (by rw[e1]at st;omega)
  have:=Tt.step ih (by rw[h.len];exact yba _ (by omega)) hs (by
   rw[h.len]
   show n.getD (((wS l+e)%p.1+k.1)%p.1) 0=n.getD ((wS l+e)%p.1) 0+(k.1*p.2-k.2*p.1)
   rw[e1]at st |-
   omega)
  rw[h.len]at this
  have this:Tt (stN p ks) n (((wS l+e)%p.1+k.1)%p.1):=this
  rw[e1]at this
  exact this
theorem qhL {j:Nat} (hj:j<p.1):Tt (stN p ks) n j:=by
 obtain⟨l,T,h1,h2,h3,h4⟩:=h.rz j hj
 have:=qlK hp hl h hk l (T-wS l) h1 (by
  rw[show wS l+(T-wS l)=T by omega,h3]
  exact h4)
 rw[show wS l+(T-wS l)=T by omega,h3]at this
 exact this
end
theorem qeN {α:Type} {p q:α->Bool}:∀l:List α,(∀a∈l,p a=true->q a=true)->(∃a∈l,p a=false/\q a=true)->l.countP p<l.countP q
 | [],_,⟨a,ha,_⟩=>by cases ha
 | x::l,h,⟨a,ha,h1,h2⟩=>by
  have hm:l.countP p<=l.countP q:=yfc λa ha=>h a (mM _ ha)
  rw[ydf,ydf]
  rcases List.mem_cons.mp ha with rfl|ha
  ·rw[h1,h2]
   simp only[if_true,yaP,if_false]
   omega
  ·have ih:=qeN l (λa ha=>h a (mM _ ha)) ⟨a,ha,h1,h2⟩
   have:=h x mS_
   cases hp:p x with
   |false=>simp only[yaP,if_false];omega
   |true=>rw[this hp];simp only[if_true];omega
structure qj6 (n:List Nat) (T:Tb):Prop where
 ok:qfV n.length T
 ge:∀j y,gN T j=some y->n.getD j 0<=y
 z:gN T 0=some 0
def qcU(n:List Nat)(T:Tb)(j:Nat):Bool:=decide (gN T j=some (n.getD j 0))
section
variable{st:Tb}{n:List Nat}(hn:0<n.length)(hk:ju st n=true)(h0:n.getD 0 0=0)
include hn hk
theorem qoZ {T:Tb}:∀u∈upT st n.length T,u.1<n.length:=λu hu=>by
 obtain⟨p,_,s,_,rfl⟩:=qhK hu
 exact yba _ hn
theorem qo0 {T:Tb} (h:qj6 n T):∀j y,(j,y)∈upT st n.length T->n.getD j 0<=y:=λj y hu=>by
 obtain⟨p,hp,s,hs,e⟩:=qhK hu
 have e1:j=(p.1+s.1)%n.length:=congrArg Prod.fst e
 have e2:y=p.2+s.2:=congrArg Prod.snd e
 have g:=h.ge p.1 p.2 (qhI h.ok.nd p hp)
 have:=vt hk (h.ok.lt p hp) hs
 rw[e1,e2]
 omega
theorem qhM {T:Tb} (h:qj6 n T):∀j y,gN (qhJ st n.length T) j=some y->n.getD j 0<=y:=λj y e=>by
 rcases qj5 _ _ j y e with e|e
 ·exact h.ge j y e
 ·exact qo0 hn hk h j y e
theorem qdO {T:Tb} (h:qj6 n T) {j:Nat} (hs:qcU n T j=true):qcU n (qhJ st n.length T) j=true:=by
 obtain⟨y,hy,e⟩:=qlI (upT st n.length T) T j _ (of_decide_eq_true hs)
 have e:gN (qhJ st n.length T) j=some y:=e
 have:=qhM hn hk h j y e
 exact decide_eq_true (by rw[e];congr 1;omega)
include h0
theorem qnL {T:Tb} (h:qj6 n T):qj6 n (qhJ st n.length T):=by
 refine⟨qlJ _ _ (qoZ hn hk) h.ok,qhM hn hk h,?_⟩
 have:=qdO hn hk h (j:=0) (decide_eq_true (by rw[h.z,h0]))
 have:=of_decide_eq_true this
 rw[this,h0]
theorem qlL {T:Tb} (h:qj6 n T):∀j,Tt st n j->qcU n T j=false->∃j',j'<n.length/\qcU n T j'=false/\qcU n (qhJ st n.length T) j'=true:=λj t=>by
 induction t with
 |zero=>
  intro hs
  have:qcU n T 0=true:=decide_eq_true (by rw[h.z,h0])
  rw[this]at hs;cases hs
 | @step i s t hi hs e ih=>
  intro hu
  cases hc:qcU n T i with
  |false=>exact ih hc
  | true=>
   have g:=of_decide_eq_true hc
   obtain ⟨q,hq,hqi⟩:∃q∈T,q=(i,n.getD i 0):=by
    unfold gN at g
    cases hf:T.find? (λp=>decide (p.1=i)) with
    |none=>rw[hf]at g;cases g
    |some q=>
     rw[hf]at g
     have h1:q.1=i:=by simpa using List.find?_some hf
     exact⟨q,List.mem_of_find?_eq_some hf,yfg h1 (by simpa using g)⟩
   subst hqi
   have hm:((i+s.1)%n.length,n.getD i 0+s.2)∈upT st n.length T:=List.mem_flatMap.mpr ⟨_,hq,mP_.mpr ⟨s,hs,rfl⟩⟩
   obtain⟨y,hy,e2⟩:=qj4 (upT st n.length T) T _ hm
   have e2:gN (qhJ st n.length T) ((i+s.1)%n.length)=some y:=e2
   have hy:y<=n.getD i 0+s.2:=hy
   have:=qhM hn hk h _ y e2
   exact⟨_,yba _ hn,hu,decide_eq_true (by rw[e2];congr 1;omega)⟩
theorem qo1 (hT:∀j,j<n.length->Tt st n j):∀L,qj6 n (qa0 st n.length L)/\min (L+1) n.length<=(yap n.length).countP (qcU n (qa0 st n.length L))
 | 0 => by
  have o:qj6 n (qa0 st n.length 0):=by
   refine⟨⟨by simp[qa0],λp hp=>?_⟩,λj y e=>?_,rfl⟩
   ·have:p=(0,0):=by simpa [qa0] using hp
    subst this;exact hn
   ·unfold qa0 at e
    rw[u6]at e
    by_cases hj:(0:Nat)=j
    ·subst hj;rw[h0];exact yaF _
    ·rw[if_neg hj]at e
     cases e
  refine⟨o,?_⟩
  have:0<(yap n.length).countP (qcU n (qa0 st n.length 0)):=List.countP_pos_iff.mpr ⟨0,mR_.mpr hn,decide_eq_true (by rw[o.z,h0])⟩
  omega
 | L+1=>by
  obtain⟨o,c⟩:=qo1 hT L
  refine⟨qnL hn hk h0 o,?_⟩
  by_cases ha:∀j∈yap n.length,qcU n (qa0 st n.length L) j=true
  ·have:(yap n.length).countP (qcU n (qa0 st n.length (L+1)))=(yap n.length).length:=List.countP_eq_length.mpr λj hj=>qdO hn hk o (ha j hj)
   rw[lR_]at this
   omega
  ·have ⟨j,hj⟩:=Classical.not_forall.mp ha
   have ⟨hm,hj2⟩:=Classical.not_imp.mp hj
   obtain⟨j',h1,h2,h3⟩:=qlL hn hk h0 o j (hT j (mR_.mp hm)) (Bool.eq_false_iff.mpr hj2)
   have:=qeN (p:=qcU n (qa0 st n.length L)) (q:=qcU n (qhJ st n.length (qa0 st n.length L))) (yap n.length) (λa _ hs=>qdO hn hk o hs) ⟨j',mR_.mpr h1,h2,h3⟩
   have this:(yap n.length).countP (qcU n (qa0 st n.length L))<(yap n.length).countP (qcU n (qa0 st n.length (L+1))):=this
   omega
theorem qjd (hT:∀j,j<n.length->Tt st n j):∀j,j<n.length->gN (qa0 st n.length n.length) j=some (n.getD j 0):=λj hj=>by
 obtain⟨_,c⟩:=qo1 hn hk h0 hT n.length
 have hle:=List.countP_le_length (p:=qcU n (qa0 st n.length n.length)) (l:=yap n.length)
 rw[lR_]at hle
 have e:(yap n.length).countP (qcU n (qa0 st n.length n.length))=(yap n.length).length:=by rw[lR_];omega
 exact of_decide_eq_true (List.countP_eq_length.mp e j (mR_.mpr hj))
end
end L2.Sk.Law
namespace L2.Sk
namespace Law
open PySem PySem.Spec PyProof.Rows
def top(i:Nat):Stmt:=PySem.Challenge.pw_sackloads_k44_rest_papers.main.body.getD i (.Pass ⟨0,0,0,0⟩)
abbrev jV:Stmt:=top 38
abbrev zq:Stmt:=top 18
abbrev zK:Stmt:=top 26
abbrev jW:Stmt:=top 27
abbrev je:Stmt:=top 31
abbrev qbz:Stmt:=top 29
abbrev jq:Stmt:=top 30
abbrev yx:Stmt:=top 11
abbrev yy:Stmt:=top 12
abbrev zv:Stmt:=top 32
abbrev jX:Stmt:=top 25
abbrev jv:Stmt:=top 22
abbrev zE:Stmt:=top 21
abbrev uf:Stmt:=top 13
abbrev jY:Stmt:=top 14
abbrev jw:Stmt:=top 15
abbrev qQ:Stmt:=top 23
abbrev jx:Stmt:=top 16
abbrev qR:Stmt:=top 24
abbrev jy:Stmt:=top 33
abbrev jZ:Stmt:=top 42
abbrev jz:Stmt:=top 43
abbrev jA:Stmt:=top 39
abbrev yI:Stmt:=top 45
abbrev zN:Stmt:=top 46
abbrev ug:Stmt:=top 34
abbrev zL:Stmt:=top 35
abbrev yz:Stmt:=top 40
abbrev zw:Stmt:=top 44
abbrev zT:Stmt:=top 41
abbrev yA:Stmt:=top 37
abbrev qbj:Stmt:=top 47
structure Txt (K:yal) (mg:Str->Option Value):Prop where
 b_all:mg "all"=none
 b_bool:mg "bool"=none
 b_dict:mg "dict"=none
 b_divmod:mg "divmod"=none
 b_enumerate:mg "enumerate"=none
 b_int:mg "int"=none
 b_isinstance:mg "isinstance"=none
 b_len:mg "len"=none
 b_list:mg "list"=none
 b_max:mg "max"=none
 b_min:mg "min"=none
 b_range:mg "range"=none
 b_repr:mg "repr"=none
 b_str:mg "str"=none
 b_tuple:mg "tuple"=none
 c_KINDS_AT_MOST:∃t,mg "KINDS_AT_MOST"=some (.int 12 t)
 c_MOST:∃t,mg "MOST"=some (.int 2 t)
 c_WEIGHT:∃t,mg "WEIGHT"=some (.int 0 t)
 c_WEIGHT_AT_MOST:∃t,mg "WEIGHT_AT_MOST"=some (.int 20 t)
 c_WORTH:∃t,mg "WORTH"=some (.int 1 t)
noncomputable def uw:MS :=
  (qN (qfR (qw qaB (qa (qc9 0 (ret (.int 0))) (qa (dv 1) (ret [])))) (vK 2 (qL (qm 2) (qL (qm 3) vJ))))
  (qN (qbL 0 (ret (.int 0)) (dv 2))
  (ji (dv 3))))
noncomputable def ql:List D->List D->R (D×List D):=wH 4 2 uw
noncomputable def j4:MS :=
  (qN (zp 1 (ret (.int 1)))
  (qN (uO (jD (dv 0)) (qm 2) (zp 1 (d2 ym (dv 1) (d2 ixD (dv 2) (ret (.int 0))))))
  (ji (dv 1))))
noncomputable def jf:List D->R D:=dfn 3 1 j4
noncomputable def u7:MS :=
  (qN (zp 1 (qh jf (qa (dv 0) (ret []))))
  (qN (zp 2 (z7 1 [1] none (jD (dv 0)) (qm 0) (ret true) (jO (qa (d2 ym (d1 qkR (d2 ixD (dv 0) (ret (.int 1)))) (d2 j9 (dv 1) (d2 ixD (dv 0) (ret (.int 0))))) (qa (d2 ixD (dv 0) (ret (.int 0))) (ret []))))))
  (ji (qiE qcJ (dv 2) (qa (qw qm8 (qa (dv 2) (ret []))) (ret []))))))
noncomputable def yO:List D->R D:=dfn 3 1 u7
noncomputable def vT:MS :=
  (ji (d2 ixD (dv 0) (qh yO (qa (dv 0) (ret [])))))
noncomputable def zP:List D->R D:=dfn 1 1 vT
noncomputable def ux:MS :=
  (qN (uO (qaN (qa (dv 0) (ret []))) (vK 2 (qL (qm 2) (qL (qm 3) vJ))) (uO (jD (dv 1)) (vK 2 (qL (qm 4) (qL (qm 5) vJ))) (sif (tst (d2 gtD (d2 ixD (dv 0) (d2 jM (d2 zb (dv 2) (dv 4)) (qw uk (qa (dv 0) (ret []))))) (d2 zb (dv 3) (dv 5)))) (ji (ret (.bl false))) yq)))
  (ji (ret (.bl true))))
noncomputable def zQ:List D->R D:=dfn 6 2 ux
noncomputable def qhN:MS :=
  (ji (d2 qbg (d2 ym (d2 ixD (dv 0) (ret (.int 0))) (d2 ixD (dv 1) (ret (.int 1)))) (d2 ym (d2 ixD (dv 0) (ret (.int 1))) (d2 ixD (dv 1) (ret (.int 0))))))
noncomputable def qcV:List D->R D:=dfn 2 2 qhN
noncomputable def vU:MS :=
  (qN (zp 1 (qh zP (qa (dv 0) (ret []))))
  (ji (d2 zb (wE (qa (jO (qa (ret (.int 1)) (qa (d2 ixD (dv 1) (ret (.int 1))) (ret [])))) (ret []))) (z7 1 [1] none (jD (dv 0)) (qm 0) (ret true) (jO (qa (d2 ixD (dv 0) (ret (.int 0))) (qa (qh qcV (qa (dv 0) (qa (dv 1) (ret [])))) (ret []))))))))
noncomputable def yJ:List D->R D:=dfn 2 1 vU
noncomputable def wO:MS :=
  (ji (qkA (qdm "int" (dv 0)) (qmF (qdm "bool" (dv 0)))))
noncomputable def vv:List D->R D:=dfn 1 1 wO
noncomputable def wP:MS :=
  (ji (qkA (qh vv (qa (dv 0) (ret []))) (d2 geD (dv 0) (ret (.int 0)))))
noncomputable def zU:List D->R D:=dfn 1 1 wP
noncomputable def jI:MS :=
  (qN (sif (tor (qay (tst (qdm "tuple" (dv 0)))) (tst (d2 neB (qw uk (qa (dv 0) (ret []))) (d2 ixD (qh zP (qa (dv 1) (ret []))) (ret (.int 0)))))) (ji (ret (.bl false))) yq)
  (qN (sif (tor (qay (tst (qw qc8 (qa (z7 1 [] none (jD (dv 0)) (qm 0) (ret true) (qh zU (qa (dv 0) (ret [])))) (ret []))))) (tst (d2 neB (d2 ixD (dv 0) (ret (.int 0))) (ret (.int 0))))) (ji (ret (.bl false))) yq)
  (ji (qh zQ (qa (dv 0) (qa (qh yJ (qa (dv 1) (ret []))) (ret [])))))))
noncomputable def qY:List D->R D:=dfn 2 2 jI
noncomputable def wQ:MS :=
  (ji (qw qg0 (qa (z7 1 [] none (jD (dv 0)) (qm 0) (ret true) (d2 ixD (dv 0) (ret (.int 0)))) (ret []))))
noncomputable def uh:List D->R D:=dfn 1 1 wQ
noncomputable def yg:MS :=
  (sif (tst (d2 gtD (qh uh (qa (dv 0) (ret []))) (ret (.int 20)))) qcF yq)
noncomputable def u8:List D->R D:=dfn 1 1 yg
noncomputable def jm:MS :=
  (sif (tor (tst (d2 eqB (dv 0) (jO (ret [])))) (qay (tst (qw qc8 (qa (z7 1 [] none (jD (dv 0)) (qm 0) (ret true) (d2 isN (d2 ixD (dv 0) (ret (.int 2))) (ret .non))) (ret [])))))) qcF yq)
noncomputable def yW:List D->R D:=dfn 1 1 jm
noncomputable def qa1:MS :=
  (qN (sif (tor (qay (tst (qdm "tuple" (dv 0)))) (tst (d2 neB (qw uk (qa (dv 0) (ret []))) (ret (.int 3))))) (ji (ret (.bl false))) yq)
  (qN (sif (tor (qay (tst (qh zU (qa (d2 ixD (dv 0) (ret (.int 0))) (ret []))))) (tst (d2 eqB (d2 ixD (dv 0) (ret (.int 0))) (ret (.int 0))))) (ji (ret (.bl false))) yq)
  (ji (qkA (qh zU (qa (d2 ixD (dv 0) (ret (.int 1))) (ret []))) (dor (d2 isN (d2 ixD (dv 0) (ret (.int 2))) (ret .non)) (qh zU (qa (d2 ixD (dv 0) (ret (.int 2))) (ret []))))))))
noncomputable def u9:List D->R D:=dfn 1 1 qa1
noncomputable def wR:MS :=
  (qN (sif (tor (qay (tst (qdm "tuple" (dv 0)))) (tst (d2 gtD (qw uk (qa (dv 0) (ret []))) (ret (.int 12))))) (ji (ret (.bl false))) yq)
  (ji (qw qc8 (qa (z7 1 [] none (jD (dv 0)) (qm 0) (ret true) (qh u9 (qa (dv 0) (ret [])))) (ret [])))))
noncomputable def vw:List D->R D:=dfn 1 1 wR
noncomputable def yh:MS :=
  (sif (qay (tst (qh vw (qa (dv 0) (ret []))))) qcF yq)
noncomputable def yP:List D->R D:=dfn 1 1 yh
noncomputable def zj:MS :=
  (qN (uL (qh yP (qa (dv 0) (ret []))))
  (qN (uL (qh yW (qa (dv 0) (ret []))))
  (uL (qh u8 (qa (dv 0) (ret []))))))
noncomputable def zk:List D->R D:=dfn 1 1 zj
noncomputable def yi:MS :=
  (sif (qay (tst (qh zU (qa (dv 0) (ret []))))) qcF yq)
noncomputable def va:List D->R D:=dfn 1 1 yi
noncomputable def zl:MS :=
  (qN (uL (qh yP (qa (dv 0) (ret []))))
  (qN (uL (qh va (qa (dv 1) (ret []))))
  (uL (qh zk (qa (dv 0) (ret []))))))
noncomputable def zG:List D->R D:=dfn 2 2 zl
noncomputable def yQ:MS :=
  (qN (uL (qh zG (qa (dv 1) (qa (dv 2) (ret [])))))
  (qN (sif (qay (tst (qh qY (qa (dv 0) (qa (dv 1) (ret [])))))) (ji (ret .non)) yq)
  (qN (zp 3 (qh zP (qa (dv 1) (ret []))))
  (ji (d2 j9 (d2 qbg (d2 qdb (dv 2) (d2 ixD (dv 3) (ret (.int 1)))) (d2 ixD (dv 0) (d2 jM (dv 2) (d2 ixD (dv 3) (ret (.int 0)))))) (d2 ixD (dv 3) (ret (.int 0))))))))
noncomputable def qS:List D->R D:=dfn 4 3 yQ
noncomputable def vV:MS :=
  (qN (zp 1 (ret (.int 0)))
  (qN (uO (qiH (qa (ret (.int 1)) (qa (qw uk (qa (dv 0) (ret []))) (ret [])))) (qm 2) (qN (qkT 3 4 (qa (d2 ixD (dv 0) (dv 2)) (qa (d2 ixD (dv 0) (dv 1)) (ret []))))
  (qN (qkT 5 6 (qa (d2 ym (d2 ixD (dv 3) (ret (.int 1))) (d2 ixD (dv 4) (ret (.int 0)))) (qa (d2 ym (d2 ixD (dv 4) (ret (.int 1))) (d2 ixD (dv 3) (ret (.int 0)))) (ret []))))
  (sif (tor (tst (d2 gtD (dv 5) (dv 6))) (qlX (tst (d2 eqB (dv 5) (dv 6))) (tst (d2 ltD (d2 ixD (dv 3) (ret (.int 0))) (d2 ixD (dv 4) (ret (.int 0))))))) (zp 1 (dv 2)) yq))))
  (ji (dv 1))))
noncomputable def qV:List D->R D:=dfn 7 1 vV
noncomputable def vb:MS :=
  (qN (qfR (d2 ixD (dv 0) (qh qV (qa (dv 0) (ret [])))) (vK 3 (qL (qm 1) (qL (qm 2) (qL (qm 3) vJ)))))
  (qN (vN 4 (qmQ (qa (jO (qa (ret (.int 1)) (qa (dv 2) (ret [])))) (ret []))))
  (qN (uO (jD (dv 0)) (qm 5) (uL (yU 4 (jO (qa (d2 ixD (dv 5) (ret (.int 0))) (qa (d2 qbg (d2 ym (d2 ixD (dv 5) (ret (.int 0))) (dv 2)) (d2 ym (d2 ixD (dv 5) (ret (.int 1))) (dv 1))) (ret [])))))))
  (qir 4))))
noncomputable def qF:List D->R D:=dfn 6 1 vb
noncomputable def vc:MS :=
  (ji (qkA (qdm "int" (dv 0)) (qmF (qdm "bool" (dv 0)))))
noncomputable def z9:List D->R D:=dfn 1 1 vc
noncomputable def wz:MS :=
  (qN (zp 2 (d2 ixD (d2 ixD (dv 1) (qh qV (qa (dv 1) (ret [])))) (ret (.int 0))))
  (qN (sif (tor (qay (tst (qdm "tuple" (dv 0)))) (tor (tst (d2 neB (qw uk (qa (dv 0) (ret []))) (dv 2))) (qay (tst (qw qc8 (qa (z7 1 [] none (jD (dv 0)) (qm 0) (ret true) (qh z9 (qa (dv 0) (ret [])))) (ret []))))))) (ji (ret (.bl false))) yq)
  (qN (sif (tor (tst (d2 ltD (qw qcO (qa (dv 0) (ret []))) (ret (.int 0)))) (tst (d2 neB (d2 ixD (dv 0) (ret (.int 0))) (ret (.int 0))))) (ji (ret (.bl false))) yq)
  (qN (uO (yC (qa (dv 2) (ret []))) (qm 3) (uO (jD (qh qF (qa (dv 1) (ret [])))) (vK 2 (qL (qm 4) (qL (qm 5) vJ))) (sif (tst (d2 gtD (d2 ixD (dv 0) (d2 jM (d2 zb (dv 3) (dv 4)) (dv 2))) (d2 zb (d2 ixD (dv 0) (dv 3)) (dv 5)))) (ji (ret (.bl false))) yq)))
  (ji (ret (.bl true)))))))
noncomputable def qZ:List D->R D:=dfn 6 2 wz
noncomputable def uy:MS :=
  (qN (qfR (jO (qa (qy ql 0 (qa (qw uk (qa (dv 1) (ret []))) (ret []))) (qa (qy ql 0 (qa (qw uk (qa (dv 1) (ret []))) (ret []))) (ret [])))) (vK 2 (qL (qm 3) (qL (qm 4) vJ))))
  (qN (zp 5 (d2 ixD (dv 1) (dv 3)))
  (qN (zp 6 (z7 1 [1,3] none (jD (jO (qa (d2 zb (dv 5) (ret (.int 1))) (qa (d2 qbg (dv 5) (ret (.int 1))) (qa (ret (.int 0)) (qa (ret (.bl true)) (qa (qw qlA (qa (dv 5) (ret []))) (qa (dv 2) (qa (d2 j9 (dv 5) (ret (.int 2))) (ret [])))))))))) (qm 0) (ret true) (d2 zb (d2 zb (qha (dv 1) (ret none) (qac (dv 2))) (jO (qa (dv 0) (ret [])))) (qha (dv 1) (qac (d2 zb (dv 2) (ret (.int 1)))) (ret none)))))
  (qN (vN 7 (qfw (dv 1)))
  (qN (qhx 7 3 4 (jO (qa (qc9 7 (dv 4)) (qa (qc9 7 (dv 3)) (ret [])))))
  (qN (zp 6 (d2 zb (dv 6) (wE (qa (qbM 7) (qa (qha (dv 1) (qac (ret (.int 1))) (ret none)) (qa (d2 zb (dv 1) (jO (qa (ret (.int 0)) (ret [])))) (qa (qw qdl (qa (dv 1) (ret []))) (qa (qdD (dv 1)) (qa (qw v3 (qa (z7 1 [] none (jD (dv 1)) (qm 0) (ret true) (d2 j9 (dv 0) (ret (.int 2)))) (ret []))) (ret []))))))))))
  (ji (d2 ixD (dv 6) (qy ql 0 (qa (ret (.int 13)) (ret [])))))))))))
noncomputable def qK:List D->List D->R (D×List D):=wH 8 3 uy
noncomputable def qa2:MS :=
  (qN (vN 2 (qfw (dv 0)))
  (qN (uO (qaN (qa (dv 0) (ret []))) (vK 2 (qL (qm 3) (qL (qm 4) vJ))) (uO (jD (dv 1)) (vK 2 (qL (qm 5) (qL (qm 6) vJ))) (qN (zp 7 (d2 jM (d2 zb (dv 3) (dv 5)) (qw uk (qa (dv 0) (ret [])))))
  (qbL 2 (dv 7) (qw qbh (qa (qc9 2 (dv 7)) (qa (d2 zb (dv 4) (dv 6)) (ret []))))))))
  (qir 2)))
noncomputable def ui:List D->R D:=dfn 8 2 qa2
noncomputable def vd:MS :=
  (qN (uL (qh zk (qa (dv 0) (ret []))))
  (qN (zp 1 (qh zP (qa (dv 0) (ret []))))
  (qN (zp 2 (qh yJ (qa (dv 0) (ret []))))
  (qN (zp 3 (z7 1 [1] none (yC (qa (d2 ixD (dv 1) (ret (.int 0))) (ret []))) (qm 0) (ret true) (d2 ym (dv 0) (d2 ixD (dv 1) (ret (.int 1))))))
  (qN (qbt (qay (tst (qh zQ (qa (dv 3) (qa (dv 2) (ret [])))))) (zp 3 (qh ui (qa (dv 3) (qa (dv 2) (ret []))))))
  (ji (qw v3 (qa (dv 3) (ret [])))))))))
noncomputable def ja:List D->R D:=dfn 4 1 vd
noncomputable def vx:MS :=
  (qN (zp 1 (wE (qa (ret .non) (qa (ret (.bl true)) (qa (ret (.bl false)) (qa (d1 qkR (ret (.int 1))) (qa (ret (.int 2)) (qa (ret (.str "")) (qa (ret (.str "1")) (qa (jO (qa (ret (.int 0)) (ret []))) (qa (wE (qa (ret (.int 1)) (ret []))) (qa (ret (.dic [(.inr "a",1)])) (qa (jO (qa (d1 qkR (ret (.int 1))) (ret []))) (qa (jO (qa (ret (.bl true)) (ret []))) (qa (jO (qa (jO (qa (ret (.int 1)) (ret []))) (ret []))) (qa (jO (qa (ret .non) (ret []))) (qa (d2 qda (ret (.int 10)) (ret (.int 29))) (qa (wE (ret [])) (ret [])))))))))))))))))))
  (ji (d2 ixD (dv 1) (qy ql 0 (qa (ret (.int 16)) (ret []))))))
noncomputable def j6:List D->List D->R (D×List D):=wH 2 1 vx
noncomputable def yK:MS :=
  (qN (zp 1 (d2 ixD (d2 ixD (dv 0) (qh qV (qa (dv 0) (ret [])))) (ret (.int 0))))
  (qN (zp 2 (ret (.dic [(.inl 0,0)])))
  (qN (uO (yC (qa (dv 1) (ret []))) (qm 3) (qhv 4 2 (jD (qh qF (qa (dv 0) (ret [])))) (d2 jM (d2 zb (dv 5) (dv 6)) (dv 1)) 5 6 7 8 9))
  (ji (qw v3 (qa (z7 1 [2] none (yC (qa (dv 1) (ret []))) (qm 0) (ret true) (d2 qi2 (dv 1) (dv 0))) (ret [])))))))
noncomputable def zx:List D->R D:=dfn 10 1 yK
noncomputable def j8:MS :=
  (qN (zp 3 (qy ql 0 (qa (ret (.int 5)) (ret []))))
  (qN (vN 4 (qmQ (ret [])))
  (qN (uO (yC (qa (d2 zb (ret (.int 1)) (qy ql 0 (qa (dv 1) (ret [])))) (ret []))) (qm 5) (qN (zp 6 (d2 zb (ret (.int 1)) (qy ql 0 (qa (dv 2) (ret [])))))
  (qN (zp 7 (qy ql 0 (qa (ret (.int 12)) (ret []))))
  (qN (zp 8 (d2 ixD (wE (qa (dv 7) (qa (dv 6) (qa (d2 zb (d2 ym (ret (.int 3)) (dv 6)) (d2 jM (dv 7) (ret (.int 3)))) (qa (ret (.int 0)) (qa (d2 zb (d2 qda (ret (.int 10)) (ret (.int 20))) (dv 7)) (ret []))))))) (dv 3)))
  (uL (yU 4 (jO (qa (dv 6) (qa (dv 8) (qa (ret .non) (ret [])))))))))))
  (ji (qbM 4)))))
noncomputable def zF:List D->List D->R (D×List D):=wH 9 3 j8
noncomputable def vy:MS :=
  (qN (zp 2 (d2 zb (d2 ym (ret (.int 7919)) (dv 1)) (ret (.int 13))))
  (qN (sif (tst (d2 ltD (dv 1) (qw uk (qa (dv 0) (ret []))))) (zp 2 (d2 ixD (dv 0) (dv 1))) yq)
  (qN (sif (tst (d2 eqB (d2 jM (dv 2) (ret (.int 2))) (ret (.int 0)))) (ji (wE (qa (d2 j9 (dv 2) (ret (.int 2))) (ret [])))) yq)
  (qN (zp 3 (ret (.int 0)))
  (qN (uO (yC (qa (ret (.int 16)) (ret []))) (qm 4) (qN (zp 5 (d2 jM (d2 zb (d2 zb (d2 ym (d2 jM (dv 2) (ret (.int 2147483647))) (ret (.int 48271))) (d2 ym (ret (.int 7919)) (dv 4))) (ret (.int 1))) (ret (.int 2147483647))))
  (qN (zp 5 (d2 jM (d2 ym (dv 5) (dv 5)) (ret (.int 2147483629))))
  (zp 3 (d2 zb (d2 ym (dv 3) (ret (.int 2147483647))) (d2 jM (d2 ym (dv 5) (d2 zb (dv 5) (ret (.int 13)))) (ret (.int 2147483647))))))))
  (ji (wE (qa (dv 3) (ret [])))))))))
noncomputable def jB:List D->R D:=dfn 6 2 vy
noncomputable def qlM:MS :=
  (qN (uO (yC (qa (qw qkE (qa (ret (.int 1)) (qa (qw qbh (qa (qw uk (qa (dv 0) (ret []))) (qa (ret (.int 3)) (ret [])))) (ret [])))) (ret []))) (qm 1) (qN (vN 2 (qcD jB (qa (dv 0) (qa (dv 1) (ret [])))))
  (qN (zp 3 (qy zF 2 (qa (ret (.int 5)) (qa (ret (.int 9)) (ret [])))))
  (qN (qfR (d2 ixD (dv 3) (qh qV (qa (dv 3) (ret [])))) (vK 3 (qL (qm 4) (qL (qm 5) (qL (qm 6) vJ)))))
  (qN (zp 7 (qh zx (qa (dv 3) (ret []))))
  (qN (zp 8 (qy j6 2 (ret [])))
  (qN (sif (tst (d2 neB (qw zB (qa (qh ja (qa (dv 3) (ret []))) (ret []))) (qw zB (qa (dv 7) (ret []))))) (ji (ret (.bl false))) yq)
  (qN (zp 9 (d2 zb (wE (qa (dv 7) (qa (d2 qhn (jO (qa (ret (.int 0)) (ret []))) (dv 4)) (qa (dv 8) (qa (jO (ret [])) (ret [])))))) (z7 1 [2,7,8] (some (1,2)) (yC (qa (ret (.int 5)) (ret []))) (qm 0) (ret true) (qy qK 1 (qa (dv 2) (qa (dv 3) (ret [])))))))
  (uO (jD (wE (qa (qy ql 2 (qa (ret (.int 40)) (ret []))) (qa (d2 zb (d2 qda (ret (.int 10)) (ret (.int 28))) (qy ql 2 (qa (ret (.int 99)) (ret [])))) (qa (ret (.int 0)) (ret [])))))) (qm 10) (uO (jD (dv 9)) (qm 11) (qN (zp 12 (qw zB (qa (dv 11) (ret []))))
  (qN (zp 13 (dif (tst (qh qZ (qa (dv 11) (qa (dv 3) (ret []))))) (d2 j9 (d2 qbg (d2 qdb (dv 10) (dv 5)) (d2 ixD (dv 11) (d2 jM (dv 10) (dv 4)))) (dv 4)) (ret .non)))
  (sif (tor (tst (d2 neB (qw zB (qa (qh qS (qa (dv 11) (qa (dv 3) (qa (dv 10) (ret []))))) (ret []))) (qw zB (qa (dv 13) (ret []))))) (tst (d2 neB (qw zB (qa (dv 11) (ret []))) (dv 12)))) (ji (ret (.bl false))) yq)))))))))))))
  (ji (ret (.bl true))))
noncomputable def qdP:List D->R D:=dfn 14 1 qlM
local macro_rules | `(tactic| push_cast [$xs,*]) => `(tactic| simp only [uS, qbP, qpq, zW, w6, qcG, qgI, qmZ, qoy, qaH, wf, qgJ, qgK, uW, qef, qgL, qdr, qjH, qm0, qjI, qiy, qgM, qaI, qbr, qaJ, vO, qgN, qeg, qcH, yd, qcI, qgO, qjK, wj, qgP, qgQ, qdt, qgR, qgS, qjL, qaK, qm1, qdu, lC_, lN_, mC_, List.map_nil, List.replicate, List.nil_append, List.cons_append, List.append_nil, List.getElem?_cons_zero, List.getElem?_cons_succ, List.set_cons_zero, List.set_cons_succ, Nat.reduceAdd, Nat.reduceSub, Nat.sub_self, Nat.zero_add, reduceIte, Bool.not_true, Bool.not_false, Bool.false_eq_true, if_true, if_false, ite_true, ite_false, cond_true, cond_false, decide_true, decide_false, ix0, ix1, ix2, vQ, yN, qaS, qaT, qeD, qhz, vR, qaU, qhA, qjW, qjX, qek, qel, qem, qjN, qdz, qdv, $xs,*])
theorem qb3 (d:D):vv [d]=.ok (.bl (qaV d)):=by
 unfold vv wO
 refine uZ rfl ⟨[some d],?_⟩
 push_cast []
 cases d<;>rfl
theorem jg (d:D):zU [d]=.ok (.bl (jk d)):=by
 unfold zU wP
 refine uZ rfl ⟨[some d],?_⟩
 push_cast []
 rw[qb3]
 cases d<;>rfl
theorem qcW (d:D):u9 [d]=.ok (.bl (vF d)):=by
 unfold u9 qa1
 refine uZ rfl ⟨[some d],?_⟩
 cases d with
 | tup ds=>
  by_cases h:ds.length=3
  ·obtain ⟨a,b,c,rfl⟩:=qp6 h
   refine(qp (ρ':=[some (.tup [a,b,c])]) rfl).trans ?_
   by_cases hp:qhB a=true
   ·refine (qp (ρ':=[some (.tup [a,b,c])]) ?_).trans ?_
    ·cases a with
     |int i=>
      have h2:0<i:=of_decide_eq_true hp
      have h0:0<=i:=by omega
      have h1:¬i=0:=by omega
      push_cast [ix0,jg,jk,qaT,uW,h0,h1,decide_true,decide_false]
     |_=>exact absurd hp (by simp[qhB])
    ·push_cast [ix1,ix2,jg,qeD,vF,hp,uW,yaS]
     cases hb:jk b<;>cases hc:uR c<;>rfl
   ·refine (yn (d:=.bl false) (ρ':=[some (.tup [a,b,c])]) ?_).trans ?_
    ·cases a with
     | int i=>
      have h2:¬0<i:=λz=>hp (decide_eq_true z)
      push_cast [ix0,jg,jk,qaT,uW]
      by_cases h0:0<=i
      ·have h1:i=0:=by omega
       subst h1;rfl
      ·simp only[h0,decide_false]
       rfl
     |_=>rfl
    ·have hp':qhB a=false:=by simpa using hp
     simp only[vF,hp',ybe]
  ·refine (yn (d:=.bl false) (ρ':=[some (.tup ds)]) ?_).trans ?_
   ·push_cast []
    have h3:¬((ds.length:Int)=3):=by omega
    simp only[vQ,yN,qaS,h3,decide_false,uW]
    rfl
   ·rw[qfH h]
 |_=>rfl
theorem qb4 (d:D):vw [d]=.ok (.bl (wM d)):=by
 unfold vw wR
 refine uZ rfl ⟨[some d],?_⟩
 cases d with
 | tup ds=>
  by_cases h:ds.length<=12
  ·have h2:¬((12:Int)<(ds.length:Int)):=by omega
   refine(qp (ρ':=[some (.tup ds)]) ?_).trans ?_
   ·push_cast [vQ,yN,vR,h2,decide_false,uW]
   ·rw[qaI,qlC (F:=u9) (f:=vF) (xs:=jD (dv 0)) (ds:=ds) (ρ:=[some (.tup ds)]) rfl (λd _=>qcW d) (by omega)]
    simp only[wM,h,decide_true,yaS]
  ·have h2:((12:Int)<(ds.length:Int)):=by omega
   refine(yn (d:=.bl false) (ρ':=[some (.tup ds)]) ?_).trans ?_
   ·push_cast [vQ,yN,vR,h2,decide_true,uW]
   ·simp only[wM,h,decide_false,ybe]
 |_=>rfl
theorem ve (d:D) (h:wM d=true):yP [d]=.ok .non:=by
 have e:yh [some d]=.ok (.nx [some d]):=by
  unfold yh
  push_cast [qb4,h,uW]
 show(match yh [some d] with|.ok (.rt d _)=>R.ok d|.ok (.nx _) => .ok .non|_ => .bad)=_
 rw[e]
theorem vf (d:D):z9 [d]=.ok (.bl (qaV d)):=by
 unfold z9 vc
 refine uZ rfl ⟨[some d],?_⟩
 push_cast []
 cases d<;>rfl
theorem yX {n m:Int} (h0:0<m) (h1:m<1606938044258990275541962092341162602522202993782792835301376):ql [.int n] [.int m]=.ok (.int (n%m),[.int (n/m)]):=by
 unfold ql
 refine qeh (ρ:=[some (.lst [.int (n/m)]),some (.int m),some (.int (n/m)),some (.int (n%m))]) rfl ?_ rfl
 unfold uw
 refine(qp (ρ':=[some (.lst [.int n]),some (.int m),some (.int (n/m)),some (.int (n%m))]) ?_).trans ?_
 ·push_cast [at0,qhC h0 h1,vK,qL,qm,vJ,Option.bind_some]
 ·refine(qp (ρ':=[some (.lst [.int (n/m)]),some (.int m),some (.int (n/m)),some (.int (n%m))]) ?_).trans rfl
  push_cast [qp7,imm]
theorem qeO {i:Int} (h0:0<=i) (h1:i<3000000000):jt i=true:=by
 unfold jt
 rw[yam,decide_eq_true_eq,decide_eq_true_eq]
 constructor<;>omega
theorem qeP (A B:Option D) (x:Int):∀(ds:List D)(s:Int)(o o':Option D),(∀d∈ds,∃j:Int,d=.int j)->∃s' o1 o2,jR (qm 4) (qN (zp 5 (d2 jM (d2 zb (d2 zb (d2 ym (d2 jM (dv 2) (ret (.int 2147483647))) (ret (.int 48271))) (d2 ym (ret (.int 7919)) (dv 4))) (ret (.int 1))) (ret (.int 2147483647)))) (qN (zp 5 (d2 jM (d2 ym (dv 5) (dv 5)) (ret (.int 2147483629)))) (zp 3 (d2 zb (d2 ym (dv 3) (ret (.int 2147483647))) (d2 jM (d2 ym (dv 5) (d2 zb (dv 5) (ret (.int 13)))) (ret (.int 2147483647))))))) ds [A,B,some (.int x),some (.int s),o,o']=.ok (.nx [A,B,some (.int x),some (.int s'),o1,o2])
 | [],s,o,o',_=>⟨s,o,o',rfl⟩
 | d::ds,s,o,o',h=>by
  obtain⟨j,rfl⟩:=h d mS_
  let p:Int:=(x%2147483647*48271+7919*j+1)%2147483647
  let q:Int:=p*p%2147483629
  have f48:jt 48271=true:=by decide
  have f79:jt 7919=true:=by decide
  have f21:jt 2147483647=true:=by decide
  have fp:jt p=true:=qeO (yck _ (by omega)) (by have:=ybB (x%2147483647*48271+7919*j+1) (show(0:Int)<2147483647 by omega);simp only[p];omega)
  have fq:jt q=true:=qeO (yck _ (by omega)) (by have:=ybB (p*p) (show(0:Int)<2147483629 by omega);simp only[q];omega)
  obtain⟨s',o1,o2,e⟩:=qeP A B x ds (s*2147483647+q*(q+13)%2147483647) (some (.int j)) (some (.int q)) λy hy=>h y (mM _ hy)
  refine⟨s',o1,o2,?_⟩
  have st:(qN (zp 5 (d2 jM (d2 zb (d2 zb (d2 ym (d2 jM (dv 2) (ret (.int 2147483647))) (ret (.int 48271))) (d2 ym (ret (.int 7919)) (dv 4))) (ret (.int 1))) (ret (.int 2147483647)))) (qN (zp 5 (d2 jM (d2 ym (dv 5) (dv 5)) (ret (.int 2147483629)))) (zp 3 (d2 zb (d2 ym (dv 3) (ret (.int 2147483647))) (d2 jM (d2 ym (dv 5) (d2 zb (dv 5) (ret (.int 13)))) (ret (.int 2147483647))))))) [A,B,some (.int x),some (.int s),some (.int j),o']=.ok (.nx [A,B,some (.int x),some (.int (s*2147483647+q*(q+13)%2147483647)),some (.int j),some (.int q)]):=by
   refine(qp (ρ':=[A,B,some (.int x),some (.int s),some (.int j),some (.int p)]) ?_).trans ?_
   ·push_cast [uu (j:=2147483647) (by decide),qcR f48,qcQ f79,yr,p]
   refine(qp (ρ':=[A,B,some (.int x),some (.int s),some (.int j),some (.int q)]) ?_).trans ?_
   ·push_cast [qcQ fp,uu (j:=2147483629) (by decide),q]
   ·push_cast [qcR f21,yr,qcQ fq,uu (j:=2147483647) (by decide)]
  unfold jR
  simp only[qm,ybP,ydQ,st]
  exact e
theorem qnM (ns:List Int) (i:Int) (h0:0<=i):∃n,jB [.fz ns,.int i]=.ok (.lst [.int n]):=by
 have f79:jt 7919=true:=by decide
 have s1:∃x,(sif (tst (d2 ltD (dv 1) (qw uk (qa (dv 0) (ret []))))) (zp 2 (d2 ixD (dv 0) (dv 1))) yq) [some (.fz ns),some (.int i),some (.int (7919*i+13)),none,none,none]=.ok (.nx [some (.fz ns),some (.int i),some (.int x),none,none,none]):=by
  by_cases h:i<ns.length
  ·obtain ⟨j,rfl⟩:=yeH h0
   have hj:j<ns.length:=by omega
   have e:ixD (.fz ns) (.int (j:Int))=some (.int ns[j]):=by
    show(atI ns (j:Int)).map D.int=_
    rw[qeI (gG hj)];rfl
   refine⟨ns[j],?_⟩
   push_cast [e,uk,h]
  ·refine⟨7919*i+13,?_⟩
   push_cast [uk,h]
 obtain⟨x,e1⟩:=s1
 have s0:(zp 2 (d2 zb (d2 ym (ret (.int 7919)) (dv 1)) (ret (.int 13)))) [some (.fz ns),some (.int i),none,none,none,none]=.ok (.nx [some (.fz ns),some (.int i),some (.int (7919*i+13)),none,none,none]):=by
  push_cast [qcQ f79,yr]
 by_cases hx:x%2=0
 ·refine⟨x/2,?_⟩
  unfold jB vy
  refine uZ rfl ⟨[some (.fz ns),some (.int i),some (.int x),none,none,none],?_⟩
  refine(qp s0).trans ((qp e1).trans (yn ?_))
  push_cast [uu (j:=2) (by decide),hx,ud (j:=2) (by decide) (by decide),ye (show 1<=1000000 by omega)]
 ·obtain ⟨s',o1,o2,q⟩:=qeP (some (.fz ns)) (some (.int i)) x (wZ 0 16) 0 none none λd hd=>by
   unfold wZ at hd
   obtain⟨k,hk,rfl⟩:=mP_.mp hd
   exact⟨_,rfl⟩
  refine⟨s',?_⟩
  unfold jB vy
  refine uZ rfl ⟨[some (.fz ns),some (.int i),some (.int x),some (.int s'),o1,o2],?_⟩
  refine(qp s0).trans ((qp e1).trans ?_)
  refine(qp (ρ':=[some (.fz ns),some (.int i),some (.int x),none,none,none]) ?_).trans ?_
  ·push_cast [uu (j:=2) (by decide),hx]
  refine(qp (ρ':=[some (.fz ns),some (.int i),some (.int x),some (.int 0),none,none]) ?_).trans ?_
  ·push_cast []
  refine(qp (ρ':=[some (.fz ns),some (.int i),some (.int x),some (.int s'),o1,o2]) ?_).trans ?_
  ·rw[yd,ut (j:=16) (ρ1:=[some (.fz ns),some (.int i),some (.int x),some (.int 0),none,none]) rfl (by omega) (by omega)]
   exact q
  ·push_cast [ye (show 1<=1000000 by omega)]
def vG(x:Kd):Prop:=1<=x.1/\x.1<=20/\0<=x.2.1/\x.2.1<=100000000000000000011/\x.2.2=none
theorem vG.ok{x:Kd}(h:vG x):okK x:=⟨by have:=h.1;omega,h.2.2.1,λj e=>by rw[h.2.2.2.2]at e;cases e⟩
theorem qnN (ks:List Kd) (hne:0<ks.length):eqB (.tup (ks.map kD)) (.tup [])=some (.bl false):=by
 have h:∀ks:List Kd,ybt (toPDs (ks.map kD))=true/\yaG (toPDs (ks.map kD))<=1:=λks=>by
  induction ks with
  |nil=>exact⟨rfl,yaF _⟩
  | cons x ks ih=>
   have e1:(qM (kD x)).canLay0=true/\(qM (kD x)).depth=1:=by
    obtain⟨a,b,m⟩:=x
    cases m<;>exact⟨rfl,rfl⟩
   simp only[mC_,toPDs,ybt,yaG,e1.1,e1.2,ih.1,yaR,true_and]
   have:=ih.2
   omega
 obtain⟨h1,h2⟩:=h ks
 have h3:yaG (toPDs (ks.map kD))+1<=50:=by omega
 have o1:qad (.tup (ks.map kD))=true:=by
  have e:qad (.tup (ks.map kD))=(ybt (toPDs (ks.map kD))&&decide (yaG (toPDs (ks.map kD))+1<=50)):=by
   simp only[qad,qM,ycp,ybd]
  rw[e,h1,decide_eq_true h3];rfl
 cases ks with
 |nil=>exact absurd hne (ybo _)
 |cons x ks=>
  have e:eqB (.tup ((x::ks).map kD)) (.tup [])=eqA (.tup ((x::ks).map kD)) (.tup []):=rfl
  rw[e]
  unfold eqA
  rw[o1]
  rfl
theorem qb5 (ks:List Kd) (hl:ks.length<=12) (hne:0<ks.length):uh [.tup (ks.map kD)]=.ok (.int (qei (ks.map λk=>k.1))):=by
 let ρ:Env:=[some (.tup (ks.map kD))]
 unfold uh wQ
 refine uZ rfl ⟨ρ,?_⟩
 show ji _ ρ=_
 have c1:z7 1 [] none (jD (dv 0)) (qm 0) (ret true) (d2 ixD (dv 0) (ret (.int 0))) ρ=.ok (.lst (ks.map λk=>D.int k.1),ρ):=uJ (r:=[]) (k:=kD) ks (λk=>D.int k.1) rfl rfl (by omega) λk hk=>qk rfl rfl (yV k)
 have c2:qg0 [.lst (ks.map λk=>D.int k.1)]=some (.int (qei (ks.map λk=>k.1))):=by
  cases ks with
  |nil=>exact absurd hne (ybo _)
  |cons k ks=>
   unfold qg0
   have:=qbY ((k::ks).map λk=>k.1)
   rw[mm_]at this
   simp only[ycZ,mC_]at this |-
   simp only[this]
 rw[qaI,zD c1 c2]
theorem jJ (ks:List Kd) (h:∀k∈ks,vG k) (hl:ks.length<=12) (hne:0<ks.length):zk [.tup (ks.map kD)]=.ok .non:=by
 let ρ:Env:=[some (.tup (ks.map kD))]
 have g0:dv 0 ρ=.ok (.tup (ks.map kD),ρ):=rfl
 have ne:yW [.tup (ks.map kD)]=.ok .non:=by
  have e:jm ρ=.ok (.nx ρ):=by
   unfold jm
   have c1:z7 1 [] none (jD (dv 0)) (qm 0) (ret true) (d2 isN (d2 ixD (dv 0) (ret (.int 2))) (ret .non)) ρ=.ok (.lst (ks.map λ_=>D.bl true),ρ):=by
    refine uJ (r:=[]) (k:=kD) ks (λ_=>D.bl true) rfl rfl (by omega) λk hk=>qk (qk rfl rfl (qoV k)) rfl ?_
    rw[qeD,(h k hk).2.2.2.2]
    rfl
   have c2:d2 eqB (dv 0) (jO (ret [])) ρ=.ok (.bl false,ρ):=qk rfl (by push_cast [ye (show 0<=1000000 by omega)]) (qnN ks hne)
   have c3:qc8 [.lst (ks.map λ_=>D.bl true)]=some (.bl true):=by
    have:=qam (as:=ks) (f:=λ_=>true)
    rw[this]
    congr 2
    exact List.all_eq_true.mpr λ_ _=>rfl
   have c4:=zD c1 c3
   simp only[qgM,qdr,qef,qgK,c2,c4,uW,cond_false,Bool.not_true,qgN]
  show(match jm ρ with|.ok (.rt d _)=>R.ok d|.ok (.nx _) => .ok .non|_ => .bad)=_
  rw[e]
 have hv:=qb5 ks hl hne
 have nl:u8 [.tup (ks.map kD)]=.ok .non:=by
  have e:yg ρ=.ok (.nx ρ):=by
   unfold yg
   have hm:qei (ks.map λk=>k.1)<=20:=by
    cases ks with
    |nil=>exact absurd hne (ybo _)
    |cons k ks=>
     have:=qbQ k.1 (ks.map λk=>k.1)
     rw[<-mC_ (f:=λk:Kd=>k.1)]at this
     obtain⟨x,hx,ex⟩:=mP_.mp this
     rw[mC_]at ex |-
     rw[<-ex]
     exact(h x hx).2.1
   have c1:d2 gtD (qh uh (qa (dv 0) (ret []))) (ret (.int 20)) ρ=.ok (.bl false,ρ):=qk (zJ g0 hv) rfl (by rw[vR,decide_eq_false (by omega)])
   rw[qfJ (z8 c1)]
   rfl
  show(match yg ρ with|.ok (.rt d _)=>R.ok d|.ok (.nx _) => .ok .non|_ => .bad)=_
  rw[e]
 have nle:zk [.tup (ks.map kD)]=.ok .non:=by
  have e:zj ρ=.ok (.nx ρ):=by
   unfold zj
   refine(qp (ρ':=ρ) ?_).trans ((qp (ρ':=ρ) ?_).trans ?_)
   ·rw[vO,zJ g0 (ve _ (qby (λk hk=>(h k hk).ok) hl))]
   ·rw[vO,zJ g0 ne]
   ·rw[vO,zJ g0 nl]
  show(match zj ρ with|.ok (.rt d _)=>R.ok d|.ok (.nx _) => .ok .non|_ => .bad)=_
  rw[e]
 exact nle
theorem uz {bt bt':Nat->Nat->Bool}:∀n,(∀i j,i<=n->j<=n->bt i j=bt' i j)->yaL bt n=yaL bt' n
 |0,_=>rfl
 |n+1,h=>by
  have e:=uz n λi j hi hj=>h i j (by omega) (by omega)
  have l:=uc bt' n
  show(if bt (n+1) (yaL bt n)then n+1 else yaL bt n)=(if bt' (n+1) (yaL bt' n)then n+1 else yaL bt' n)
  rw[e,h (n+1) (yaL bt' n) (yad _) (by omega)]
def lt2(x y:Int×Int):Bool:=decide (x.1<y.1)||(decide (x.1=y.1)&&decide (x.2<y.2))
theorem qje (a b c d:Int):HT.lexLt [a,b] [c,d]=lt2 (a,b) (c,d):=by
 show(if a=c then(if b=d then false else decide (b<d))else decide (a<c))=_
 unfold lt2
 by_cases h1:a=c
 ·by_cases h2:b=d
  ·simp[h1,h2]
  ·simp[h1,h2]
 ·simp[h1]
theorem qjf(x y:Int×Int):lt2 x y=true ↔ (x.1<y.1\/(x.1=y.1/\x.2<y.2)):=by simp[lt2]
theorem qj7(x y:Int×Int):lt2 x y=false ↔ ¬(x.1<y.1\/(x.1=y.1/\x.2<y.2)):=by rw[<-qjf];simp
theorem qj8 {x y b:Int×Int} (h1:lt2 x b=true) (h2:lt2 y b=false):lt2 x y=true/\lt2 y x=false:=by
 rw[qjf]at h1
 rw[qj7]at h2
 rw[qjf,qj7]
 omega
theorem wT (r:Nat->Int×Int):∀n,(∀j,j<yaL (λi j=>lt2 (r i) (r j)) n->lt2 (r (yaL (λi j=>lt2 (r i) (r j)) n)) (r j)=true)/\∀j,j<=n->lt2 (r j) (r (yaL (λi j=>lt2 (r i) (r j)) n))=false
 | 0=>⟨λj hj=>absurd hj (ycJ _),λj hj=>by
   have:j=0:=by omega
   subst this
   show lt2 (r 0) (r 0)=false
   simp[lt2]⟩
 | n + 1=>by
  obtain⟨h1,h2⟩:=wT r n
  let b:=yaL (λi j=>lt2 (r i) (r j)) n
  have hb:b<=n:=uc _ n
  cases hc:lt2 (r (n+1)) (r b) with
  | true=>
   have e:yaL (λi j=>lt2 (r i) (r j)) (n+1)=n+1:=by
    show(if lt2 (r (n+1)) (r b)then n+1 else b)=n+1
    rw[hc];rfl
   rw[e]
   refine⟨λj hj=>?_,λj hj=>?_⟩
   ·exact(qj8 hc (h2 j (by omega))).1
   ·by_cases hj2:j=n+1
    ·subst hj2;simp[lt2]
    ·exact(qj8 hc (h2 j (by omega))).2
  | false=>
   have e:yaL (λi j=>lt2 (r i) (r j)) (n+1)=b:=by
    show(if lt2 (r (n+1)) (r b)then n+1 else b)=b
    rw[hc];rfl
   rw[e]
   refine⟨h1,λj hj=>?_⟩
   by_cases hj2:j=n+1
   ·subst hj2;exact hc
   ·exact h2 j (by omega)
def qaf(ks:List Kd):Int:=ks.foldl (λp k=>p*k.1) 1
def uA(P:Int)(k:Kd):Int×Int:=(-k.2.1*(P/k.1),k.1)
def rD(P:Int)(k:Kd):D:=.tup [.int (uA P k).1,.int (uA P k).2]
def w9(x y:Kd):Bool:=decide (y.2.1*x.1<x.2.1*y.1)||(decide (x.2.1*y.1=y.2.1*x.1)&&decide (x.1<y.1))
theorem qeQ {ks:List Kd}:∀(p:Int),p ∣ ks.foldl (λp k=>p*k.1) p/\∀k∈ks,k.1 ∣ ks.foldl (λp k=>p*k.1) p:=by
 induction ks with
 |nil=>intro p;exact⟨Int.dvd_refl _,λk hk=>by cases hk⟩
 |cons x ks ih=>
  intro p
  obtain⟨h1,h2⟩:=ih (p*x.1)
  rw[fo_]
  refine⟨Int.dvd_trans (Int.dvd_mul_right p x.1) h1,λk hk=>?_⟩
  rcases List.mem_cons.mp hk with rfl|hk
  ·exact Int.dvd_trans (Int.dvd_mul_left p k.1) h1
  ·exact h2 k hk
theorem qfK {ks:List Kd} (h:∀k∈ks,vG k):∀(p:Int)(n:Nat),1<=p->p<=20 ^ n->1<=ks.foldl (λp k=>p*k.1) p/\ks.foldl (λp k=>p*k.1) p<=20 ^ (n+ks.length):=by
 induction ks with
 |nil=>intro p n h1 h2;exact⟨h1,h2⟩
 | cons x ks ih=>
  intro p n h1 h2
  have gx:=h x mS_
  have a1:1<=p*x.1:=by
   have:=Int.mul_le_mul h1 gx.1 (by omega) (by omega)
   omega
  have a2:p*x.1<=20 ^ (n+1):=by
   rw[Int.pow_succ]
   exact Int.mul_le_mul h2 gx.2.1 (by have:=gx.1;omega) (Int.pow_nonneg (by omega))
  have:=ih (λk hk=>h k (mM _ hk)) (p*x.1) (n+1) a1 a2
  rw[fo_,lC_,show n+(ks.length+1)=n+1+ks.length by omega]
  exact this
theorem rank_lt {P:Int} (hP:0<P) {x y:Kd} (hx:vG x) (hy:vG y) (dx:x.1 ∣ P) (dy:y.1 ∣ P):lt2 (uA P x) (uA P y)=w9 x y:=by
 obtain⟨c,hc⟩:=dx
 obtain⟨d,hd⟩:=dy
 have x0:0<x.1:=by have:=hx.1;omega
 have y0:0<y.1:=by have:=hy.1;omega
 have ex:P/x.1=c:=by rw[hc];exact yez _ (by omega)
 have ey:P/y.1=d:=by rw[hd];exact yez _ (by omega)
 have key1:x.2.1*c*(x.1*y.1)=x.2.1*y.1*P:=by rw[hc];simp only[Int.mul_assoc,Int.mul_comm,yga]
 have key2:y.2.1*d*(x.1*y.1)=y.2.1*x.1*P:=by rw[hd];simp only[Int.mul_assoc,Int.mul_comm,yga]
 have xy:0<x.1*y.1:=Int.mul_pos x0 y0
 have l1:(y.2.1*d<x.2.1*c) ↔ (y.2.1*x.1<x.2.1*y.1):=by
  rw[<-yft xy,key1,key2,yft hP]
 have l2:(x.2.1*c=y.2.1*d) ↔ (x.2.1*y.1=y.2.1*x.1):=by
  constructor
  ·intro h
   have h':x.2.1*y.1*P=y.2.1*x.1*P:=by rw[<-key1,<-key2,h]
   exact yd0 (by omega) h'
  ·intro h
   have h':x.2.1*c*(x.1*y.1)=y.2.1*d*(x.1*y.1):=by rw[key1,key2,h]
   exact yd0 (by omega) h'
 unfold lt2 uA w9
 rw[ex,ey]
 have e1:decide (-x.2.1*c < -y.2.1*d)=decide (y.2.1*x.1<x.2.1*y.1):=by
  rw[decide_eq_decide,<-l1,ydF,ydF]
  omega
 have e2:decide (-x.2.1*c = -y.2.1*d)=decide (x.2.1*y.1=y.2.1*x.1):=by
  rw[decide_eq_decide,<-l2,ydF,ydF]
  omega
 simp only[e1,e2]
theorem yt {i:Int} (h0 : -1000000000000000000<=i) (h1:i<=1000000000000000000):jt i=true:=by
 unfold jt
 rw[yam,decide_eq_true_eq,decide_eq_true_eq]
 constructor<;>omega
theorem qeR {ks:List Kd} (h:∀k∈ks,vG k) (hl:ks.length<=12):1<=qaf ks/\qaf ks<=4096000000000000:=by
 have:=qfK h 1 0 (by omega) (by decide)
 rw[ybc]at this
 refine⟨this.1,yeu this.2 ?_⟩
 have:(20:Int) ^ ks.length<=20 ^ 12:=by
  have:=yfu (n:=20) (by omega) hl
  exact_mod_cast this
 exact yeu this (by decide)
theorem vB (ks:List Kd) (h:∀k∈ks,vG k) (hl:ks.length<=12):jf [.tup (ks.map kD)]=.ok (.int (qaf ks)):=by
 unfold jf j4
 obtain ⟨ρ',q,o2,rfl⟩:=ue (G:=qm 2) (b:=(zp 1 (d2 ym (dv 1) (d2 ixD (dv 2) (ret (.int 0)))))) (k:=kD) (step:=λ(p:Int) (k:Kd)=>p*k.1) (Inv:=λn p ρ=>∃o2,ρ=[some (.tup (ks.map kD)),some (.int p),o2]) ks 0 1 [some (.tup (ks.map kD)),some (.int 1),none] ⟨none,rfl⟩ (λk hk m p ρ _ hm=>by
  rintro⟨o2,rfl⟩
  have gk:=h k hk
  have f:jt k.1=true:=yt (by have:=gk.1;omega) (by have:=gk.2.1;omega)
  refine⟨[some (.tup (ks.map kD)),some (.int p),some (kD k)],[some (.tup (ks.map kD)),some (.int (p*k.1)),some (kD k)],rfl,?_,_,rfl⟩
  rw[qbr,qk rfl (qk rfl rfl (yV k)) (qcR f)]
  rfl)
 refine uZ rfl ⟨[some (.tup (ks.map kD)),some (.int (qaf ks)),o2],?_⟩
 refine(qp (ρ':=[some (.tup (ks.map kD)),some (.int 1),none]) rfl).trans ?_
 refine(qp (ρ':=[some (.tup (ks.map kD)),some (.int (qaf ks)),o2]) ?_).trans rfl
 rw[yd]
 exact q
def qa3(ks:List Kd):Nat:=yaL (λi j=>w9 (kAt ks i) (kAt ks j)) (ks.length-1)
theorem qcX (P:Int):∀ks:List Kd,qdB (ks.map (rD P))=some (ks.map λk=>[(uA P k).1,(uA P k).2])
 | []=>rfl
 |k::ks=>by
  have e:y7 [.int (uA P k).1,.int (uA P k).2]=some [(uA P k).1,(uA P k).2]:=rfl
  rw[mC_,mC_]
  show(match y7 [.int (uA P k).1,.int (uA P k).2],qdB (ks.map (rD P)) with|some n,some ns=>some (n::ns)|_,_=>none)=_
  rw[e,qcX P ks]
theorem qb6 {P:Int} {ks:List Kd} {i:Nat} (h:i<ks.length):qfU (ks.map λk=>[(uA P k).1,(uA P k).2]) i=[(uA P (kAt ks i)).1,(uA P (kAt ks i)).2]:=by
 unfold qfU
 rw[gM_,qaW h]
 rfl
theorem qa4 {P:Int} (hP:0<P) {ks:List Kd} (h:∀k∈ks,vG k) (hd:∀k∈ks,k.1 ∣ P) (hne:0<ks.length):qbi (ks.map λk=>[(uA P k).1,(uA P k).2])=qa3 ks/\yaL (λi j=>lt2 (uA P (kAt ks i)) (uA P (kAt ks j))) (ks.length-1)=qa3 ks:=by
 have e2:yaL (λi j=>lt2 (uA P (kAt ks i)) (uA P (kAt ks j))) (ks.length-1)=qa3 ks :=
  uz _ λi j hi hj=>rank_lt hP (h _ (u0 (by omega))) (h _ (u0 (by omega))) (hd _ (u0 (by omega))) (hd _ (u0 (by omega)))
 refine⟨?_,e2⟩
 unfold qbi
 rw[lM_,<-e2]
 refine uz _ λi j hi hj=>?_
 rw[qb6 (by omega),qb6 (by omega),qje]
theorem qcY(P:Int)(k:Kd):qad (rD P k)=true:=qhH (ns:=[(uA P k).1,(uA P k).2])
theorem qeS (P:Int) (x y:Kd):ya4 (qM (rD P x)) (qM (rD P y))=decide (uA P x=uA P y):=by
 have h:=qjb [(uA P x).1,(uA P x).2] [(uA P y).1,(uA P y).2]
 refine(show ya4 (qM (rD P x)) (qM (rD P y))=_ from h).trans ?_
 rw[decide_eq_decide]
 constructor
 ·intro h
  simp only[List.cons.injEq,and_true]at h
  exact yfg h.1 h.2
 ·intro h
  rw[h]
theorem wU {ks:List Kd} (hne:0<ks.length):qa3 ks<ks.length:=by
 have:=uc (λi j=>w9 (kAt ks i) (kAt ks j)) (ks.length-1)
 unfold qa3
 omega
theorem qfL {P:Int} (hP:0<P) {ks:List Kd} (h:∀k∈ks,vG k) (hd:∀k∈ks,k.1 ∣ P) (hne:0<ks.length):qcJ (.lst (ks.map (rD P))) [rD P (kAt ks (qa3 ks))]=some (.int (qa3 ks:Nat)):=by
 have hl:=wU hne
 obtain⟨_,e2⟩:=qa4 hP h hd hne
 obtain⟨b1,_⟩:=wT (λi=>uA P (kAt ks i)) (ks.length-1)
 rw[e2]at b1
 have hf:(ks.map (rD P)).findIdx? (λe=>ya4 (qM e) (qM (rD P (kAt ks (qa3 ks)))))=some (qa3 ks):=by
  rw[List.findIdx?_eq_some_iff_getElem]
  refine⟨by rw[lM_];exact hl,?_,λj hj=>?_⟩
  ·have e:ks[qa3 ks]=kAt ks (qa3 ks):=by
    have:=qaW hl
    rw[gG hl]at this
    exact yaz this
   rw[List.getElem_map,qeS,e]
   exact decide_eq_true rfl
  ·have hj':j<ks.length:=by omega
   have e:ks[j]=kAt ks j:=by
    have:=qaW hj'
    rw[gG hj']at this
    exact yaz this
   rw[List.getElem_map,qeS,e]
   have g:=b1 j hj
   intro hh
   have hh':uA P (kAt ks j)=uA P (kAt ks (qa3 ks)):=of_decide_eq_true hh
   simp only[hh']at g
   rw[qjf]at g
   omega
 have o1:(ks.map (rD P)).all qad=true:=by
  rw[yey]
  exact List.all_eq_true.mpr λk _=>qcY P k
 unfold qcJ
 simp only[o1,qcY,yaR,if_true,hf,yeP]
 rfl
theorem qa5 (ks:List Kd) (h:∀k∈ks,vG k) (hl:ks.length<=12) (hne:0<ks.length):yO [.tup (ks.map kD)]=.ok (.int (qa3 ks:Nat)):=by
 unfold yO u7
 obtain⟨P1,P2⟩:=qeR h hl
 let P:=qaf ks
 have hP:0<P:=by show 0<qaf ks;omega
 have hd:∀k∈ks,k.1 ∣ P:=(qeQ 1).2
 let T:Option D:=some (.tup (ks.map kD))
 refine uZ rfl ⟨[T,some (.int P),some (.lst (ks.map (rD P)))],?_⟩
 refine(qp (ρ':=[T,some (.int P),none]) ?_).trans ?_
 ·show zp 1 _ [T,none,none]=_
  rw[qbr,zJ rfl (vB ks h hl)]
  rfl
 refine(qp (ρ':=[T,some (.int P),some (.lst (ks.map (rD P)))]) ?_).trans ?_
 ·rw[qbr,uJ (r:=[some (.int P)]) (k:=kD) ks (rD P) rfl rfl (by omega) (λk hk=>?_)]
  ·rfl
  have gk:=h k hk
  have b0:0<=P/k.1:=Int.ediv_nonneg (by omega) (by have:=gk.1;omega)
  have b1:P/k.1<=P:=Int.ediv_le_self _ (by omega)
  have f:jt (P/k.1)=true:=yt (by omega) (by show P/k.1<=_;have:P<=4096000000000000:=P2;omega)
  refine ql0 (qk ?_ (qk rfl (qk rfl rfl (yV k)) (ud (by have:=gk.1;omega) (by have:=gk.2.1;omega))) (qcR f)) (qk rfl rfl (yV k))
  rw[qoy,qk rfl rfl (qb0 k)]
  rfl
 ·have em:qm8 [.lst (ks.map (rD P))]=some (rD P (kAt ks (qa3 ks))):=by
   obtain⟨e1,_⟩:=qa4 hP h hd hne
   cases ks with
   |nil=>exact absurd hne (ybo _)
   |cons k ks'=>
    have e0:qg1 [.lst ((k::ks').map (rD P))]=none:=rfl
    unfold qm8
    rw[e0]
    show qg5 [.lst ((k::ks').map (rD P))]=_
    unfold qg5
    simp only[qcX]
    rw[mC_]at e1 |-
    simp only
    rw[e1,<-mC_ (f:=λk=>[(uA P k).1,(uA P k).2]),qb6 (wU hne)]
    rfl
  rw[qaI,qdz]
  have g1:dv 2 [T,some (.int P),some (.lst (ks.map (rD P)))]=.ok (.lst (ks.map (rD P)),[T,some (.int P),some (.lst (ks.map (rD P)))]):=rfl
  rw[g1]
  simp only[qae (zD g1 em),qfL hP h hd hne]
theorem qbk (ks:List Kd) (h:∀k∈ks,vG k) (hl:ks.length<=12) (hne:0<ks.length):qV [.tup (ks.map kD)]=.ok (.int (qa3 ks:Nat)):=by
 unfold qV vV
 let T:Option D:=some (.tup (ks.map kD))
 let bt:=λi j=>w9 (kAt ks i) (kAt ks j)
 obtain ⟨ρ',q,o2,o3,o4,o5,o6,hle,rfl⟩:=ue (G:=qm 2) (b:=(qN (qkT 3 4 (qa (d2 ixD (dv 0) (dv 2)) (qa (d2 ixD (dv 0) (dv 1)) (ret [])))) (qN (qkT 5 6 (qa (d2 ym (d2 ixD (dv 3) (ret (.int 1))) (d2 ixD (dv 4) (ret (.int 0)))) (qa (d2 ym (d2 ixD (dv 4) (ret (.int 1))) (d2 ixD (dv 3) (ret (.int 0)))) (ret [])))) (sif (tor (tst (d2 gtD (dv 5) (dv 6))) (qlX (tst (d2 eqB (dv 5) (dv 6))) (tst (d2 ltD (d2 ixD (dv 3) (ret (.int 0))) (d2 ixD (dv 4) (ret (.int 0))))))) (zp 1 (dv 2)) yq)))) (k:=λi:Nat=>D.int (1+(i:Nat))) (step:=λ(s i:Nat)=>if bt (i+1) s then i+1 else s) (Inv:=λn s ρ=>∃o2 o3 o4 o5 o6,s<ks.length/\ρ=[T,some (.int (s:Nat)),o2,o3,o4,o5,o6]) (yap (ks.length-1)) 0 0 [T,some (.int 0),none,none,none,none,none] ⟨none,none,none,none,none,hne,rfl⟩ (λi hi m s ρ _ hm=>by
  rintro⟨o2,o3,o4,o5,o6,hs,rfl⟩
  have hi':i+1<ks.length:=by have:=mR_.mp hi;omega
  let x:=kAt ks (i+1)
  let y:=kAt ks s
  have gx:=h x (u0 hi')
  have gy:=h y (u0 hs)
  have fx:jt x.1=true:=yt (by have:=gx.1;omega) (by have:=gx.2.1;omega)
  have fy:jt y.1=true:=yt (by have:=gy.1;omega) (by have:=gy.2.1;omega)
  have ei:(1+(i:Nat):Int)=((i+1:Nat):Int):=by omega
  let I:Option D:=some (.int ((i+1:Nat):Int))
  let ρ3:Env:=[T,some (.int (s:Nat)),I,some (kD x),some (kD y),some (.int (x.2.1*y.1)),some (.int (y.2.1*x.1))]
  refine⟨[T,some (.int (s:Nat)),I,o3,o4,o5,o6],ρ3.set 1 (some (.int ((if bt (i+1) s then i+1 else s:Nat):Int))),by rw[ei];rfl,?_,I,some (kD x),some (kD y),some (.int (x.2.1*y.1)),some (.int (y.2.1*x.1)),?_,rfl⟩
  ·refine (qp (ρ':=[T,some (.int (s:Nat)),I,some (kD x),some (kD y),o5,o6]) ?_).trans ?_
   ·rw[qeg,qcS (qk rfl rfl (qeJ hi')) (qk rfl rfl (qeJ hs))]
    rfl
   refine(qp (ρ':=ρ3) ?_).trans ?_
   ·rw[qeg,qcS (qk (qk rfl rfl (qb0 x)) (qk rfl rfl (yV y)) (qcR fy)) (qk (qk rfl rfl (qb0 y)) (qk rfl rfl (yV x)) (qcR fx))]
    rfl
   ·have t1:d2 gtD (dv 5) (dv 6) ρ3=.ok (.bl (decide (y.2.1*x.1<x.2.1*y.1)),ρ3):=qk rfl rfl (vR _ _)
    have t2:d2 eqB (dv 5) (dv 6) ρ3=.ok (.bl (decide (x.2.1*y.1=y.2.1*x.1)),ρ3):=qk rfl rfl (qaT _ _)
    have t3:d2 ltD (d2 ixD (dv 3) (ret (.int 0))) (d2 ixD (dv 4) (ret (.int 0))) ρ3=.ok (.bl (decide (x.1<y.1)),ρ3):=qk (qk rfl rfl (yV x)) (qk rfl rfl (yV y)) (qaU _ _)
    have tt:tor (tst (d2 gtD (dv 5) (dv 6))) (qlX (tst (d2 eqB (dv 5) (dv 6))) (tst (d2 ltD (d2 ixD (dv 3) (ret (.int 0))) (d2 ixD (dv 4) (ret (.int 0)))))) ρ3=.ok (bt (i+1) s,ρ3):=by
     simp only[qdr,qgL,qgK,t1,t2,t3,uW]
     show _=R.ok (w9 x y,ρ3)
     unfold w9
     cases decide (y.2.1*x.1<x.2.1*y.1)<;>cases decide (x.2.1*y.1=y.2.1*x.1)<;>rfl
    cases hb:bt (i+1) s with
    |true=>rw[hb]at tt;rw[qfI tt];rfl
    |false=>rw[hb]at tt;rw[qfJ tt];rfl
  ·show(if bt (i+1) s then i+1 else s)<ks.length
   split
   ·exact hi'
   ·exact hs)
 have ef:∀n,(yap n).foldl (λ(s i:Nat)=>if bt (i+1) s then i+1 else s) 0=yaL bt n:=λn=>by
  induction n with
  |zero=>rfl
  |succ n ih=>rw[List.range_succ,yeb,ih];rfl
 rw[ef]at q hle
 refine uZ rfl ⟨[T,some (.int (qa3 ks:Nat)),o2,o3,o4,o5,o6],?_⟩
 refine(qp (ρ':=[T,some (.int 0),none,none,none,none,none]) rfl).trans ?_
 refine(qp (ρ':=[T,some (.int (qa3 ks:Nat)),o2,o3,o4,o5,o6]) ?_).trans rfl
 rw[yd,qg4 (i:=1) (j:=(ks.length:Nat)) (ρ1:=[T,some (.int 0),none,none,none,none,none]) (qcS rfl (zD (a:=.tup (ks.map kD)) rfl (by rw[yN,lM_]))) (by omega) (by omega) (by omega) (by omega)]
 have el:((ks.length:Nat)-1:Int).toNat=ks.length-1:=by omega
 rw[el,qja]
 exact q
theorem qqa(i:Int):ym (.int 3) (.int i)=some (.int (3*i)):=qcQ (by decide)
theorem qjg (M h:Int) (hh:1<=h/\h<=20) (c:Int) (hc:0<=c/\c<5) (n:Int) (ks:List Kd) (hl:ks.length<12) (o5 o6 o7 o8:Option D):∃n' k p6 p7 p8,(vG k/\k.1<=h)/\(qN (zp 6 (d2 zb (ret (.int 1)) (qy ql 0 (qa (dv 2) (ret []))))) (qN (zp 7 (qy ql 0 (qa (ret (.int 12)) (ret [])))) (qN (zp 8 (d2 ixD (wE (qa (dv 7) (qa (dv 6) (qa (d2 zb (d2 ym (ret (.int 3)) (dv 6)) (d2 jM (dv 7) (ret (.int 3)))) (qa (ret (.int 0)) (qa (d2 zb (d2 qda (ret (.int 10)) (ret (.int 20))) (dv 7)) (ret []))))))) (dv 3))) (uL (yU 4 (jO (qa (dv 6) (qa (dv 8) (qa (ret .non) (ret [])))))))))) [some (.lst [.int n]),some (.int M),some (.int h),some (.int c),some (.lst (ks.map kD)),o5,o6,o7,o8]=.ok (.nx [some (.lst [.int n']),some (.int M),some (.int h),some (.int c),some (.lst ((ks++[k]).map kD)),o5,p6,p7,p8]):=by
 let a:=1+n%h
 let n1:=n/h
 let g:=n1%12
 let n2:=n1/12
 have ha:1<=a/\a<=20:=by
  have h1:=yck n (show h≠0 by omega)
  have h2:=ybB n (show 0<h by omega)
  simp only[a]
  omega
 have hah:a<=h:=by
  have h2:=ybB n (show 0<h by omega)
  simp only[a]
  omega
 have hg:0<=g/\g<=11:=by simp only[g];omega
 let L:List D:=[.int g,.int a,.int (3*a+g%3),.int 0,.int (100000000000000000000+g)]
 obtain⟨m,hm,em⟩:=qhD (ds:=L) (k:=c) hc.1 (by show c<5;exact hc.2)
 have hm2:∃v:Int,m=.int v/\0<=v/\v<=100000000000000000011:=by
  simp only[L,yax,nN_,or_false]at hm
  rcases hm with rfl|rfl|rfl|rfl|rfl
  ·exact⟨_,rfl,by omega,by omega⟩
  ·exact⟨_,rfl,by omega,by omega⟩
  ·exact⟨_,rfl,by omega,by omega⟩
  ·exact⟨_,rfl,by omega,by omega⟩
  ·exact⟨_,rfl,by omega,by omega⟩
 obtain⟨v,rfl,v1,v2⟩:=hm2
 refine⟨n2,(a,v,none),some (.int a),some (.int g),some (.int v),⟨⟨ha.1,ha.2,v1,v2,rfl⟩,hah⟩,?_⟩
 let T:Option D:=some (.lst (ks.map kD))
 refine(qp (ρ':=[some (.lst [.int n1]),some (.int M),some (.int h),some (.int c),T,o5,some (.int a),o7,o8]) ?_).trans ?_
 ·push_cast [yX (m:=h) (by omega) (by omega),yr,a,n1,T]
 refine(qp (ρ':=[some (.lst [.int n2]),some (.int M),some (.int h),some (.int c),T,o5,some (.int a),some (.int g),o8]) ?_).trans ?_
 ·push_cast [yX (m:=12) (by decide) (by decide),g,n2]
 refine(qp (ρ':=[some (.lst [.int n2]),some (.int M),some (.int h),some (.int c),T,o5,some (.int a),some (.int g),some (.int v)]) ?_).trans ?_
 ·have em':ixD (.lst [.int g,.int a,.int (3*a+g%3),.int 0,.int (100000000000000000000+g)]) (.int c)=some (.int v):=em
  push_cast [qqa,uu (j:=3) (by decide),yr,qoT,ye (show 5<=1000000 by omega),em']
 ·rw[qcT (ds:=ks.map kD) (d:=kD (a,v,none)) rfl (qp8 rfl rfl rfl) rfl (by rw[lM_];omega)]
  simp only[ydx]
  rfl
theorem qeT (M h:Int) (hh:1<=h/\h<=20) (c:Int) (hc:0<=c/\c<5):∀(ds:List D)(n:Int)(ks:List Kd)(o5 o6 o7 o8:Option D),(∀k∈ks,vG k/\k.1<=h)->ks.length+ds.length<=12 ->
  ∃(n':Int)(ks':List Kd)(p5 p6 p7 p8:Option D),jR (qm 5) (qN (zp 6 (d2 zb (ret (.int 1)) (qy ql 0 (qa (dv 2) (ret []))))) (qN (zp 7 (qy ql 0 (qa (ret (.int 12)) (ret [])))) (qN (zp 8 (d2 ixD (wE (qa (dv 7) (qa (dv 6) (qa (d2 zb (d2 ym (ret (.int 3)) (dv 6)) (d2 jM (dv 7) (ret (.int 3)))) (qa (ret (.int 0)) (qa (d2 zb (d2 qda (ret (.int 10)) (ret (.int 20))) (dv 7)) (ret []))))))) (dv 3))) (uL (yU 4 (jO (qa (dv 6) (qa (dv 8) (qa (ret .non) (ret [])))))))))) ds [some (.lst [.int n]),some (.int M),some (.int h),some (.int c),some (.lst (ks.map kD)),o5,o6,o7,o8]=.ok (.nx [some (.lst [.int n']),some (.int M),some (.int h),some (.int c),some (.lst (ks'.map kD)),p5,p6,p7,p8])/\(∀k∈ks',vG k/\k.1<=h)/\ks'.length=ks.length+ds.length
 | [],n,ks,o5,o6,o7,o8,g,hl=>⟨n,ks,o5,o6,o7,o8,rfl,g,rfl⟩
 | d::ds,n,ks,o5,o6,o7,o8,g,hl=>by
  have hl':ks.length+(ds.length+1)<=12:=hl
  obtain⟨n1,k,p6,p7,p8,gk,e⟩:=qjg M h hh c hc n ks (by omega) (some d) o6 o7 o8
  obtain ⟨n',ks',q5,q6,q7,q8,q,g2,l⟩:=qeT M h hh c hc ds n1 (ks++[k]) (some d) p6 p7 p8 (λx hx=>(mA_.mp hx).elim (g x) λhx=>by
   rw[ydR]at hx;subst hx;exact gk) (by rw[lA_,yaM];omega)
  refine⟨n',ks',q5,q6,q7,q8,?_,g2,by rw[l,lA_,yaM,lC_];omega⟩
  unfold jR
  simp only[qm,ybP,ydQ,e]
  exact q
theorem qfM (m:Int) (hm:1<=m/\m<=12) (h:Int) (hh:1<=h/\h<=20) (n:Int):∃(ks:List Kd)(n':Int),zF [.int n] [.int m,.int h]=.ok (.tup (ks.map kD),[.int n'])/\(∀k∈ks,vG k/\k.1<=h)/\(ks.length:Int)<=m/\0<ks.length:=by
 let c:=n%5
 let n1:=n/5
 let j:=1+n1%m
 let n2:=n1/m
 have hj:1<=j/\j<=m:=by
  have h1:=yck n1 (show m≠0 by omega)
  have h2:=ybB n1 (show 0<m by omega)
  simp only[j];omega
 obtain⟨n',ks,p5,p6,p7,p8,q,g,l⟩:=qeT m h hh c (by simp only[c];omega) (wZ 0 j.toNat) n2 [] none none none none (λ_ h=>by cases h) (by rw[qeG];simp;omega)
 rw[qeG]at l
 simp only[lN_]at l
 refine⟨ks,n',?_,g,by omega,by omega⟩
 unfold zF
 refine qeh (ρ:=[some (.lst [.int n']),some (.int m),some (.int h),some (.int c),some (.lst (ks.map kD)),p5,p6,p7,p8]) rfl ?_ rfl
 unfold j8
 refine(qp (ρ':=[some (.lst [.int n1]),some (.int m),some (.int h),some (.int c),none,none,none,none,none]) ?_).trans ?_
 ·push_cast [yX (m:=5) (by decide) (by decide),c,n1]
 refine(qp (ρ':=[some (.lst [.int n1]),some (.int m),some (.int h),some (.int c),some (.lst []),none,none,none,none]) ?_).trans ?_
 ·push_cast [immL,ye (show 0<=1000000 by omega),yaR]
 refine(qp (ρ':=[some (.lst [.int n']),some (.int m),some (.int h),some (.int c),some (.lst (ks.map kD)),p5,p6,p7,p8]) ?_).trans ?_
 ·rw[yd,ut (j:=j) (ρ1:=[some (.lst [.int n2]),some (.int m),some (.int h),some (.int c),some (.lst []),none,none,none,none]) ?_ (by omega) (by omega)]
  ·exact q
  ·push_cast [yX (m:=m) (by omega) (by omega),yr,n2,j]
 ·push_cast []
def kn(k:Kd):Kn:=(k.1.toNat,k.2.1.toNat)
theorem kn1{k:Kd}(h:vG k):(((kn k).1:Nat):Int)=k.1:=by have:=h.1;show((k.1.toNat:Nat):Int)=_;omega
theorem kn2{k:Kd}(h:vG k):(((kn k).2:Nat):Int)=k.2.1:=by have:=h.2.2.1;show((k.2.1.toNat:Nat):Int)=_;omega
abbrev Ns(ks:List Kd):List Kn:=ks.map kn
def wI(ks:List Kd)(i:Nat):D:=.int ((W (Ns ks) i:Nat):Int)
theorem qjh {G:D->Env->Option Env} {b:MS} {Inv:Nat->Env->Prop} (lo:Nat):∀(n:Nat)(ρ:Env),Inv lo ρ->(∀m,lo<=m->m<lo+n->∀ρ,Inv m ρ->∃ρ1 ρ2,G (.int (m:Int)) ρ=some ρ1/\b ρ1=.ok (.nx ρ2)/\Inv (m+1) ρ2) ->
  ∃ρ',jR G b (wZ (lo:Int) n) ρ=.ok (.nx ρ')/\Inv (lo+n) ρ':=by
 intro n
 induction n generalizing lo with
 |zero=>exact λρ h _=>⟨ρ,rfl,h⟩
 |succ n ih=>
  intro ρ h H
  obtain⟨ρ1,ρ2,h1,h2,h3⟩:=H lo (yad _) (by omega) ρ h
  obtain⟨ρ',q,w⟩:=ih (lo+1) ρ2 h3 λm m1 m2=>H m (by omega) (by omega)
  refine⟨ρ',?_,by rw[show lo+(n+1)=lo+1+n by omega];exact w⟩
  rw[qhE,yH h1 h2]
  have:((lo:Int)+1)=((lo+1:Nat):Int):=by omega
  rw[this];exact q
theorem qao {ks:List Kd} (h:∀k∈ks,vG k) (hl:ks.length<=12) (hne:0<ks.length):qnE (Ns ks) (kn (kAt ks (qa3 ks))):=by
 obtain⟨P1,P2⟩:=qeR h hl
 have hP:0<qaf ks:=by omega
 have hd:∀k∈ks,k.1 ∣ qaf ks:=(qeQ 1).2
 have hm:=u0 (wU hne)
 refine⟨mP_.mpr ⟨_,hm,rfl⟩,λx hx=>?_⟩
 obtain⟨k,hk,rfl⟩:=mP_.mp hx
 obtain⟨j,hj,e⟩:=List.mem_iff_getElem.mp hk
 have ej:kAt ks j=k:=by
  unfold kAt
  rw[gG hj,e];rfl
 obtain⟨_,e2⟩:=qa4 hP h hd hne
 have e3:=(wT (λi=>uA (qaf ks) (kAt ks i)) (ks.length-1)).2 j (by omega)
 have e4:yaL (λi j=>lt2 (uA (qaf ks) (kAt ks i)) (uA (qaf ks) (kAt ks j))) (ks.length-1)=qa3 ks:=e2
 rw[e4]at e3
 have gk:=h k hk
 have gp:=h _ hm
 rw[ej,rank_lt hP gk gp (hd _ hk) (hd _ hm)]at e3
 unfold w9 at e3
 simp only[Bool.or_eq_false_iff,decide_eq_false_iff_not]at e3
 have e5:k.2.1*(kAt ks (qa3 ks)).1<=(kAt ks (qa3 ks)).2.1*k.1:=by omega
 have:=kn1 gk
 have:=kn2 gk
 have:=kn1 gp
 have:=kn2 gp
 rw[<-kn1 gk,<-kn2 gk,<-kn1 gp,<-kn2 gp,<-ybF,<-ybF]at e5
 exact Int.ofNat_le.mp e5
theorem jn (ks:List Kd) (h:∀k∈ks,vG k) (hl:ks.length<=12) (hne:0<ks.length):zP [.tup (ks.map kD)]=.ok (kD (kAt ks (qa3 ks))):=by
 unfold zP vT
 exact uZ rfl ⟨_,qaX (qk rfl (zJ rfl (qa5 ks h hl hne)) (qeJ (wU hne)))⟩
def ld(ks:List Kd):Kd:=kAt ks (qa3 ks)
theorem yL{ks:List Kd}(h:∀k∈ks,vG k)(hne:0<ks.length):vG (ld ks):=h _ (u0 (wU hne))
theorem qpG {i:Int} (h:i.natAbs<=10 ^ 40):i.natAbs<2 ^ 2000:=by
 have h1:(10:Nat) ^ 40<2 ^ 200:=by decide
 have h2:(2:Nat) ^ 200<=2 ^ 2000:=yfu (by omega) (by omega)
 exact ybN h (yaw h1 h2)
theorem mw{i j:Int}(h1:i.natAbs<=10 ^ 40)(h2:j.natAbs<=10 ^ 40):qdb (.int i) (.int j)=some (.int (i*j)):=qhf (qpG h1) (qpG h2)
theorem qa6 (n:Nat):va [.int (n:Nat)]=.ok .non:=by
 have hc:jk (.int (n:Nat))=true:=by simp[jk]
 have e:yi [some (.int (n:Nat))]=.ok (.nx [some (.int (n:Nat))]):=by
  unfold yi
  push_cast [jg,hc]
 show(match yi [some (.int (n:Nat))] with|.ok (.rt d _)=>R.ok d|.ok (.nx _) => .ok .non|_ => .bad)=_
 rw[e]
theorem uB (ks:List Kd) (h:∀k∈ks,vG k) (hl:ks.length<=12) (hne:0<ks.length) (room:Nat):zG [.tup (ks.map kD),.int (room:Nat)]=.ok .non:=by
 let ρ:Env:=[some (.tup (ks.map kD)),some (.int (room:Nat))]
 have e:zl ρ=.ok (.nx ρ):=by
  unfold zl
  refine(qp (ρ':=ρ) (qaY (zJ rfl (ve _ (qby (λk hk=>(h k hk).ok) hl))))).trans ?_
  refine(qp (ρ':=ρ) (qaY (zJ rfl (qa6 room)))).trans ?_
  exact qaY (zJ rfl (jJ ks h hl hne))
 show(match zl ρ with|.ok (.rt d _)=>R.ok d|.ok (.nx _) => .ok .non|_ => .bad)=_
 rw[e]
def nD(n:Nat):D:=.int ((n:Nat):Int)
theorem qj9(n:Nat):imm (nD n)=true:=rfl
theorem qlN {i q:Nat} {kk f:M D} {ρ:Env} {L:List Nat} {v:Nat} (hf:f ρ=.ok (nD v,ρ)) (hg:zH i ρ=some (L.map nD)) (hk:kk ρ=.ok (.int (q:Nat),ρ)) (hq:q<L.length):qbL i kk f ρ=.ok (.nx (ρ.set i (some (.lst ((L.set q v).map nD))))):=by
 have ex:ixN (L.map nD).length ((q:Nat):Int)=some q:=by
  unfold ixN
  rw[lM_]
  rw[if_pos (by omega),if_pos (by omega),yaW]
 rw[qdt,hf]
 simp only[hg,hk,ex,qj9,if_true]
 rw[yf0]
theorem qhO {i q n:Nat} {f:M D} {ρ:Env} {L:List Nat} (hg:zH i ρ=some (L.map nD)) (hk:f ρ=.ok (.int (q:Nat),ρ)) (hn:L[q]? = some n):qc9 i f ρ=.ok (nD n,ρ):=by
 have e:atI (L.map nD) ((q:Nat):Int)=some (nD n):=qeI (by rw[gM_,hn];rfl)
 rw[qgQ]
 simp only[hg,hk,e]
def sD(s:Nat×Nat):D:=.tup [nD s.1,nD s.2]
def cD(b:Bool)(n:List Nat):D:=if b then .tup (n.map nD)else .lst (n.map nD)
theorem qcZ (b:Bool) (n:List Nat):uk [cD b n]=some (.int (n.length:Nat)):=by
 unfold cD
 cases b with
 |true=>show some (D.int ((n.map nD).length:Nat))=_;rw[lM_]
 |false=>show some (D.int ((n.map nD).length:Nat))=_;rw[lM_]
theorem qhP {n:List Nat} {i:Nat} (h:i<n.length):(n.map nD)[i]? = some (nD (n.getD i 0)):=by
 rw[gM_,List.getD_eq_getElem?_getD,gG h]
 rfl
theorem qdQ (b:Bool) {n:List Nat} {i:Nat} (h:i<n.length):ixD (cD b n) (.int (i:Nat))=some (nD (n.getD i 0)):=by
 unfold cD
 cases b with
 |true=>exact qeI (qhP h)
 |false=>exact qeI (qhP h)
theorem qeU:∀(n:List Nat)(p:Nat),uX p (n.map nD)=(yap n.length).map λi => .tup [nD (p+i),nD (n.getD i 0)]
 | [],p=>rfl
 |a::n,p=>by
  rw[mC_,uX,qeU n (p+1),lC_,yc6,mC_,mm_]
  congr 1
  refine mL_ λi _=>?_
  show D.tup [nD (p+1+i),nD (n.getD i 0)]=D.tup [nD (p+(i+1)),nD ((a::n).getD (i+1) 0)]
  rw[show p+1+i=p+(i+1) by omega]
  rfl
theorem qeV {b:Bool} {n:List Nat} {g:M D} {ρ:Env} (h:g ρ=.ok (cD b n,ρ)):qaN (qa g (ret [])) ρ=.ok ((yap n.length).map λi => .tup [nD i,nD (n.getD i 0)],ρ):=by
 have e:=qae h
 have q:=qeU n 0
 have q2:((yap n.length).map λi=>D.tup [nD (0+i),nD (n.getD i 0)])=(yap n.length).map λi => .tup [nD i,nD (n.getD i 0)]:=mL_ λi _=>by rw[ybc]
 rw[q2]at q
 unfold qaN
 cases b with
 |true=>
  have e:qa g (ret []) ρ=.ok ([.tup (n.map nD)],ρ):=e
  rw[e]
  show qgV (qa g (ret [])) ρ=_
  rw[qdv,e]
  show R.ok (uX 0 (n.map nD),ρ)=_
  rw[q]
 |false=>
  have e:qa g (ret []) ρ=.ok ([.lst (n.map nD)],ρ):=e
  rw[e]
  show qep (qa g (ret [])) ρ=_
  unfold qep bnd
  rw[e]
  show R.ok (uX 0 (n.map nD),ρ)=_
  rw[q]
theorem wV (a b:Nat) (h:0<b):jM (nD a) (.int (b:Nat))=some (.int ((a%b:Nat):Int)):=by
 show jM (.int (a:Nat)) (.int (b:Nat))=_
 rw[uu (by omega),Int.natCast_emod]
theorem vW (a b:Nat):zb (nD a) (nD b)=some (nD (a+b)):=by
 show zb (.int (a:Nat)) (.int (b:Nat))=_
 rw[yr,<-Int.natCast_add]
 rfl
theorem qka (a b:Nat):gtD (nD a) (nD b)=some (.bl (decide (b<a))):=by
 show gtD (.int (a:Nat)) (.int (b:Nat))=_
 rw[vR]
 congr 2
 rw[decide_eq_decide]
 omega
section
variable(b:Bool)(n:List Nat)(hn:0<n.length)
include hn
theorem qeW (S:Option D) (i:Nat):∀(st:List (Nat×Nat))(o4 o5:Option D),∃ρ',jR (vK 2 (qL (qm 4) (qL (qm 5) vJ))) (sif (tst (d2 gtD (d2 ixD (dv 0) (d2 jM (d2 zb (dv 2) (dv 4)) (qw uk (qa (dv 0) (ret []))))) (d2 zb (dv 3) (dv 5)))) (ji (ret (.bl false))) yq) (st.map sD) [some (cD b n),S,some (nD i),some (nD (n.getD i 0)),o4,o5]=(bif st.all λs=>decide (n.getD ((i+s.1)%n.length) 0<=n.getD i 0+s.2)then .ok (.nx ρ')else .ok (.rt (.bl false) ρ'))/\((st.all λs=>decide (n.getD ((i+s.1)%n.length) 0<=n.getD i 0+s.2))=true->∃p4 p5,ρ'=[some (cD b n),S,some (nD i),some (nD (n.getD i 0)),p4,p5])
 | [],o4,o5=>⟨_,rfl,λ_=>⟨o4,o5,rfl⟩⟩
 | s :: st,o4,o5=>by
  obtain⟨ρ',q,qe⟩:=qeW S i st (some (nD s.1)) (some (nD s.2))
  let ρ:Env:=[some (cD b n),S,some (nD i),some (nD (n.getD i 0)),some (nD s.1),some (nD s.2)]
  have c:tst (d2 gtD (d2 ixD (dv 0) (d2 jM (d2 zb (dv 2) (dv 4)) (qw uk (qa (dv 0) (ret []))))) (d2 zb (dv 3) (dv 5))) ρ=.ok (decide (n.getD i 0+s.2<n.getD ((i+s.1)%n.length) 0),ρ):=z8 (qk (qk rfl (qk (qk rfl rfl (vW _ _)) (zD rfl (qcZ b n)) (wV _ _ hn)) (qdQ b (yba _ hn))) (qk rfl rfl (vW _ _)) (qka _ _))
  rw[mC_]
  by_cases h:n.getD ((i+s.1)%n.length) 0<=n.getD i 0+s.2
  ·rw [decide_eq_false (by omega)]at c
   have e:(sif (tst (d2 gtD (d2 ixD (dv 0) (d2 jM (d2 zb (dv 2) (dv 4)) (qw uk (qa (dv 0) (ret []))))) (d2 zb (dv 3) (dv 5)))) (ji (ret (.bl false))) yq) ρ=.ok (.nx ρ):=by
    rw[qfJ c]
    rfl
   refine⟨ρ',?_,λha=>qe ?_⟩
   ·rw[yH rfl e,q,ya3,decide_eq_true h,yaS]
   ·rw[ya3,decide_eq_true h,yaS]at ha
    exact ha
  ·rw [decide_eq_true (by omega)]at c
   have e:(sif (tst (d2 gtD (d2 ixD (dv 0) (d2 jM (d2 zb (dv 2) (dv 4)) (qw uk (qa (dv 0) (ret []))))) (d2 zb (dv 3) (dv 5)))) (ji (ret (.bl false))) yq) ρ=.ok (.rt (.bl false) ρ):=by
    rw[qfI c]
    rfl
   refine⟨ρ,?_,λha=>?_⟩
   ·rw[ya3,decide_eq_false h,ybe]
    unfold jR
    have hg:vK 2 (qL (qm 4) (qL (qm 5) vJ)) (sD s) [some (cD b n),S,some (nD i),some (nD (n.getD i 0)),o4,o5]=some ρ:=rfl
    rw[hg]
    simp only[e]
    rfl
   ·rw[ya3,decide_eq_false h,ybe]at ha
    cases ha
theorem qc0 (st:List (Nat×Nat)):∀(is:List Nat)(o2 o3 o4 o5:Option D),∃ρ',jR (vK 2 (qL (qm 2) (qL (qm 3) vJ))) (uO (jD (dv 1)) (vK 2 (qL (qm 4) (qL (qm 5) vJ))) (sif (tst (d2 gtD (d2 ixD (dv 0) (d2 jM (d2 zb (dv 2) (dv 4)) (qw uk (qa (dv 0) (ret []))))) (d2 zb (dv 3) (dv 5)))) (ji (ret (.bl false))) yq)) (is.map λi => .tup [nD i,nD (n.getD i 0)]) [some (cD b n),some (.lst (st.map sD)),o2,o3,o4,o5]=(bif is.all λi=>st.all λs=>decide (n.getD ((i+s.1)%n.length) 0<=n.getD i 0+s.2)then .ok (.nx ρ')else .ok (.rt (.bl false) ρ'))
 | [],o2,o3,o4,o5=>⟨_,rfl⟩
 | i::is,o2,o3,o4,o5=>by
  obtain⟨ρ1,q1,e1⟩:=qeW b n hn (some (.lst (st.map sD))) i st o4 o5
  have hg:vK 2 (qL (qm 2) (qL (qm 3) vJ)) (.tup [nD i,nD (n.getD i 0)]) [some (cD b n),some (.lst (st.map sD)),o2,o3,o4,o5]=some [some (cD b n),some (.lst (st.map sD)),some (nD i),some (nD (n.getD i 0)),o4,o5]:=rfl
  have s:(uO (jD (dv 1)) (vK 2 (qL (qm 4) (qL (qm 5) vJ))) (sif (tst (d2 gtD (d2 ixD (dv 0) (d2 jM (d2 zb (dv 2) (dv 4)) (qw uk (qa (dv 0) (ret []))))) (d2 zb (dv 3) (dv 5)))) (ji (ret (.bl false))) yq)) [some (cD b n),some (.lst (st.map sD)),some (nD i),some (nD (n.getD i 0)),o4,o5]=(bif st.all λs=>decide (n.getD ((i+s.1)%n.length) 0<=n.getD i 0+s.2)then .ok (.nx ρ1)else .ok (.rt (.bl false) ρ1)):=by
   rw[yd]
   exact q1
  rw[mC_]
  cases ha:st.all λs=>decide (n.getD ((i+s.1)%n.length) 0<=n.getD i 0+s.2) with
  |true=>
   obtain⟨p4,p5,rfl⟩:=e1 ha
   obtain⟨ρ',q⟩:=qc0 st is (some (nD i)) (some (nD (n.getD i 0))) p4 p5
   rw[ha]at s
   refine⟨ρ',?_⟩
   rw[yH hg s,q,ya3,ha,yaS]
  |false=>
   rw[ha]at s
   refine⟨ρ1,?_⟩
   rw[ya3,ha,ybe]
   have s:(uO (jD (dv 1)) (vK 2 (qL (qm 4) (qL (qm 5) vJ))) (sif (tst (d2 gtD (d2 ixD (dv 0) (d2 jM (d2 zb (dv 2) (dv 4)) (qw uk (qa (dv 0) (ret []))))) (d2 zb (dv 3) (dv 5)))) (ji (ret (.bl false))) yq)) [some (cD b n),some (.lst (st.map sD)),some (nD i),some (nD (n.getD i 0)),o4,o5]=.ok (.rt (.bl false) ρ1):=s
   unfold jR
   rw[hg]
   simp only[s]
   rfl
theorem yk (st:List (Nat×Nat)):zQ [cD b n,.lst (st.map sD)]=.ok (.bl (ju st n)):=by
 obtain⟨ρ',q⟩:=qc0 b n hn st (yap n.length) none none none none
 let ρ:Env:=[some (cD b n),some (.lst (st.map sD)),none,none,none,none]
 have s:(uO (qaN (qa (dv 0) (ret []))) (vK 2 (qL (qm 2) (qL (qm 3) vJ))) (uO (jD (dv 1)) (vK 2 (qL (qm 4) (qL (qm 5) vJ))) (sif (tst (d2 gtD (d2 ixD (dv 0) (d2 jM (d2 zb (dv 2) (dv 4)) (qw uk (qa (dv 0) (ret []))))) (d2 zb (dv 3) (dv 5)))) (ji (ret (.bl false))) yq))) ρ=(bif ju st n then .ok (.nx ρ')else .ok (.rt (.bl false) ρ')):=by
  rw[yd,qeV (g:=dv 0) (b:=b) (n:=n) rfl]
  exact q
 unfold zQ ux
 cases hk:ju st n with
 |true=>
  rw[hk]at s
  exact uZ rfl ⟨ρ',(qp s).trans rfl⟩
 |false=>
  rw[hk]at s
  exact uZ rfl ⟨ρ',yn s⟩
end
theorem qeX(n:List Nat):immL (n.map nD)=true:=qbZ λ_ _=>rfl
theorem qlO (a b:Nat):qbh [nD a,nD b]=some (nD (min a b)):=by
 show qbh [.int (a:Nat),.int (b:Nat)]=_
 rw[qi9]
 unfold nD
 congr 2
 split<;>omega
theorem qkb (n:List Nat) (hn:0<n.length) (S:Option D) (i:Nat):∀(st:List (Nat×Nat))(L:List Nat)(o5 o6 o7:Option D),L.length=n.length->∃p5 p6 p7,jR (vK 2 (qL (qm 5) (qL (qm 6) vJ))) (qN (zp 7 (d2 jM (d2 zb (dv 3) (dv 5)) (qw uk (qa (dv 0) (ret []))))) (qbL 2 (dv 7) (qw qbh (qa (qc9 2 (dv 7)) (qa (d2 zb (dv 4) (dv 6)) (ret [])))))) (st.map sD) [some (.lst (n.map nD)),S,some (.lst (L.map nD)),some (nD i),some (nD (n.getD i 0)),o5,o6,o7]=.ok (.nx [some (.lst (n.map nD)),S,some (.lst (((st.map λs=>((i+s.1)%n.length,n.getD i 0+s.2)).foldl qdc L).map nD)),some (nD i),some (nD (n.getD i 0)),p5,p6,p7])
 | [],L,o5,o6,o7,_=>⟨o5,o6,o7,rfl⟩
 | s :: st,L,o5,o6,o7,hL=>by
  let to:=(i+s.1)%n.length
  have ht:to<L.length:=by rw[hL];exact yba _ hn
  obtain⟨p5,p6,p7,q⟩:=qkb n hn S i st (qdc L (to,n.getD i 0+s.2)) (some (nD s.1)) (some (nD s.2)) (some (.int (to:Nat))) (by rw[qb1];exact hL)
  refine⟨p5,p6,p7,?_⟩
  let N:Option D:=some (.lst (n.map nD))
  let Ld:Option D:=some (.lst (L.map nD))
  let I:Option D:=some (nD i)
  let X:Option D:=some (nD (n.getD i 0))
  let ρ1:Env:=[N,S,Ld,I,X,some (nD s.1),some (nD s.2),some (.int (to:Nat))]
  have e:(qN (zp 7 (d2 jM (d2 zb (dv 3) (dv 5)) (qw uk (qa (dv 0) (ret []))))) (qbL 2 (dv 7) (qw qbh (qa (qc9 2 (dv 7)) (qa (d2 zb (dv 4) (dv 6)) (ret [])))))) [N,S,Ld,I,X,some (nD s.1),some (nD s.2),o7]=.ok (.nx [N,S,some (.lst ((qdc L (to,n.getD i 0+s.2)).map nD)),I,X,some (nD s.1),some (nD s.2),some (.int (to:Nat))]):=by
   refine(qp (ρ':=ρ1) ?_).trans ?_
   ·rw[yf (qk (qk rfl rfl (vW _ _)) (zD (a:=cD false n) rfl (qcZ false n)) (wV _ _ hn))]
    rfl
   ·have hm:L[to]? = some (L.getD to 0):=by rw[List.getD_eq_getElem?_getD,gG ht];rfl
    rw[qlN (L:=L) (q:=to) (v:=min (L.getD to 0) (n.getD i 0+s.2)) (ρ:=ρ1) (qnD (qhO (L:=L) rfl rfl hm) (qk rfl rfl (vW _ _)) (qlO _ _)) rfl rfl ht]
    rfl
  rw[mC_,yH rfl e,q]
  rfl
theorem qc1 {α β γ:Type} (f:γ->β->γ) (g:α->List β):∀(l:List α)(c:γ),(l.flatMap g).foldl f c=l.foldl (λc a=>(g a).foldl f c) c
 | [],c=>rfl
 |a::l,c=>by rw[ygb,yeb,qc1 f g l,fo_]
theorem qc2 (n:List Nat) (hn:0<n.length) (hl:n.length<=1000) (st:List (Nat×Nat)):ui [.lst (n.map nD),.lst (st.map sD)]=.ok (.lst ((qeM st n).map nD)):=by
 let N:Option D:=some (.lst (n.map nD))
 let S:Option D:=some (.lst (st.map sD))
 obtain ⟨ρ',q,hL,p3,p4,p5,p6,p7,rfl⟩:=ue (G:=vK 2 (qL (qm 3) (qL (qm 4) vJ))) (b:=(uO (jD (dv 1)) (vK 2 (qL (qm 5) (qL (qm 6) vJ))) (qN (zp 7 (d2 jM (d2 zb (dv 3) (dv 5)) (qw uk (qa (dv 0) (ret []))))) (qbL 2 (dv 7) (qw qbh (qa (qc9 2 (dv 7)) (qa (d2 zb (dv 4) (dv 6)) (ret [])))))))) (k:=λi=>D.tup [nD i,nD (n.getD i 0)]) (step:=λ(L:List Nat) i=>(st.map λs=>((i+s.1)%n.length,n.getD i 0+s.2)).foldl qdc L) (Inv:=λ_ L ρ=>L.length=n.length/\∃p3 p4 p5 p6 p7,ρ=[N,S,some (.lst (L.map nD)),p3,p4,p5,p6,p7]) (yap n.length) 0 n [N,S,some (.lst (n.map nD)),none,none,none,none,none] ⟨rfl,none,none,none,none,none,rfl⟩ (λi hi m L ρ _ _=>by
  rintro⟨hL,p3,p4,p5,p6,p7,rfl⟩
  obtain⟨q5,q6,q7,q⟩:=qkb n hn S i st L p5 p6 p7 hL
  refine⟨[N,S,some (.lst (L.map nD)),some (nD i),some (nD (n.getD i 0)),p5,p6,p7],_,rfl,?_,by rw[qan];exact hL,some (nD i),some (nD (n.getD i 0)),q5,q6,q7,rfl⟩
  rw[yd]
  exact q)
 have e:(yap n.length).foldl (λ(L:List Nat) i=>(st.map λs=>((i+s.1)%n.length,n.getD i 0+s.2)).foldl qdc L) n=qeM st n:=by
  unfold qeM ql1
  rw[qc1]
 rw[e]at q
 unfold ui qa2
 refine uZ rfl ⟨[N,S,some (.lst ((qeM st n).map nD)),p3,p4,p5,p6,p7],?_⟩
 refine(qp (ρ':=[N,S,some (.lst (n.map nD)),none,none,none,none,none]) ?_).trans ?_
 ·have c:qfw (dv 0) [N,S,none,none,none,none,none,none]=.ok (n.map nD,[N,S,none,none,none,none,none,none]):=by
   show lift (if immL (n.map nD)then some (n.map nD)else none) [N,S,none,none,none,none,none,none]=_
   rw[qeX]
   rfl
  show vN 2 _ [N,S,none,none,none,none,none,none]=_
  rw[qaJ,c]
  rfl
 refine(qp (ρ':=[N,S,some (.lst ((qeM st n).map nD)),p3,p4,p5,p6,p7]) ?_).trans rfl
 rw[yd,qeV (g:=dv 0) (b:=false) (n:=n) rfl]
 exact q
section
variable(ks:List Kd)(h:∀k∈ks,vG k)(hl:ks.length<=12)(hne:0<ks.length)
include h hl hne
theorem qhQ {k:Kd} (hk:k∈ks):qcV [kD k,kD (ld ks)]=.ok (nD ((kn k).1*(kn (ld ks)).2-(kn k).2*(kn (ld ks)).1)):=by
 have gk:=h k hk
 have gl:=yL h hne
 have hm:(kn k).2*(kn (ld ks)).1<=(kn (ld ks)).2*(kn k).1:=(qao h hl hne).2 (kn k) (mP_.mpr ⟨k,hk,rfl⟩)
 have e:k.1*(ld ks).2.1-k.2.1*(ld ks).1=(((kn k).1*(kn (ld ks)).2-(kn k).2*(kn (ld ks)).1:Nat):Int):=by
  rw[<-kn1 gk,<-kn2 gk,<-kn1 gl,<-kn2 gl,<-ybF,<-ybF]
  rw[yb8 (kn (ld ks)).2]at hm
  omega
 unfold qcV qhN
 refine uZ rfl ⟨[some (kD k),some (kD (ld ks))],qaX ?_⟩
 unfold nD
 rw[<-e]
 exact qk (qk (qk rfl rfl (yV _)) (qk rfl rfl (qb0 _)) (qcQ (yt (by have:=gk.1;omega) (by have:=gk.2.1;omega)))) (qk (qk rfl rfl (qb0 _)) (qk rfl rfl (yV _)) (qcR (yt (by have:=gl.1;omega) (by have:=gl.2.1;omega)))) (ww _ _)
def stL(ks:List Kd):List (Nat×Nat):=stN (kn (ld ks)) (Ns ks)
theorem vH:yJ [.tup (ks.map kD)]=.ok (.lst ((stL ks).map sD)):=by
 let T:Option D:=some (.tup (ks.map kD))
 let ρ:Env:=[T,some (kD (ld ks))]
 have gl:=yL h hne
 unfold yJ vU
 refine uZ rfl ⟨ρ,(qp (ρ':=ρ) ?_).trans (qaX ?_)⟩
 ·show zp 1 _ [T,none]=_
  rw[yf (zJ rfl (jn ks h hl hne))]
  rfl
 ·have c:(z7 1 [1] none (jD (dv 0)) (qm 0) (ret true) (jO (qa (d2 ixD (dv 0) (ret (.int 0))) (qa (qh qcV (qa (dv 0) (qa (dv 1) (ret [])))) (ret []))))) ρ=.ok (.lst (ks.map λk=>sD ((kn k).1,(kn k).1*(kn (ld ks)).2-(kn k).2*(kn (ld ks)).1)),ρ):=by
   refine uJ (r:=[some (kD (ld ks))]) (k:=kD) ks _ rfl rfl (by omega) λk hk=>?_
   have e:D.int k.1=nD (kn k).1:=by unfold nD;rw[kn1 (h k hk)]
   rw[ql0 (qk rfl rfl (yV k)) (w8 rfl rfl (qhQ ks h hl hne hk)),e]
   rfl
  have c1:wE (qa (jO (qa (ret (.int 1)) (qa (d2 ixD (dv 1) (ret (.int 1))) (ret [])))) (ret [])) ρ=.ok (.lst [sD (1,(kn (ld ks)).2)],ρ):=by
   have e:D.int (ld ks).2.1=nD (kn (ld ks)).2:=by unfold nD;rw[kn2 gl]
   rw[qcG,qae (ql0 rfl (qk rfl rfl (qb0 _))),e]
   simp only[lC_,lN_,ybc,ye (show 1<=1000000 by omega),if_true]
   rfl
  refine qk c1 c ?_
  rw[qbW (by rw[lM_,lC_,lN_];omega)]
  unfold stL stN Ns
  rw[mC_,mm_,mm_]
  rfl
end
theorem qqb {t:M Bool} {b:MS} {n:Nat} {ρ ρ1 ρ2:Env} (h:t ρ=.ok (true,ρ1)) (hb:b ρ1=.ok (.nx ρ2)):yM t b (n+1) ρ=yM t b n ρ2:=by
 show(match t ρ with|.ok (true,ρ1)=>(match b ρ1 with|.ok (.nx ρ2)=>yM t b n ρ2|.ok (.ct ρ2)=>yM t b n ρ2|.ok (.bk ρ2) => .ok (.nx ρ2)|.ok (.rt d ρ2) => .ok (.rt d ρ2)|.exc x ρ2 => .exc x ρ2|.bad => .bad)|.ok (false,ρ1) => .ok (.nx ρ1)|.exc x ρ1 => .exc x ρ1|.bad => .bad)=_
 simp only[h,hb]
theorem qpH {t:M Bool} {b:MS} {n:Nat} {ρ ρ1:Env} (h:t ρ=.ok (false,ρ1)):yM t b (n+1) ρ=.ok (.nx ρ1):=by
 show(match t ρ with|.ok (true,ρ1)=>(match b ρ1 with|.ok (.nx ρ2)=>yM t b n ρ2|.ok (.ct ρ2)=>yM t b n ρ2|.ok (.bk ρ2) => .ok (.nx ρ2)|.ok (.rt d ρ2) => .ok (.rt d ρ2)|.exc x ρ2 => .exc x ρ2|.bad => .bad)|.ok (false,ρ1) => .ok (.nx ρ1)|.exc x ρ1 => .exc x ρ1|.bad => .bad)=_
 simp only[h]
theorem vg{t:M Bool}{ρ:Env}{b:Bool}(h:t ρ=.ok (b,ρ)):qay t ρ=.ok (!b,ρ):=by rw[qef,h]
section
variable(ks:List Kd)(h:∀k∈ks,vG k)(hl:ks.length<=12)(hne:0<ks.length)
include h hl hne
theorem w20:1<=(kn (ld ks)).1/\(kn (ld ks)).1<=20:=by
 have gl:=yL h hne
 have e:=kn1 gl
 have h1:=gl.1
 have h2:=gl.2.1
 omega
theorem qhR (T Fk:Option D):∀(m:Nat)(n:List Nat),n.sum<=m->okP (Ns ks) (kn (ld ks)) n->∃fuel n',yM (qay (tst (qh zQ (qa (dv 3) (qa (dv 2) (ret [])))))) (zp 3 (qh ui (qa (dv 3) (qa (dv 2) (ret []))))) fuel [T,Fk,some (.lst ((stL ks).map sD)),some (.lst (n.map nD))]=.ok (.nx [T,Fk,some (.lst ((stL ks).map sD)),some (.lst (n'.map nD))])/\okP (Ns ks) (kn (ld ks)) n'/\ju (stL ks) n'=true:=λm=>by
 have hw:=w20 ks h hl hne
 induction m with
 | zero=>
  intro n hs ok
  have hn:0<n.length:=by rw[ok.len];omega
  cases hk:ju (stL ks) n with
  | true=>
   have c:qay (tst (qh zQ (qa (dv 3) (qa (dv 2) (ret []))))) [T,Fk,some (.lst ((stL ks).map sD)),some (.lst (n.map nD))]=.ok (false,[T,Fk,some (.lst ((stL ks).map sD)),some (.lst (n.map nD))]):=by
    have:=vg (z8 (w8 (ρ:=[T,Fk,some (.lst ((stL ks).map sD)),some (.lst (n.map nD))]) (f:=dv 3) (g:=dv 2) rfl rfl (yk false n hn (stL ks))))
    rw[hk]at this
    exact this
   exact⟨1,n,qpH c,ok,hk⟩
  |false=>
   have:=qj2 hk
   omega
 | succ m ih=>
  intro n hs ok
  have hn:0<n.length:=by rw[ok.len];omega
  have ct:=vg (z8 (w8 (ρ:=[T,Fk,some (.lst ((stL ks).map sD)),some (.lst (n.map nD))]) (f:=dv 3) (g:=dv 2) rfl rfl (yk false n hn (stL ks))))
  cases hk:ju (stL ks) n with
  |true=>
   rw[hk]at ct
   exact⟨1,n,qpH ct,ok,hk⟩
  | false=>
   rw[hk]at ct
   have lt:=qj2 hk
   obtain⟨fuel,n',q,ok',hk'⟩:=ih (qeM (stL ks) n) (by omega) (ok.low (qao h hl hne))
   have s1:zp 3 (qh ui (qa (dv 3) (qa (dv 2) (ret [])))) [T,Fk,some (.lst ((stL ks).map sD)),some (.lst (n.map nD))]=.ok (.nx [T,Fk,some (.lst ((stL ks).map sD)),some (.lst ((qeM (stL ks) n).map nD))]):=by
    rw[yf (w8 rfl rfl (qc2 n hn (by rw[ok.len];omega) (stL ks)))]
    rfl
   exact⟨fuel+1,n',(qqb ct s1).trans q,ok',hk'⟩
theorem qa7:∃n,okP (Ns ks) (kn (ld ks)) n/\ju (stL ks) n=true/\ja [.tup (ks.map kD)]=.ok (cD true n):=by
 let T:Option D:=some (.tup (ks.map kD))
 let Fk:Option D:=some (kD (ld ks))
 let St:Option D:=some (.lst ((stL ks).map sD))
 have hw:=w20 ks h hl hne
 have gl:=yL h hne
 have g1:=kn1 gl
 have g2:=kn2 gl
 let n0:=(yap (kn (ld ks)).1).map λi=>i*(kn (ld ks)).2
 obtain⟨fuel,n,q,ok,hk⟩:=qhR ks h hl hne T Fk n0.sum n0 (yad _) (okP.start hw.1)
 refine⟨n,ok,hk,?_⟩
 unfold ja vd
 refine uZ rfl ⟨[T,Fk,St,some (.lst (n.map nD))],?_⟩
 refine(qp (ρ':=[T,none,none,none]) (qaY (zJ rfl (jJ ks h hl hne)))).trans ?_
 refine(qp (ρ':=[T,Fk,none,none]) (yf (zJ rfl (jn ks h hl hne)))).trans ?_
 refine(qp (ρ':=[T,Fk,St,none]) (yf (zJ rfl (vH ks h hl hne)))).trans ?_
 refine(qp (ρ':=[T,Fk,St,some (.lst (n0.map nD))]) ?_).trans ?_
 ·have c:(z7 1 [1] none (yC (qa (d2 ixD (dv 1) (ret (.int 0))) (ret []))) (qm 0) (ret true) (d2 ym (dv 0) (d2 ixD (dv 1) (ret (.int 1))))) [T,Fk,St,none]=.ok (.lst ((yap (kn (ld ks)).1).map λi=>nD (i*(kn (ld ks)).2)),[T,Fk,St,none]):=by
   refine uJ (r:=[Fk]) (k:=λi:Nat=>D.int (i:Nat)) (yap (kn (ld ks)).1) _ ?_ rfl (by rw[lR_];omega) λi hi=>?_
   ·rw[ut (j:=((kn (ld ks)).1:Nat)) (ρ1:=[T,Fk,St,none]) (qae (qk rfl rfl (by rw[g1];exact yV _))) (by omega) (by omega),yaW,qoW]
   ·have hi:=mR_.mp hi
    have e:nD (i*(kn (ld ks)).2)=.int ((i:Nat)*(ld ks).2.1):=by unfold nD;rw[ybF,g2]
    rw[e]
    exact qk rfl (qk rfl rfl (qb0 _)) (qcQ (yt (by omega) (by omega)))
  rw[show((yap (kn (ld ks)).1).map λi=>nD (i*(kn (ld ks)).2))=n0.map nD by show _=((yap (kn (ld ks)).1).map λi=>i*(kn (ld ks)).2).map nD;rw[mm_];rfl]at c
  exact yf c
 exact(qp (qg2 q (by intro z;cases z))).trans (qaX (zD rfl rfl))
variable{n:List Nat}(ok:okP (Ns ks) (kn (ld ks)) n)(hk:ju (stL ks) n=true)
include ok hk
end
theorem qnO {k:Kd} (h:vG k):kD k=.tup [.int k.1,.int k.2.1,.non]:=by
 unfold kD
 rw[h.2.2.2.2]
 rfl
theorem qnP(s:Nat×Nat):imm (sD s)=true:=rfl
section
variable(ks:List Kd)(h:∀k∈ks,vG k)(hl:ks.length<=12)(hne:0<ks.length)
include h hl hne
theorem qa8{ρ:Env}{i:Nat}(e:dv i ρ=.ok (.tup (ks.map kD),ρ)):d2 ixD (dv i) (qh qV (qa (dv i) (ret []))) ρ=.ok (kD (ld ks),ρ):=qk e (zJ e (qbk ks h hl hne)) (qeJ (wU hne))
theorem qji {k:Kd} (hk:k∈ks):k.1*(ld ks).2.1-k.2.1*(ld ks).1=(((kn k).1*(kn (ld ks)).2-(kn k).2*(kn (ld ks)).1:Nat):Int):=by
 have gk:=h k hk
 have gl:=yL h hne
 have hm:(kn k).2*(kn (ld ks)).1<=(kn (ld ks)).2*(kn k).1:=(qao h hl hne).2 (kn k) (mP_.mpr ⟨k,hk,rfl⟩)
 rw[<-kn1 gk,<-kn2 gk,<-kn1 gl,<-kn2 gl,<-ybF,<-ybF]
 rw[yb8 (kn (ld ks)).2]at hm
 omega
theorem vh:qF [.tup (ks.map kD)]=.ok (.lst ((stL ks).map sD)):=by
 have gl:=yL h hne
 let T:Option D:=some (.tup (ks.map kD))
 let A:Option D:=some (.int (ld ks).1)
 let B:Option D:=some (.int (ld ks).2.1)
 obtain ⟨ρ',q,hlen,o5,rfl⟩:=ue (G:=qm 5) (b:=(uL (yU 4 (jO (qa (d2 ixD (dv 5) (ret (.int 0))) (qa (d2 qbg (d2 ym (d2 ixD (dv 5) (ret (.int 0))) (dv 2)) (d2 ym (d2 ixD (dv 5) (ret (.int 1))) (dv 1))) (ret []))))))) (k:=kD) (step:=λ(acc:List (Nat×Nat)) (k:Kd)=>acc++[((kn k).1,(kn k).1*(kn (ld ks)).2-(kn k).2*(kn (ld ks)).1)]) (Inv:=λn acc ρ=>acc.length<=n+1/\∃o5,ρ=[T,A,B,some .non,some (.lst (acc.map sD)),o5]) ks 0 [(1,(kn (ld ks)).2)] [T,A,B,some .non,some (.lst [sD (1,(kn (ld ks)).2)]),none] ⟨yad _,none,rfl⟩ (λk hk n acc ρ _ hn=>by
  rintro⟨ha,o5,rfl⟩
  have gk:=h k hk
  let ρ1:Env:=[T,A,B,some .non,some (.lst (acc.map sD)),some (kD k)]
  refine⟨ρ1,[T,A,B,some .non,some (.lst ((acc++[((kn k).1,(kn k).1*(kn (ld ks)).2-(kn k).2*(kn (ld ks)).1)]).map sD)),some (kD k)],rfl,?_,by rw[lA_,yaM];omega,some (kD k),rfl⟩
  have c:(jO (qa (d2 ixD (dv 5) (ret (.int 0))) (qa (d2 qbg (d2 ym (d2 ixD (dv 5) (ret (.int 0))) (dv 2)) (d2 ym (d2 ixD (dv 5) (ret (.int 1))) (dv 1))) (ret [])))) ρ1=.ok (sD ((kn k).1,(kn k).1*(kn (ld ks)).2-(kn k).2*(kn (ld ks)).1),ρ1):=by
   have e:D.int k.1=nD (kn k).1:=by unfold nD;rw[kn1 gk]
   have e2:D.int (k.1*(ld ks).2.1-k.2.1*(ld ks).1)=nD ((kn k).1*(kn (ld ks)).2-(kn k).2*(kn (ld ks)).1):=by unfold nD;rw[qji ks h hl hne hk]
   rw[ql0 (qk rfl rfl (yV k)) (qk (qk (qk rfl rfl (yV k)) rfl (qcQ (yt (by have:=gk.1;omega) (by have:=gk.2.1;omega)))) (qk (qk rfl rfl (qb0 k)) rfl (qcR (yt (by have:=gl.1;omega) (by have:=gl.2.1;omega)))) (ww _ _)),e,e2]
   rfl
  rw[qcT (i:=4) (ρ:=ρ1) (ds:=acc.map sD) rfl c rfl (by rw[lM_];omega),ydx]
  rfl)
 have fe:ks.foldl (λ(acc:List (Nat×Nat)) (k:Kd)=>acc++[((kn k).1,(kn k).1*(kn (ld ks)).2-(kn k).2*(kn (ld ks)).1)]) [(1,(kn (ld ks)).2)]=stL ks:=by
  have:∀(l:List Kd)(acc:List (Nat×Nat)),l.foldl (λ(acc:List (Nat×Nat)) (k:Kd)=>acc++[((kn k).1,(kn k).1*(kn (ld ks)).2-(kn k).2*(kn (ld ks)).1)]) acc=acc++l.map λk=>((kn k).1,(kn k).1*(kn (ld ks)).2-(kn k).2*(kn (ld ks)).1):=λl=>by
   induction l with
   |nil=>intro acc;simp
   |cons a l ih=>intro acc;rw[fo_,ih,mC_,yd5];rfl
  rw[this]
  unfold stL stN Ns
  rw[mm_]
  rfl
 rw[fe]at q
 unfold qF vb
 refine uZ rfl ⟨[T,A,B,some .non,some (.lst ((stL ks).map sD)),o5],?_⟩
 refine(qp (ρ':=[T,A,B,some .non,none,none]) ?_).trans ?_
 ·have c:=qa8 ks h hl hne (ρ:=[T,none,none,none,none,none]) (i:=0) rfl
  rw[qnO gl]at c
  show qfR _ _ [T,none,none,none,none,none]=_
  rw[qcH,c]
  rfl
 refine(qp (ρ':=[T,A,B,some .non,some (.lst [sD (1,(kn (ld ks)).2)]),none]) ?_).trans ?_
 ·have e:D.int (ld ks).2.1=nD (kn (ld ks)).2:=by unfold nD;rw[kn2 gl]
  have c:jO (qa (ret (.int 1)) (qa (dv 2) (ret []))) [T,A,B,some .non,none,none]=.ok (sD (1,(kn (ld ks)).2),[T,A,B,some .non,none,none]):=by
   rw[ql0 (a:=.int 1) (b:=.int (ld ks).2.1) rfl rfl,e]
   rfl
  rw[qaJ,qgI,qae c]
  simp only[immL,qnP,lC_,lN_,ybc,ye (show 1<=1000000 by omega),yaR,if_true]
  rfl
 refine(qp (ρ':=[T,A,B,some .non,some (.lst ((stL ks).map sD)),o5]) ?_).trans rfl
 rw[yd]
 exact q
end
def kvD(T:Tb):Kv:=T.map λp=>(yaO ((p.1:Nat):Int),((p.2:Nat):Int))
theorem qb7 (a b:Nat):((yaO ((a:Nat):Int):Key)=yaO ((b:Nat):Int)) ↔ a=b:=by
 constructor
 ·intro e
  have:=Sum.inl.inj e
  omega
 ·rintro rfl;rfl
theorem qdR (T:Tb) (k:Nat):qbc (kvD T) (k:Nat)=(gN T k).map λn:Nat=>(n:Int):=by
 induction T with
 |nil=>rfl
 | cons p T ih=>
  rw[u6]
  unfold qbc kvD at ih |-
  rw[mC_,List.find?_cons]
  by_cases e:p.1=k
  ·rw[if_pos e]
   simp[e]
  ·rw[if_neg e]
   have:¬(yaO ((p.1:Nat):Int):Key)=yaO ((k:Nat):Int):=λz=>e ((qb7 _ _).mp z)
   rw[decide_eq_false this]
   exact ih
theorem qlP (T:Tb) (k v:Nat):qlt (kvD T) (k:Nat) (v:Nat)=kvD (pN T k v):=by
 unfold qlt pN
 have e:((kvD T).any λp=>decide (p.1=yaO ((k:Nat):Int)))=T.any λp=>decide (p.1=k):=by
  unfold kvD
  rw[List.any_map]
  congr 1
  funext p
  show decide ((yaO ((p.1:Nat):Int):Key)=yaO ((k:Nat):Int))=decide (p.1=k)
  rw[decide_eq_decide]
  exact qb7 _ _
 rw[e]
 split
 ·unfold kvD
  rw[mm_,mm_]
  refine mL_ λp _=>?_
  show(if(yaO ((p.1:Nat):Int):Key)=yaO ((k:Nat):Int)then _ else _)=_
  by_cases c:p.1=k
  ·rw[if_pos ((qb7 _ _).mpr c)]
   show _=(λp:Nat×Nat=>((yaO ((p.1:Nat):Int):Key),((p.2:Nat):Int))) (if p.1=k then(p.1,v)else p)
   rw[if_pos c]
  ·rw[if_neg λz=>c ((qb7 _ _).mp z)]
   show _=(λp:Nat×Nat=>((yaO ((p.1:Nat):Int):Key),((p.2:Nat):Int))) (if p.1=k then(p.1,v)else p)
   rw[if_neg c]
 ·unfold kvD
  rw[ydx]
  rfl
theorem qlQ(T:Tb):(kvD T).length=T.length:=by unfold kvD;rw[lM_]
theorem qjj {kvs0 kvs:Kv} {e1:M D} {jP jF jL jT jH:Nat} {x y:D} {ds:List D} {ρ ρ2:Env} {t k l v t' h:Int} (he:e1 ((ρ.set jF (some x)).set jL (some y))=.ok (.int t,ρ2)) (hk:(ρ2.set jT (some (.int t)))[jP]? = some (some (.int k))) (hl:(ρ2.set jT (some (.int t)))[jL]? = some (some (.int l))) (hv:qbc kvs0 k=some v)
  (ht:((ρ2.set jT (some (.int t))).set jH (some (.int (v+l))))[jT]? = some (some (.int t'))) (hh:((ρ2.set jT (some (.int t))).set jH (some (.int (v+l))))[jH]? = some (some (.int h))) (hs:kvs.length<1000) :
  gin kvs0 e1 jP jF jL jT jH (.tup [x,y]::ds) ρ kvs=gin kvs0 e1 jP jF jL jT jH ds ((ρ2.set jT (some (.int t))).set jH (some (.int (v+l)))) (qlt kvs t' (if h<(qbc kvs t').getD h then h else(qbc kvs t').getD h)):=by
 conv=>lhs;unfold gin
 simp only[he,hk,hl,hv,ht,hh,hs,if_true]
theorem qhS {kvs0 kvs kvs3:Kv} {it:M (List D)} {e1:M D} {jP jF jL jT jH:Nat} {n:Int} {ks:List Key} {ds:List D} {ρ ρ2 ρ3:Env} (hi:it (ρ.set jP (some (.int n)))=.ok (ds,ρ2)) (hg:gin kvs0 e1 jP jF jL jT jH ds ρ2 kvs=some (ρ3,kvs3)) :
  qfE kvs0 it e1 jP jF jL jT jH (yaO n::ks) ρ kvs=qfE kvs0 it e1 jP jF jL jT jH ks ρ3 kvs3:=by
 conv=>lhs;unfold qfE
 simp only[hi,hg]
noncomputable abbrev eGo:M D:=d2 jM (d2 zb (dv 5) (dv 6)) (dv 1)
theorem qkc (T0:Tb) (S L:Option D) {w:Nat} (hw:0<w) (hw2:w<=20) {k v:Nat} (hv:gN T0 k=some v):∀(st:Tb)(T:Tb)(o6 o7 o8 o9:Option D),qfV w T->∃p6 p7 p8 p9,gin (kvD T0) eGo 5 6 7 8 9 (st.map sD) [S,some (nD w),none,L,none,some (nD k),o6,o7,o8,o9] (kvD T)=some ([S,some (nD w),none,L,none,some (nD k),p6,p7,p8,p9],kvD (uF (st.map λs=>((k+s.1)%w,v+s.2)) T))/\(qcN [o6,o7,o8,o9]=true->qcN [p6,p7,p8,p9]=true)
 | [],T,o6,o7,o8,o9,_=>⟨o6,o7,o8,o9,rfl,λz=>z⟩
 | s :: st,T,o6,o7,o8,o9,ok=>by
  let t:=(k+s.1)%w
  have ht:t<w:=yba _ hw
  obtain⟨p6,p7,p8,p9,q,qi⟩:=qkc T0 S L hw hw2 hv st (uN T (t,v+s.2)) (some (nD s.1)) (some (nD s.2)) (some (nD t)) (some (nD (v+s.2))) (ok.put ht _)
  refine⟨p6,p7,p8,p9,?_,λ_=>qi rfl⟩
  rw[mC_]
  let ρ:Env:=[S,some (nD w),none,L,none,some (nD k),some (nD s.1),some (nD s.2),o8,o9]
  have e1:eGo ρ=.ok (.int ((t:Nat):Int),ρ):=qk (qk rfl rfl (vW _ _)) rfl (wV _ _ hw)
  have e2:qbc (kvD T0) ((k:Nat):Int)=some ((v:Nat):Int):=by rw[qdR,hv];rfl
  have hlen:(kvD T).length<1000:=by
   rw[qlQ]
   have:=ok.len
   omega
  have e3:qlt (kvD T) ((t:Nat):Int) (if((v:Nat):Int)+(s.2:Nat)<(qbc (kvD T) ((t:Nat):Int)).getD (((v:Nat):Int)+(s.2:Nat)) then((v:Nat):Int)+(s.2:Nat) else(qbc (kvD T) ((t:Nat):Int)).getD (((v:Nat):Int)+(s.2:Nat)))=kvD (uN T (t,v+s.2)):=by
   have:(if((v:Nat):Int)+(s.2:Nat)<(qbc (kvD T) ((t:Nat):Int)).getD (((v:Nat):Int)+(s.2:Nat)) then((v:Nat):Int)+(s.2:Nat) else(qbc (kvD T) ((t:Nat):Int)).getD (((v:Nat):Int)+(s.2:Nat)))=((min ((gN T t).getD (v+s.2)) (v+s.2):Nat):Int):=by
    rw[qdR]
    cases gN T t with
    |none=>
     show(if((v:Nat):Int)+(s.2:Nat)<((v:Nat):Int)+(s.2:Nat)then _ else _)=((min (v+s.2) (v+s.2):Nat):Int)
     rw[if_neg (by omega)]
     show((v:Nat):Int)+(s.2:Nat)=_
     omega
    |some x=>
     show(if((v:Nat):Int)+(s.2:Nat)<((x:Nat):Int) then((v:Nat):Int)+(s.2:Nat) else((x:Nat):Int))=((min x (v+s.2):Nat):Int)
     split<;>omega
   rw[this,qlP]
   rfl
  refine(qjj (kvs0:=kvD T0) (kvs:=kvD T) (e1:=eGo) (jP:=5) (jF:=6) (jL:=7) (jT:=8) (jH:=9) (x:=nD s.1) (y:=nD s.2) (ρ:=[S,some (nD w),none,L,none,some (nD k),o6,o7,o8,o9]) (ρ2:=ρ) (t:=(t:Nat)) (k:=(k:Nat)) (l:=(s.2:Nat)) (v:=(v:Nat)) (t':=(t:Nat)) (h:=((v:Nat):Int)+(s.2:Nat)) e1 rfl rfl e2 rfl rfl hlen).trans ?_
  rw[e3]
  exact q
section
variable(ks:List Kd)(h:∀k∈ks,vG k)(hl:ks.length<=12)(hne:0<ks.length)
include h hl hne
theorem qhT (T0:Tb) (L:Option D) (ok0:qfV (kn (ld ks)).1 T0):∀(ps:Tb)(T:Tb)(o5 o6 o7 o8 o9:Option D),(∀p∈ps,p∈T0)->qfV (kn (ld ks)).1 T->∃p5 p6 p7 p8 p9,qfE (kvD T0) (jD (qh qF (qa (dv 0) (ret [])))) eGo 5 6 7 8 9 ((kvD ps).map (·.1)) [some (.tup (ks.map kD)),some (nD (kn (ld ks)).1),none,L,none,o5,o6,o7,o8,o9] (kvD T)=some ([some (.tup (ks.map kD)),some (nD (kn (ld ks)).1),none,L,none,p5,p6,p7,p8,p9],kvD (uF (upT (stL ks) (kn (ld ks)).1 ps) T))/\(qcN [o5,o6,o7,o8,o9]=true->qcN [p5,p6,p7,p8,p9]=true)
 | [],T,o5,o6,o7,o8,o9,_,_=>⟨o5,o6,o7,o8,o9,rfl,λz=>z⟩
 | p :: ps,T,o5,o6,o7,o8,o9,hp,ok=>by
  have hw:=w20 ks h hl hne
  let S:Option D:=some (.tup (ks.map kD))
  let W:Option D:=some (nD (kn (ld ks)).1)
  have hv:gN T0 p.1=some p.2:=qhI ok0.nd p (hp p mS_)
  obtain⟨p6,p7,p8,p9,q,qi⟩:=qkc T0 S L (w:=(kn (ld ks)).1) (by omega) (by omega) hv (stL ks) T o6 o7 o8 o9 ok
  obtain ⟨r5,r6,r7,r8,r9,qq,qj⟩:=qhT T0 L ok0 ps (uF ((stL ks).map λs=>((p.1+s.1)%(kn (ld ks)).1,p.2+s.2)) T) (some (nD p.1)) p6 p7 p8 p9 (λx hx=>hp x (mM _ hx)) (qlJ _ _ (λu hu=>by
   obtain⟨s,_,rfl⟩:=mP_.mp hu
   exact yba _ (by omega)) ok)
  refine⟨r5,r6,r7,r8,r9,?_,λz=>qj ?_⟩
  rotate_left
  ·have z':qcN [o6,o7,o8,o9]=true:=by
    unfold qcN at z |-
    rw[ya3,yam]at z
    exact z.2
   exact qi z'
  let ρ:Env:=[S,W,none,L,none,some (nD p.1),o6,o7,o8,o9]
  have e1:jD (qh qF (qa (dv 0) (ret []))) ρ=.ok ((stL ks).map sD,ρ):=by
   rw[qcI,zJ (a:=.tup (ks.map kD)) rfl (vh ks h hl hne)]
   rfl
  have ec:(kvD (p::ps)).map (·.1)=(yaO ((p.1:Nat):Int):Key)::(kvD ps).map (·.1):=rfl
  have eu:uF (upT (stL ks) (kn (ld ks)).1 (p::ps)) T=uF (upT (stL ks) (kn (ld ks)).1 ps) (uF ((stL ks).map λs=>((p.1+s.1)%(kn (ld ks)).1,p.2+s.2)) T):=by
   unfold uF upT
   rw[ygb,yeb]
  rw[eu,ec]
  have st:qfE (kvD T0) (jD (qh qF (qa (dv 0) (ret [])))) eGo 5 6 7 8 9 ((yaO ((p.1:Nat):Int):Key)::(kvD ps).map (·.1)) [S,W,none,L,none,o5,o6,o7,o8,o9] (kvD T)=qfE (kvD T0) (jD (qh qF (qa (dv 0) (ret [])))) eGo 5 6 7 8 9 ((kvD ps).map (·.1)) [S,W,none,L,none,some (nD p.1),p6,p7,p8,p9] (kvD (uF ((stL ks).map λs=>((p.1+s.1)%(kn (ld ks)).1,p.2+s.2)) T)):=by
   refine qhS (ds:=(stL ks).map sD) (ρ2:=ρ) ?_ ?_
   ·exact e1
   ·exact q
  exact st.trans qq
theorem qlR (T:Tb) (ok:qfV (kn (ld ks)).1 T) (l:Int) (o4 o5 o6 o7 o8 o9:Option D) (hi0:qcN [o5,o6,o7,o8,o9]=true):∃p5 p6 p7 p8 p9,qcN [p5,p6,p7,p8,p9]=true/\qhv 4 2 (jD (qh qF (qa (dv 0) (ret [])))) eGo 5 6 7 8 9 [some (.tup (ks.map kD)),some (nD (kn (ld ks)).1),some (.dic (kvD T)),some (.int l),o4,o5,o6,o7,o8,o9]=.ok (.nx [some (.tup (ks.map kD)),some (nD (kn (ld ks)).1),some (.dic (kvD (qhJ (stL ks) (kn (ld ks)).1 T))),some (.int l),some (.dic (kvD (qhJ (stL ks) (kn (ld ks)).1 T))),p5,p6,p7,p8,p9]):=by
 obtain⟨p5,p6,p7,p8,p9,q,qi⟩:=qhT ks h hl hne T (some (.int l)) ok T T o5 o6 o7 o8 o9 (λ_ hp=>hp) ok
 refine⟨p5,p6,p7,p8,p9,qi hi0,?_⟩
 have hi:qcN [some (.tup (ks.map kD)),some (nD (kn (ld ks)).1),none,some (.int l),none,o5,o6,o7,o8,o9]=true:=by
  have e:imm (.tup (ks.map kD))=true:=qbZ λk _=>qnA k
  unfold qcN at hi0 |-
  simp only[ya3]at hi0 |-
  rw[e]
  exact hi0
 show (if(qcN [some (.tup (ks.map kD)),some (nD (kn (ld ks)).1),none,some (.int l),none,o5,o6,o7,o8,o9]&&decide (4<10))=true then(match qfE (kvD T) (jD (qh qF (qa (dv 0) (ret [])))) eGo 5 6 7 8 9 ((kvD T).map (·.1)) [some (.tup (ks.map kD)),some (nD (kn (ld ks)).1),none,some (.int l),none,o5,o6,o7,o8,o9] (kvD T) with
  |some (ρ',kvs')=>R.ok (Fl.nx ((ρ'.set 4 (some (.dic kvs'))).set 2 (some (.dic kvs'))))
  |none => .bad)else .bad)=_
 rw[hi,q]
 rfl
theorem wA {n:List Nat} (ok:okP (Ns ks) (kn (ld ks)) n) (hk:ju (stL ks) n=true):zx [.tup (ks.map kD)]=.ok (cD true n):=by
 have hw:=w20 ks h hl hne
 have gl:=yL h hne
 have g1:=kn1 gl
 have hn:0<n.length:=by rw[ok.len];omega
 have hT:∀j,j<n.length->Tt (stL ks) n j:=λj hj=>qhL hw.1 (qao h hl hne) ok hk (by rw[<-ok.len];exact hj)
 let S:Option D:=some (.tup (ks.map kD))
 let Wd:Option D:=some (nD (kn (ld ks)).1)
 let lp:Nat->Tb:=qa0 (stL ks) n.length
 obtain ⟨ρ',q,p3,p4,p5,p6,p7,p8,p9,hi,rfl⟩:=qjh (G:=qm 3) (b:=(qhv 4 2 (jD (qh qF (qa (dv 0) (ret [])))) (d2 jM (d2 zb (dv 5) (dv 6)) (dv 1)) 5 6 7 8 9)) (Inv:=λm ρ=>∃o3 o4 o5 o6 o7 o8 o9,qcN [o5,o6,o7,o8,o9]=true/\ρ=[S,Wd,some (.dic (kvD (lp m))),o3,o4,o5,o6,o7,o8,o9]) 0 n.length [S,Wd,some (.dic (kvD (lp 0))),none,none,none,none,none,none,none] ⟨none,none,none,none,none,none,none,rfl,rfl⟩ (λm _ hm ρ=>by
  rintro⟨o3,o4,o5,o6,o7,o8,o9,hi,rfl⟩
  have okm:=(qo1 hn hk ok.fst hT m).1.ok
  rw[ok.len]at okm
  obtain⟨p5,p6,p7,p8,p9,hi',q⟩:=qlR ks h hl hne (qa0 (stL ks) (kn (ld ks)).1 m) okm (m:Nat) o4 o5 o6 o7 o8 o9 hi
  refine⟨[S,Wd,some (.dic (kvD (lp m))),some (.int (m:Nat)),o4,o5,o6,o7,o8,o9],[S,Wd,some (.dic (kvD (lp (m+1)))),some (.int (m:Nat)),some (.dic (kvD (lp (m+1)))),p5,p6,p7,p8,p9],rfl,?_,some (.int (m:Nat)),some (.dic (kvD (lp (m+1)))),p5,p6,p7,p8,p9,hi',rfl⟩
  have e:lp m=qa0 (stL ks) (kn (ld ks)).1 m:=by show qa0 (stL ks) n.length m=_;rw[ok.len]
  have e':lp (m+1)=qhJ (stL ks) (kn (ld ks)).1 (qa0 (stL ks) (kn (ld ks)).1 m):=by show qa0 (stL ks) n.length (m+1)=_;rw[ok.len];rfl
  rw[e,e']
  exact q)
 rw[ybc]at q
 let ρ3:Env:=[S,Wd,some (.dic (kvD (lp n.length))),p3,p4,p5,p6,p7,p8,p9]
 unfold zx yK
 refine uZ rfl ⟨ρ3,?_⟩
 have rg:∀(o2 o3 o4 o5 o6 o7 o8 o9:Option D),yC (qa (dv 1) (ret [])) [S,Wd,o2,o3,o4,o5,o6,o7,o8,o9]=.ok (wZ 0 n.length,[S,Wd,o2,o3,o4,o5,o6,o7,o8,o9]):=λo2 o3 o4 o5 o6 o7 o8 o9=>by
  rw[ut (j:=((kn (ld ks)).1:Nat)) (ρ1:=[S,Wd,o2,o3,o4,o5,o6,o7,o8,o9]) (qae rfl) (by omega) (by omega),yaW,ok.len]
 refine(qp (ρ':=[S,Wd,none,none,none,none,none,none,none,none]) ?_).trans ?_
 ·have e:D.int (ld ks).1=nD (kn (ld ks)).1:=by unfold nD;rw[g1]
  have c:=qk (qa8 ks h hl hne (ρ:=[S,none,none,none,none,none,none,none,none,none]) (i:=0) rfl) (g:=ret (.int 0)) rfl (yV (ld ks))
  rw[e]at c
  exact yf c
 refine(qp (ρ':=[S,Wd,some (.dic (kvD (lp 0))),none,none,none,none,none,none,none]) rfl).trans ?_
 refine(qp (ρ':=ρ3) ?_).trans (qaX ?_)
 ·rw[yd,rg]
  exact q
 ·have c:=uJ (e:=d2 qi2 (dv 1) (dv 0)) (xs:=yC (qa (dv 1) (ret []))) (fr:=[2]) (ρ:=ρ3) (r:=[some (.dic (kvD (lp n.length)))]) (k:=λi:Nat=>D.int (i:Nat)) (yap n.length) (λi=>nD (n.getD i 0)) (by rw[rg,qoW]) rfl (by rw[lR_,ok.len];omega) λi hi=>qk rfl rfl (by
   have:=qjd hn hk ok.fst hT i (mR_.mp hi)
   show(qbc (kvD (lp n.length)) ((i:Nat):Int)).map D.int=_
   rw[qdR,this]
   rfl)
  refine zD c ?_
  rw[qbx]
  unfold cD
  have:((yap n.length).map λi=>nD (n.getD i 0))=n.map nD:=by
   refine List.ext_getElem? λj=>?_
   rw[gM_,gM_]
   by_cases hj:j<n.length
   ·rw[List.getElem?_range hj,gG hj]
    simp[List.getD_eq_getElem?_getD,gG hj]
   ·rw[List.getElem?_eq_none (by rw[lR_];omega),List.getElem?_eq_none (by omega)]
    rfl
  rw[this]
  rfl
end
theorem qdS{t u:M Bool}{ρ:Env}{b:Bool}(h1:t ρ=.ok (false,ρ))(h2:u ρ=.ok (b,ρ)):tor t u ρ=.ok (b,ρ):=by rw[qdr,h1];exact h2
theorem qhU {G:D->Env->Option Env} {b:MS} {d v:D} {ds:List D} {ρ ρ1 ρ2:Env} (h1:G d ρ=some ρ1) (h2:b ρ1=.ok (.rt v ρ2)):jR G b (d::ds) ρ=.ok (.rt v ρ2):=by
 show(match G d ρ with|none=>R.bad|some ρ1=>_)=_
 rw[h1]
 simp only[h2]
theorem qjk {T:String} {ρ:Env} {d:D} (i:Nat) (h:dv i ρ=.ok (d,ρ)) {b:Bool} (e:qcA (tyD d) T=b):qay (tst (qdm T (dv i))) ρ=.ok (!b,ρ):=by
 have d0:qdm T (dv i) ρ=.ok (.bl b,ρ):=by
  rw[qgJ,h]
  simp only[e]
 exact vg (z8 d0)
theorem qb8 (a b:Nat):neB (.int (a:Nat)) (.int (b:Nat))=some (.bl (!decide (a=b))):=by
 rw[qaS]
 congr 2
 rw[ycd]
 simp only[yd9,decide_eq_false_iff_not]
 omega
theorem qeY:∀xs:List D,(∀x∈xs,qaV x=true)->∃ns:List Int,xs=ns.map D.int
 | [],_=>⟨[],rfl⟩
 |x::xs,h=>by
  obtain⟨ns,e⟩:=qeY xs λy hy=>h y (mM _ hy)
  have hx:=h x mS_
  cases x with
  |int n=>exact⟨n::ns,by rw[e];rfl⟩
  |_=>cases hx
theorem qeZ:∀xs:List D,(∀x∈xs,jk x=true)->∃ns:List Nat,xs=ns.map nD
 | [],_=>⟨[],rfl⟩
 | x::xs,h=>by
  obtain⟨ns,e⟩:=qeZ xs λy hy=>h y (mM _ hy)
  have hx:=h x mS_
  cases x with
  |int n=>
   have hn:0<=n:=of_decide_eq_true hx
   refine⟨n.toNat::ns,?_⟩
   rw[e]
   show D.int n::_=D.int ((n.toNat:Nat):Int)::_
   rw[ycB hn]
  |_=>cases hx
theorem qe0 (n:List Nat):qc8 [.lst (n.map λ_=>D.bl true)]=some (.bl true):=by
 rw[qam (f:=λ_=>true)]
 congr 2
 exact List.all_eq_true.mpr λ_ _=>rfl
theorem qhV {ns:List Int} (h:ns≠[]):qcO [.tup (ns.map D.int)]=some (.int (qbs ns)):=by
 cases ns with
 |nil=>exact absurd rfl h
 | cons n ns=>
  show (match y7 ((n::ns).map D.int) with
   |some (n::ns)=>some (D.int (qbs (n::ns)))
   |_=>none)=_
  rw[qbY]
section
variable(ks:List Kd)(h:∀k∈ks,vG k)(hl:ks.length<=12)(hne:0<ks.length)
include h hl hne
theorem qhW {n:List Nat} (hn:n.length=(kn (ld ks)).1):qZ [cD true n,.tup (ks.map kD)]=.ok (.bl (decide (n.getD 0 0=0)&&ju (stL ks) n))/\qY [cD true n,.tup (ks.map kD)]=.ok (.bl (decide (n.getD 0 0=0)&&ju (stL ks) n)):=by
 have hw:=w20 ks h hl hne
 have hn0:0<n.length:=by rw[hn];omega
 have g1:=kn1 (yL h hne)
 have ez:neB (nD (n.getD 0 0)) (.int 0)=some (.bl (!decide (n.getD 0 0=0))):=qb8 _ 0
 refine⟨?_,?_⟩
 ·let T:Option D:=some (cD true n)
  let K:Option D:=some (.tup (ks.map kD))
  let Wd:Option D:=some (nD n.length)
  let ρ:Env:=[T,K,Wd,none,none,none]
  have es:jD (qh qF (qa (dv 1) (ret [])))=jD (qh qF (qa (dv 1) (ret []))):=rfl
  have inn:∀(i:Nat),i<n.length->∀(st:List (Nat×Nat))(o4 o5:Option D),∃ρ',jR (vK 2 (qL (qm 4) (qL (qm 5) vJ))) (sif (tst (d2 gtD (d2 ixD (dv 0) (d2 jM (d2 zb (dv 3) (dv 4)) (dv 2))) (d2 zb (d2 ixD (dv 0) (dv 3)) (dv 5)))) (ji (ret (.bl false))) yq) (st.map sD) [T,K,Wd,some (nD i),o4,o5]=(bif st.all λs=>decide (n.getD ((i+s.1)%n.length) 0<=n.getD i 0+s.2)then .ok (.nx ρ')else .ok (.rt (.bl false) ρ'))/\((st.all λs=>decide (n.getD ((i+s.1)%n.length) 0<=n.getD i 0+s.2))=true->∃p4 p5,ρ'=[T,K,Wd,some (nD i),p4,p5]):=λi hi st=>by
   induction st with
   |nil=>intro o4 o5;exact⟨_,rfl,λ_=>⟨o4,o5,rfl⟩⟩
   | cons s st ih=>
    intro o4 o5
    obtain⟨ρ',q,qe⟩:=ih (some (nD s.1)) (some (nD s.2))
    let ρ1:Env:=[T,K,Wd,some (nD i),some (nD s.1),some (nD s.2)]
    have c:tst (d2 gtD (d2 ixD (dv 0) (d2 jM (d2 zb (dv 3) (dv 4)) (dv 2))) (d2 zb (d2 ixD (dv 0) (dv 3)) (dv 5))) ρ1=.ok (decide (n.getD i 0+s.2<n.getD ((i+s.1)%n.length) 0),ρ1):=z8 (qk (qk rfl (qk (qk rfl rfl (vW _ _)) rfl (wV _ _ hn0)) (qdQ true (yba _ hn0))) (qk (qk rfl rfl (qdQ true hi)) rfl (vW _ _)) (qka _ _))
    rw[mC_]
    by_cases hc:n.getD ((i+s.1)%n.length) 0<=n.getD i 0+s.2
    ·rw [decide_eq_false (by omega)]at c
     have e:(sif (tst (d2 gtD (d2 ixD (dv 0) (d2 jM (d2 zb (dv 3) (dv 4)) (dv 2))) (d2 zb (d2 ixD (dv 0) (dv 3)) (dv 5)))) (ji (ret (.bl false))) yq) ρ1=.ok (.nx ρ1):=by
      rw[qfJ c]
      rfl
     refine⟨ρ',?_,λha=>qe ?_⟩
     ·rw[yH rfl e,q,ya3,decide_eq_true hc,yaS]
     ·rw[ya3,decide_eq_true hc,yaS]at ha
      exact ha
    ·rw [decide_eq_true (by omega)]at c
     have e:(sif (tst (d2 gtD (d2 ixD (dv 0) (d2 jM (d2 zb (dv 3) (dv 4)) (dv 2))) (d2 zb (d2 ixD (dv 0) (dv 3)) (dv 5)))) (ji (ret (.bl false))) yq) ρ1=.ok (.rt (.bl false) ρ1):=by
      rw[qfI c]
      rfl
     refine⟨ρ1,?_,λha=>?_⟩
     ·rw[ya3,decide_eq_false hc,ybe]
      exact qhU rfl e
     ·rw[ya3,decide_eq_false hc,ybe]at ha
      cases ha
  have out:∀(is:List Nat),(∀i∈is,i<n.length)->∀(o3 o4 o5:Option D),∃ρ',jR (qm 3) (uO (jD (qh qF (qa (dv 1) (ret [])))) (vK 2 (qL (qm 4) (qL (qm 5) vJ))) (sif (tst (d2 gtD (d2 ixD (dv 0) (d2 jM (d2 zb (dv 3) (dv 4)) (dv 2))) (d2 zb (d2 ixD (dv 0) (dv 3)) (dv 5)))) (ji (ret (.bl false))) yq)) (is.map λi:Nat=>D.int (i:Nat)) [T,K,Wd,o3,o4,o5]=(bif is.all λi=>(stL ks).all λs=>decide (n.getD ((i+s.1)%n.length) 0<=n.getD i 0+s.2)then .ok (.nx ρ')else .ok (.rt (.bl false) ρ')):=λis=>by
   induction is with
   |nil=>intro _ o3 o4 o5;exact⟨_,rfl⟩
   | cons i is ih=>
    intro hi o3 o4 o5
    obtain⟨ρ1,q1,e1⟩:=inn i (hi i mS_) (stL ks) o4 o5
    have s:(uO (jD (qh qF (qa (dv 1) (ret [])))) (vK 2 (qL (qm 4) (qL (qm 5) vJ))) (sif (tst (d2 gtD (d2 ixD (dv 0) (d2 jM (d2 zb (dv 3) (dv 4)) (dv 2))) (d2 zb (d2 ixD (dv 0) (dv 3)) (dv 5)))) (ji (ret (.bl false))) yq)) [T,K,Wd,some (nD i),o4,o5]=(bif (stL ks).all λs=>decide (n.getD ((i+s.1)%n.length) 0<=n.getD i 0+s.2)then .ok (.nx ρ1)else .ok (.rt (.bl false) ρ1)):=by
     rw[yd,qcI,zJ (a:=.tup (ks.map kD)) rfl (vh ks h hl hne)]
     exact q1
    rw[mC_]
    cases ha:(stL ks).all λs=>decide (n.getD ((i+s.1)%n.length) 0<=n.getD i 0+s.2) with
    |true=>
     obtain⟨p4,p5,rfl⟩:=e1 ha
     obtain⟨ρ',q⟩:=ih (λx hx=>hi x (mM _ hx)) (some (nD i)) p4 p5
     rw[ha]at s
     refine⟨ρ',?_⟩
     rw[yH (ρ1:=[T,K,Wd,some (nD i),o4,o5]) rfl s,q,ya3,ha,yaS]
    |false=>
     rw[ha]at s
     refine⟨ρ1,?_⟩
     rw[ya3,ha,ybe]
     exact qhU (ρ1:=[T,K,Wd,some (nD i),o4,o5]) rfl s
  obtain⟨ρ',q⟩:=out (yap n.length) (λi hi=>mR_.mp hi) none none none
  have lp:(uO (yC (qa (dv 2) (ret []))) (qm 3) (uO (jD (qh qF (qa (dv 1) (ret [])))) (vK 2 (qL (qm 4) (qL (qm 5) vJ))) (sif (tst (d2 gtD (d2 ixD (dv 0) (d2 jM (d2 zb (dv 3) (dv 4)) (dv 2))) (d2 zb (d2 ixD (dv 0) (dv 3)) (dv 5)))) (ji (ret (.bl false))) yq))) ρ=(bif ju (stL ks) n then .ok (.nx ρ')else .ok (.rt (.bl false) ρ')):=by
   rw[yd,ut (j:=(n.length:Nat)) (ρ1:=ρ) (qae rfl) (by omega) (by omega),yaW,qoW]
   exact q
  unfold qZ wz
  have s0:(zp 2 (d2 ixD (d2 ixD (dv 1) (qh qV (qa (dv 1) (ret [])))) (ret (.int 0)))) [T,K,none,none,none,none]=.ok (.nx ρ):=by
   have e:D.int (ld ks).1=nD n.length:=by unfold nD;rw[hn,g1]
   have c:=qk (qa8 ks h hl hne (ρ:=[T,K,none,none,none,none]) (i:=1) rfl) (g:=ret (.int 0)) rfl (yV (ld ks))
   rw[e]at c
   rw[yf c]
   rfl
  have s1:(sif (tor (qay (tst (qdm "tuple" (dv 0)))) (tor (tst (d2 neB (qw uk (qa (dv 0) (ret []))) (dv 2))) (qay (tst (qw qc8 (qa (z7 1 [] none (jD (dv 0)) (qm 0) (ret true) (qh z9 (qa (dv 0) (ret [])))) (ret []))))))) (ji (ret (.bl false))) yq) ρ=.ok (.nx ρ):=by
   have c:z7 1 [] none (jD (dv 0)) (qm 0) (ret true) (qh z9 (qa (dv 0) (ret []))) ρ=.ok (.lst (n.map λ_=>D.bl true),ρ):=uJ (r:=[]) (k:=nD) n (λ_=>D.bl true) rfl rfl (by omega) λx _=>zJ rfl (vf _)
   have a:qc8 [.lst (n.map λ_=>D.bl true)]=some (.bl true):=qe0 n
   refine qfJ (qjY rfl (qjY (z8 (qk (zD rfl (qcZ true n)) rfl ?_)) (vg (b:=true) (z8 (zD c a)))))
   exact(qb8 _ _).trans (by rw[decide_eq_true rfl];rfl)
  have em:qw qcO (qa (dv 0) (ret [])) ρ=.ok (.int (qbs (n.map λx:Nat=>(x:Int))),ρ):=by
   refine zD (a:=.tup ((n.map λx:Nat=>(x:Int)).map D.int)) ?_ (qhV ?_)
   ·rw[mm_]
    rfl
   ·intro z
    rw[List.map_eq_nil_iff]at z
    rw[z]at hn0
    simp at hn0
  have hmin:0<=qbs (n.map λx:Nat=>(x:Int)):=by
   cases hnn:n with
   |nil=>rw[hnn]at hn0;simp at hn0
   | cons a b=>
    rw[mC_]
    rcases List.mem_cons.mp (qbR ((a:Nat):Int) (b.map λx:Nat=>(x:Int)))with e|e
    ·rw[e];omega
    ·obtain⟨x,_,e⟩:=mP_.mp e
     rw[<-e];omega
  have t0:tst (d2 ltD (qw qcO (qa (dv 0) (ret []))) (ret (.int 0))) ρ=.ok (false,ρ):=z8 (qk em rfl (by rw[qaU,decide_eq_false (by omega)]))
  have t1:tst (d2 neB (d2 ixD (dv 0) (ret (.int 0))) (ret (.int 0))) ρ=.ok (!decide (n.getD 0 0=0),ρ):=z8 (qk (qk rfl rfl (qdQ true (i:=0) hn0)) rfl ez)
  by_cases hz:n.getD 0 0=0
  ·rw [decide_eq_true hz]at t1 |-
   rw[yaS]
   have s2:(sif (tor (tst (d2 ltD (qw qcO (qa (dv 0) (ret []))) (ret (.int 0)))) (tst (d2 neB (d2 ixD (dv 0) (ret (.int 0))) (ret (.int 0))))) (ji (ret (.bl false))) yq) ρ=.ok (.nx ρ):=qfJ (qjY t0 t1)
   cases hk:ju (stL ks) n with
   |true=>
    rw[hk]at lp
    exact uZ rfl ⟨ρ',(qp s0).trans ((qp s1).trans ((qp s2).trans ((qp lp).trans rfl)))⟩
   |false=>
    rw[hk]at lp
    exact uZ rfl ⟨ρ',(qp s0).trans ((qp s1).trans ((qp s2).trans (yn lp)))⟩
  ·rw[decide_eq_false hz]at t1 |-
   rw[ybe]
   exact uZ rfl ⟨ρ,(qp s0).trans ((qp s1).trans (yn ((qfI (qdS t0 t1)).trans rfl)))⟩
 ·let ρ:Env:=[some (cD true n),some (.tup (ks.map kD))]
  unfold qY jI
  have s0:(sif (tor (qay (tst (qdm "tuple" (dv 0)))) (tst (d2 neB (qw uk (qa (dv 0) (ret []))) (d2 ixD (qh zP (qa (dv 1) (ret []))) (ret (.int 0)))))) (ji (ret (.bl false))) yq) ρ=.ok (.nx ρ):=by
   refine qfJ (qjY rfl (z8 (qk (zD rfl (qcZ true n)) (qk (zJ rfl (jn ks h hl hne)) rfl (yV _)) ?_)))
   show neB (.int (n.length:Nat)) (.int (ld ks).1)=_
   rw[qaS,hn,g1,decide_eq_true rfl]
   rfl
  have c:z7 1 [] none (jD (dv 0)) (qm 0) (ret true) (qh zU (qa (dv 0) (ret []))) ρ=.ok (.lst (n.map λ_=>D.bl true),ρ):=by
   refine uJ (r:=[]) (k:=nD) n (λ_=>D.bl true) rfl rfl (by omega) λx _=>zJ rfl ?_
   rw[jg]
   have:jk (nD x)=true:=by
    show decide (0<=((x:Nat):Int))=true
    exact decide_eq_true (by omega)
   rw[this]
  have a:qc8 [.lst (n.map λ_=>D.bl true)]=some (.bl true):=qe0 n
  have t1:tst (d2 neB (d2 ixD (dv 0) (ret (.int 0))) (ret (.int 0))) ρ=.ok (!decide (n.getD 0 0=0),ρ):=z8 (qk (qk rfl rfl (qdQ true (i:=0) hn0)) rfl ez)
  have t0:=vg (z8 (zD c a))
  by_cases hz:n.getD 0 0=0
  ·rw[decide_eq_true hz]at t1 |-
   rw[yaS]
   exact uZ rfl ⟨ρ,(qp s0).trans ((qp (ρ':=ρ) (qfJ (qjY t0 t1))).trans (qaX (w8 rfl (zJ rfl (vH ks h hl hne)) (yk true n hn0 (stL ks)))))⟩
  ·rw[decide_eq_false hz]at t1 |-
   rw[ybe]
   exact uZ rfl ⟨ρ,(qp s0).trans (yn ((qfI (qdS t0 t1)).trans rfl))⟩
end
theorem qo2{t:M Bool}{f g:M D}{ρ:Env}(h:t ρ=.ok (true,ρ)):dif t f g ρ=f ρ:=by rw[qiy,h];rfl
theorem qo3{t:M Bool}{f g:M D}{ρ:Env}(h:t ρ=.ok (false,ρ)):dif t f g ρ=g ρ:=by rw[qiy,h];rfl
theorem qb9 {w e:Nat} {d:D} (h:wx w e d) (hw:w<=100000) (he:e<=50):jS d=true:=by
 have h1:=PyData.shown_le 40 (by omega) _ h.lv
 have h2:(40+2)*(qM d).weight<=42*100000:=Nat.mul_le_mul_left _ (yay h.wt hw)
 have h3:=h.dp
 have e1:(qM d).shown.length<=yai:=by rw[yd7];omega
 have e2:(qM d).depth<=50:=by omega
 simp only[jS,h.sh,e1,e2,decide_true,yaS]
theorem rE{d:D}(h:jS d=true):zB [d]=some (.str (qM d).shown):=by simp only[zB,h,if_true]
theorem qnQ:jS .non=true:=qb9 (w:=130) (e:=5) (wN (by decide +kernel)) (by omega) (by omega)
theorem qhX {i:Int} (h:i.natAbs<2 ^ 1920):jS (.int i)=true:=by
 have hl:i.natAbs.log2<1920:=by
  by_cases h0:i.natAbs=0
  ·rw[h0];decide
  ·exact(yc1 h0).mpr h
 have hs:(qM (.int i)).showable=true:=decide_eq_true hl
 have e:=ydv (a:=i) (k:=600) (by decide) (yaw h (by decide +kernel))
 have e1:(qM (.int i)).shown.length<=yai:=by
  rw[yd7]
  show(ybb (ybm i)).length<=_
  rw[ydm]
  omega
 have e2:(qM (.int i)).depth<=50:=yaF _
 simp only[jS,hs,e1,e2,decide_true,yaS]
theorem qjl {A:Int} {x w:Nat} (h0:0<=A) (hA:A.natAbs<2 ^ 1920) (hx:x<2 ^ 1920) (hw:1<=w):jS (.int ((A-((x:Nat):Int))/((w:Nat):Int)))=true:=by
 refine qhX ?_
 by_cases c:((x:Nat):Int)<=A
 ·have h1:0<=(A-((x:Nat):Int))/((w:Nat):Int):=Int.ediv_nonneg (by omega) (by omega)
  have h2:(A-((x:Nat):Int))/((w:Nat):Int)<=A-((x:Nat):Int):=Int.ediv_le_self _ (by omega)
  omega
 ·have h1:(A-((x:Nat):Int))/((w:Nat):Int)<=0:=Int.ediv_le_of_le_mul (by omega) (by omega)
  have h2:A-((x:Nat):Int)<=(A-((x:Nat):Int))/((w:Nat):Int):=Int.le_ediv_of_mul_le (by omega) (by
   have:=Int.mul_nonneg (show 0 <= -(A-((x:Nat):Int)) by omega) (show 0<=((w:Nat):Int)-1 by omega)
   rw[ydF,Int.mul_sub,Int.mul_one]at this
   omega)
  omega
theorem qe1:∀(ds:List D),yaI (toPDs ds)=true->∀d∈ds,(qM d).showable=true
 | [],_,d,hd=>by cases hd
 |x::ds,h,d,hd=>by
  simp only[toPDs,yaI,yam]at h
  rcases List.mem_cons.mp hd with rfl|hd
  ·exact h.1
  ·exact qe1 ds h.2 d hd
theorem qnR {w e:Nat} {n:List Nat} (h:wx w e (cD true n)) (j:Nat):n.getD j 0<2 ^ 1920:=by
 by_cases hj:j<n.length
 ·have h2:yaI (toPDs (n.map nD))=true:=by
   have:=h.sh
   simpa only[cD,if_true,qM,ybv] using this
  have hm:n[j]∈n:=ycr hj
  have:=qe1 _ h2 (nD n[j]) (ycE hm)
  have hl:(((n[j]:Nat):Int).natAbs).log2<1920:=of_decide_eq_true this
  rw[ycl]at hl
  rw[List.getD_eq_getElem?_getD,gG hj]
  show n[j]<2 ^ 1920
  by_cases h0:n[j]=0
  ·rw[h0];decide +kernel
  ·exact(yc1 h0).mp hl
 ·rw[List.getD_eq_getElem?_getD,List.getElem?_eq_none (by omega)]
  show(0:Nat)<2 ^ 1920
  decide +kernel
section
variable(ks:List Kd)(h:∀k∈ks,vG k)(hl:ks.length<=12)(hne:0<ks.length)
include h hl hne
theorem qhY {t:D} (hb:¬ ∃n,t=cD true n/\n.length=(kn (ld ks)).1):qZ [t,.tup (ks.map kD)]=.ok (.bl false)/\qY [t,.tup (ks.map kD)]=.ok (.bl false):=by
 have hw:=w20 ks h hl hne
 have g1:=kn1 (yL h hne)
 let K:Option D:=some (.tup (ks.map kD))
 let Wd:Option D:=some (nD (kn (ld ks)).1)
 let ρ:Env:=[some t,K,Wd,none,none,none]
 let ρ2:Env:=[some t,K]
 have s0:(zp 2 (d2 ixD (d2 ixD (dv 1) (qh qV (qa (dv 1) (ret [])))) (ret (.int 0)))) [some t,K,none,none,none,none]=.ok (.nx ρ):=by
  have e:D.int (ld ks).1=nD (kn (ld ks)).1:=by unfold nD;rw[g1]
  have c:=qk (qa8 ks h hl hne (ρ:=[some t,K,none,none,none,none]) (i:=1) rfl) (g:=ret (.int 0)) rfl (yV (ld ks))
  rw[e]at c
  rw[yf c]
  rfl
 unfold qZ wz qY jI
 cases t with
 | tup xs=>
  have a1:=qjk (T:="tuple") (ρ:=ρ) (d:=.tup xs) 0 rfl (vQ xs)
  have b1:=qjk (T:="tuple") (ρ:=ρ2) (d:=.tup xs) 0 rfl (vQ xs)
  have a2:tst (d2 neB (qw uk (qa (dv 0) (ret []))) (dv 2)) ρ=.ok (!decide (xs.length=(kn (ld ks)).1),ρ):=z8 (qk (zD (a:=.tup xs) rfl (yN xs)) rfl (qb8 _ _))
  have b2:tst (d2 neB (qw uk (qa (dv 0) (ret []))) (d2 ixD (qh zP (qa (dv 1) (ret []))) (ret (.int 0)))) ρ2=.ok (!decide (xs.length=(kn (ld ks)).1),ρ2):=by
   refine z8 (qk (zD (a:=.tup xs) rfl (yN xs)) (qk (zJ rfl (jn ks h hl hne)) rfl (yV _)) ?_)
   show neB (.int (xs.length:Nat)) (.int (ld ks).1)=_
   rw[<-g1]
   exact qb8 _ _
  by_cases c:xs.length=(kn (ld ks)).1
  ·rw [decide_eq_true c]at a2 b2
   have hnc:xs.all jk=false:=by
    cases hc:xs.all jk with
    |false=>rfl
    |true=>
     obtain⟨n,e⟩:=qeZ xs (List.all_eq_true.mp hc)
     exact absurd ⟨n,by rw[e];rfl,by rw[<-c,e,lM_]⟩ hb
   have cc:=uJ (e:=qh zU (qa (dv 0) (ret []))) (xs:=jD (dv 0)) (fr:=[]) (ρ:=ρ2) (r:=[]) (k:=λd:D=>d) xs (λd=>D.bl (jk d)) (by rw[yeA];rfl) rfl (by omega) λd _=>zJ rfl (jg d)
   have b3:=vg (z8 (zD cc qam))
   rw[hnc]at b3
   have cw:=uJ (e:=qh z9 (qa (dv 0) (ret []))) (xs:=jD (dv 0)) (fr:=[]) (ρ:=ρ) (r:=[]) (k:=λd:D=>d) xs (λd=>D.bl (qaV d)) (by rw[yeA];rfl) rfl (by omega) λd _=>zJ rfl (vf d)
   have a3:=vg (z8 (zD cw qam))
   refine⟨?_,uZ rfl ⟨ρ2,(qp (ρ':=ρ2) (qfJ (qjY b1 b2))).trans (yn ((qfI (qnB b3)).trans rfl))⟩⟩
   cases hwh:xs.all qaV with
   |false=>
    rw[hwh]at a3
    exact uZ rfl ⟨ρ,(qp s0).trans (yn ((qfI (qdS a1 (qdS a2 a3))).trans rfl))⟩
   | true=>
    rw[hwh]at a3
    obtain⟨ns,rfl⟩:=qeY xs (List.all_eq_true.mp hwh)
    have hne':ns≠[]:=λz=>by rw[z]at c;simp at c;omega
    obtain ⟨y,hy,hy2⟩:∃y∈ns,y<0:=by
     rw[yea]at hnc
     obtain⟨d,hd,e⟩:=hnc
     obtain⟨y,hy,rfl⟩:=mP_.mp hd
     refine⟨y,hy,?_⟩
     have:¬decide (0<=y)=true:=e
     rw[decide_eq_true_eq]at this
     omega
    have hmin:qbs ns<0:=by
     cases ns with
     |nil=>exact absurd rfl hne'
     |cons a b=>
      have:=qdy a b y hy
      omega
    have t0:tst (d2 ltD (qw qcO (qa (dv 0) (ret []))) (ret (.int 0))) ρ=.ok (true,ρ):=z8 (qk (zD (a:=.tup (ns.map D.int)) rfl (qhV hne')) rfl (by rw[qaU,decide_eq_true hmin]))
    exact uZ rfl ⟨ρ,(qp s0).trans ((qp (ρ':=ρ) (qfJ (qjY a1 (qjY a2 a3)))).trans (yn ((qfI (qnB t0)).trans rfl)))⟩
  ·rw[decide_eq_false c]at a2 b2
   exact⟨uZ rfl ⟨ρ,(qp s0).trans (yn ((qfI (qdS a1 (qnB a2))).trans rfl))⟩,uZ rfl ⟨ρ2,yn ((qfI (qdS b1 b2)).trans rfl)⟩⟩
 |_=>exact⟨uZ rfl ⟨ρ,(qp s0).trans (yn ((qfI (qnB (qjk (T:="tuple") (ρ:=ρ) 0 rfl (b:=false) (by first|decide|rfl)))).trans rfl))⟩,uZ rfl ⟨ρ2,yn ((qfI (qnB (qjk (T:="tuple") (ρ:=ρ2) 0 rfl (b:=false) (by first|decide|rfl)))).trans rfl)⟩⟩
theorem qlS (t:D):∃b,qZ [t,.tup (ks.map kD)]=.ok (.bl b)/\qY [t,.tup (ks.map kD)]=.ok (.bl b)/\(b=true->∃n,t=cD true n/\n.length=(kn (ld ks)).1):=by
 by_cases hb:∃n,t=cD true n/\n.length=(kn (ld ks)).1
 ·obtain⟨n,rfl,hn⟩:=hb
  obtain⟨e1,e2⟩:=qhW ks h hl hne hn
  exact⟨_,e1,e2,λ_=>⟨n,rfl,hn⟩⟩
 ·obtain⟨e1,e2⟩:=qhY ks h hl hne hb
  exact⟨false,e1,e2,λz=>by cases z⟩
theorem qfN {t:D} (ht:wx 26210 7 t) (room:Nat) (hb:room<=10 ^ 31) (S I B Md Pp Od Th o12 o13:Option D) :
  ∃q12 q13,(qN (zp 12 (qw zB (qa (dv 11) (ret [])))) (qN (zp 13 (dif (tst (qh qZ (qa (dv 11) (qa (dv 3) (ret []))))) (d2 j9 (d2 qbg (d2 qdb (dv 10) (dv 5)) (d2 ixD (dv 11) (d2 jM (dv 10) (dv 4)))) (dv 4)) (ret .non))) (sif (tor (tst (d2 neB (qw zB (qa (qh qS (qa (dv 11) (qa (dv 3) (qa (dv 10) (ret []))))) (ret []))) (qw zB (qa (dv 13) (ret []))))) (tst (d2 neB (qw zB (qa (dv 11) (ret []))) (dv 12)))) (ji (ret (.bl false))) yq))) [S,I,B,some (.tup (ks.map kD)),some (.int (ld ks).1),some (.int (ld ks).2.1),Md,Pp,Od,Th,some (.int (room:Nat)),some t,o12,o13]=.ok (.nx [S,I,B,some (.tup (ks.map kD)),some (.int (ld ks).1),some (.int (ld ks).2.1),Md,Pp,Od,Th,some (.int (room:Nat)),some t,q12,q13]):=by
 have hw:=w20 ks h hl hne
 have gl:=yL h hne
 have g1:=kn1 gl
 have g2:=kn2 gl
 obtain⟨p1,p2,p3,p4,_⟩:=gl
 obtain⟨b,e1,e2,hbn⟩:=qlS ks h hl hne t
 have okt:jS t=true:=qb9 ht (by omega) (by omega)
 let T:Option D:=some (.tup (ks.map kD))
 let A4:Option D:=some (.int (ld ks).1)
 let A5:Option D:=some (.int (ld ks).2.1)
 let Rm:Option D:=some (.int (room:Nat))
 let H:Option D:=some (.str (qM t).shown)
 let ρ0:Env:=[S,I,B,T,A4,A5,Md,Pp,Od,Th,Rm,some t,o12,o13]
 let ρ1:Env:=[S,I,B,T,A4,A5,Md,Pp,Od,Th,Rm,some t,H,o13]
 have s0:(zp 12 (qw zB (qa (dv 11) (ret [])))) ρ0=.ok (.nx ρ1):=yf (zD (a:=t) rfl (rE okt))
 obtain ⟨d,ed1,ed2,okd⟩:∃d,qS [t,.tup (ks.map kD),.int (room:Nat)]=.ok d/\(dif (tst (qh qZ (qa (dv 11) (qa (dv 3) (ret []))))) (d2 j9 (d2 qbg (d2 qdb (dv 10) (dv 5)) (d2 ixD (dv 11) (d2 jM (dv 10) (dv 4)))) (dv 4)) (ret .non)) ρ1=.ok (d,ρ1)/\jS d=true:=by
  let r0:Env:=[some t,T,Rm,none]
  have n0:=qaY (w8 (F:=zG) (ρ:=r0) (f:=dv 1) (g:=dv 2) rfl rfl (uB ks h hl hne room))
  have c1:tst (qh qZ (qa (dv 11) (qa (dv 3) (ret [])))) ρ1=.ok (b,ρ1):=z8 (w8 rfl rfl e1)
  have c2:qay (tst (qh qY (qa (dv 0) (qa (dv 1) (ret []))))) r0=.ok (!b,r0):=vg (z8 (w8 rfl rfl e2))
  cases b with
  | false=>
   refine⟨.non,?_,?_,qnQ⟩
   ·unfold qS yQ
    exact uZ rfl ⟨r0,(qp n0).trans (yn ((qfI c2).trans rfl))⟩
   ·exact(qo3 c1).trans rfl
  | true=>
   obtain⟨n,rfl,hn⟩:=hbn rfl
   have hx:=qnR ht (room%(kn (ld ks)).1)
   have hix:ixD (cD true n) (.int ((room%(kn (ld ks)).1:Nat):Int))=some (nD (n.getD (room%(kn (ld ks)).1) 0)):=qdQ true (by rw[hn];exact yba _ (by omega))
   have hA0:(0:Int)<=((room:Nat):Int)*(ld ks).2.1:=Int.mul_nonneg (by omega) p3
   have hA:(((room:Nat):Int)*(ld ks).2.1).natAbs<2 ^ 1920:=by
    rw[Int.natAbs_mul,ycl]
    have h1:room*((ld ks).2.1).natAbs<=10 ^ 31*10 ^ 21:=Nat.mul_le_mul hb (by omega)
    exact ybN h1 (by decide +kernel)
   refine⟨.int ((((room:Nat):Int)*(ld ks).2.1-((n.getD (room%(kn (ld ks)).1) 0:Nat):Int))/(((kn (ld ks)).1:Nat):Int)),?_,?_,qjl hA0 hA hx hw.1⟩
   ·unfold qS yQ
    let r1:Env:=[some (cD true n),T,Rm,some (kD (ld ks))]
    refine uZ rfl ⟨r1,(qp n0).trans ((qp (ρ':=r0) (qfJ c2)).trans ((qp (ρ':=r1) (yf (zJ rfl (jn ks h hl hne)))).trans (qaX ?_)))⟩
    have m2:d2 jM (dv 2) (d2 ixD (dv 3) (ret (.int 0))) r1=.ok (.int ((room%(kn (ld ks)).1:Nat):Int),r1):=qk rfl (qk rfl rfl (yV _)) (by rw[<-g1];exact wV room _ (by omega))
    refine qk (qk (qk rfl (qk rfl rfl (qb0 _)) (mw (by omega) (by omega))) (qk rfl m2 hix) (ww _ _)) (qk rfl rfl (yV _)) ?_
    rw[ud (by omega) (by omega),g1]
   ·refine(qo2 c1).trans ?_
    have m2:d2 jM (dv 10) (dv 4) ρ1=.ok (.int ((room%(kn (ld ks)).1:Nat):Int),ρ1):=qk rfl rfl (by rw[<-g1];exact wV room _ (by omega))
    refine qk (qk (qk rfl rfl (mw (by omega) (by omega))) (qk rfl m2 hix) (ww _ _)) rfl ?_
    rw[ud (by omega) (by omega),g1]
 let ρ2:Env:=[S,I,B,T,A4,A5,Md,Pp,Od,Th,Rm,some t,H,some d]
 have s1:(zp 13 (dif (tst (qh qZ (qa (dv 11) (qa (dv 3) (ret []))))) (d2 j9 (d2 qbg (d2 qdb (dv 10) (dv 5)) (d2 ixD (dv 11) (d2 jM (dv 10) (dv 4)))) (dv 4)) (ret .non))) ρ1=.ok (.nx ρ2):=by
  rw[yf ed2]
  rfl
 have t1:=z8 (qk (ρ:=ρ2) (zD (qnC (f:=dv 11) (g:=dv 3) (h:=dv 10) rfl rfl rfl ed1) (rE okd)) (zD (f:=dv 13) (a:=d) rfl (rE okd)) (qdK _))
 have t2:=z8 (qk (ρ:=ρ2) (zD (f:=dv 11) (a:=t) rfl (rE okt)) (g:=dv 12) rfl (qdK _))
 exact⟨H,some d,(qp s0).trans ((qp s1).trans ((qfJ (qdS t1 t2)).trans rfl))⟩
end
theorem qe2 (xs:List D) (j:Nat):qfS xs (some (j:Int)) none=xs.drop j:=by
 unfold qfS
 rw[HT.sIx_none,HT.sIx_nat,yeY (by simp)]
 by_cases c:j<=xs.length
 ·rw[ydt c]
 ·rw[yep (by omega),ye0 (by omega),ye0 (by omega)]
theorem qo4 {f:M D} {p q:M (Option Int)} {ρ:Env} {X Y:D} {l u:Option Int} (ef:f ρ=.ok (X,ρ)) (ep:p ρ=.ok (l,ρ)) (eq:q ρ=.ok (u,ρ)) (es:slB X l u=some Y):qha f p q ρ=.ok (Y,ρ):=by
 rw[qnc,ef]
 simp only[ep,eq,es]
theorem pt1{g:M D}{ρ:Env}{j:Int}(e:g ρ=.ok (.int j,ρ)):qac g ρ=.ok (some j,ρ):=by rw[qdu,e]
theorem qo5 {f:M D} {ρ:Env} {d:D} (e:f ρ=.ok (d,ρ)):jO (qa f (ret [])) ρ=.ok (.tup [d],ρ):=by
 rw[w6,qae e]
 simp only[lC_,lN_,ybc,ye (show 1<=1000000 by omega),if_true]
theorem qhZ {m q:Nat} (h:q<m):ixN m ((q:Nat):Int)=some q:=by
 unfold ixN
 rw[if_pos (by omega),if_pos (by omega),yaW]
theorem qlT {i j1 j2 a z u v:Nat} {f:M D} {ρ:Env} {L:List Nat} (hf:f ρ=.ok (.tup [nD u,nD v],ρ)) (hg:zH i ρ=some (L.map nD)) (h1:ρ[j1]? = some (some (.int (a:Nat)))) (h2:ρ[j2]? = some (some (.int (z:Nat)))) (ha:a<L.length) (hz:z<L.length) :
  qhx i j1 j2 f ρ=.ok (.nx (ρ.set i (some (.lst (((L.set a u).set z v).map nD))))):=by
 have e1:ixN (L.map nD).length ((a:Nat):Int)=some a:=qhZ (by rw[lM_];exact ha)
 have e2:ixN (L.map nD).length ((z:Nat):Int)=some z:=qhZ (by rw[lM_];exact hz)
 unfold qhx sbnd
 rw[hf]
 simp only[hg,h1,h2,e1,e2,qj9,yaR,if_true]
 rw[yf0,yf0]
theorem qjm {x:Nat} (h:x<=10 ^ 24):wx 130 5 (.str (ybm ((x:Nat):Int))):=by
 have e:=ydv (a:=((x:Nat):Int)) (k:=39) (by decide) (by rw[ycl];exact ybN h (by decide +kernel))
 have hl:(ybb (ybm ((x:Nat):Int))).length<=40:=by rw[ydm];exact e
 refine⟨?_,rfl,?_,yaF _⟩
 ·show ((ybb (ybm ((x:Nat):Int))).cps.toList.all λc=>decide (c<16 ^ 8))=true
  refine List.all_eq_true.mpr λc hc=>decide_eq_true ?_
  by_cases hh:c≠45/\(c<48\/57<c)
  ·exact absurd hc (shown_int_free' hh _)
  ·have:(16:Nat) ^ 8=4294967296:=by decide
   omega
 ·show(ybb (ybm ((x:Nat):Int))).length<=130
  omega
theorem vz{x:Nat}(h:x<=10 ^ 24):wx 130 5 (nD x):=(qeH (by rw[ycl];exact ybN h (by decide +kernel))).mono (by omega) (by omega)
def qc3(x:Nat)(d:D):List D:=[.int ((x:Int)+1),.int ((x:Int)-1),.int 0,.bl true,.str (ybm ((x:Nat):Int)),d,.int ((x:Int)/2)]
def qo6(n:List Nat)(z:Nat)(c:D):D:=.tup ((n.take z).map nD++[c]++(n.drop (z+1)).map nD)
def qjn(n:List Nat)(a z:Nat):List D:=[.tup (((n.set a (n.getD z 0)).set z (n.getD a 0)).map nD),.tup ((n.drop 1).map nD),.tup (n.map nD++[.int 0]),.lst (n.map nD),.tup (n.map nD).reverse,.tup (n.map λx=>nD (x/2))]
theorem qh0 {n:List Nat} (hb:∀x∈n,x<=10 ^ 24) (hl:n.length<=20) {d:D} (hd:wx 130 5 d) (a z:Nat):∀y∈(qc3 (n.getD a 0) d).map (qo6 n a)++qjn n a z,wx 2751 6 y:=λy hy=>by
 have N:∀d∈n.map nD,wx 130 5 d:=λd hd=>by
  obtain⟨v,hv,rfl⟩:=mP_.mp hd
  exact vz (hb v hv)
 have hg:∀j,n.getD j 0<=10 ^ 24:=λj=>by
  by_cases hj:j<n.length
  ·rw[List.getD_eq_getElem?_getD,gG hj]
   exact hb _ (ycr hj)
  ·rw[List.getD_eq_getElem?_getD,List.getElem?_eq_none (by omega)]
   exact yaF _
 have c24:(10:Nat) ^ 24=1000000000000000000000000:=by decide +kernel
 have c39:(10:Nat) ^ 39=1000000000000000000000000000000000000000:=by decide +kernel
 have hga:=hg a
 rw[c24]at hga
 have IN:∀i:Int,i.natAbs<=2000000000000000000000000->wx 130 5 (.int i):=λi hi=>(qeH (by rw[c39];omega)).mono (by omega) (by omega)
 rcases mA_.mp hy with hy|hy
 ·obtain ⟨c,hc,rfl⟩:=mP_.mp hy
  have nc:wx 130 5 c:=by
   simp only[qc3,yax,nN_,or_false]at hc
   rcases hc with rfl|rfl|rfl|rfl|rfl|rfl|rfl
   ·exact IN _ (by omega)
   ·exact IN _ (by omega)
   ·exact wN (by decide +kernel)
   ·exact wN (by decide +kernel)
   ·exact qjm (hg a)
   ·exact hd
   ·exact IN _ (by omega)
  refine uv (w:=130) (e:=5) (n:=21) (λd hd=>?_) (by simp only[lA_,lM_,ybK,yb6,yaM];omega)
  rcases mA_.mp hd with hd|hd
  ·rcases mA_.mp hd with hd|hd
   ·exact N d (by obtain⟨v,hv,rfl⟩:=mP_.mp hd;exact ycE (yfs hv))
   ·rw[ydR]at hd
    rw[hd]
    exact nc
  ·exact N d (by obtain⟨v,hv,rfl⟩:=mP_.mp hd;exact ycE (ydw hv))
 ·simp only[qjn,yax,nN_,or_false]at hy
  rcases hy with rfl|rfl|rfl|rfl|rfl|rfl
  ·refine uv (w:=130) (e:=5) (n:=21) (λd hd=>?_) (by simp only[lM_,lS_];omega)
   obtain⟨v,hv,rfl⟩:=mP_.mp hd
   rcases yed hv with hv|rfl
   ·rcases yed hv with hv|rfl
    ·exact vz (hb v hv)
    ·exact vz (hg z)
   ·exact vz (hg a)
  ·exact uv (w:=130) (e:=5) (n:=21) (λd hd=>N d (by obtain⟨v,hv,rfl⟩:=mP_.mp hd;exact ycE (ydw hv))) (by simp only[lM_,yb6];omega)
  ·refine uv (w:=130) (e:=5) (n:=21) (λd hd=>?_) (by simp only[lA_,lM_,yaM];omega)
   rcases mA_.mp hd with hd|hd
   ·exact N d hd
   ·rw[ydR]at hd
    rw[hd]
    exact wN (by decide +kernel)
  ·exact qi8 (w:=130) (e:=5) (n:=21) N (by rw[lM_];omega)
  ·exact uv (w:=130) (e:=5) (n:=21) (λd hd=>N d (List.mem_reverse.mp hd)) (by rw[ycC,lM_];omega)
  ·refine uv (w:=130) (e:=5) (n:=21) (λd hd=>?_) (by rw[lM_];omega)
   obtain⟨v,hv,rfl⟩:=mP_.mp hd
   exact vz (yay (Nat.div_le_self _ _) (hb v hv))
theorem qc4 {n:List Nat} (hn0:0<n.length) (hb:∀x∈n,x<=10 ^ 24) (hl:n.length<=20) {d:D} (hd:wx 130 5 d) (b:Int):∃t b',qK [.int b] [cD true n,d]=.ok (t,[.int b'])/\wx 26210 7 t:=by
 have hlen:uk [cD true n]=some (.int (n.length:Nat)):=qcZ true n
 obtain ⟨a,ha,hal⟩:∃a:Nat,b%((n.length:Nat):Int)=(a:Int)/\a<n.length:=by
  have h1:0<=b%((n.length:Nat):Int):=yck _ (by omega)
  have h2:b%((n.length:Nat):Int)<((n.length:Nat):Int):=ybB _ (by omega)
  exact⟨(b%((n.length:Nat):Int)).toNat,by omega,by omega⟩
 let b1:=b/((n.length:Nat):Int)
 obtain ⟨z,hz,hzl⟩:∃z:Nat,b1%((n.length:Nat):Int)=(z:Int)/\z<n.length:=by
  have h1:0<=b1%((n.length:Nat):Int):=yck _ (by omega)
  have h2:b1%((n.length:Nat):Int)<((n.length:Nat):Int):=ybB _ (by omega)
  exact⟨(b1%((n.length:Nat):Int)).toNat,by omega,by omega⟩
 let b2:=b1/((n.length:Nat):Int)
 let b3:=b2/13
 let kd:=b2%13
 have k0:0<=kd:=by show 0<=b2%13;omega
 have k1:kd<13:=by show b2%13<13;omega
 let x:=n.getD a 0
 have hx:x<=10 ^ 24:=by
  show n.getD a 0<=_
  rw[List.getD_eq_getElem?_getD,gG hal]
  exact hb _ (ycr hal)
 let Pa:Option D:=some (cD true n)
 let Dd:Option D:=some d
 let At:Option D:=some (.int (a:Nat))
 let Zz:Option D:=some (.int (z:Nat))
 let Xx:Option D:=some (nD x)
 let N7:=(qc3 x d).map (qo6 n a)
 let N13:=N7++qjn n a z
 let sw:=(n.set a (n.getD z 0)).set z (n.getD a 0)
 let B0:Option D:=some (.lst [.int b])
 let B2:Option D:=some (.lst [.int b2])
 let B3:Option D:=some (.lst [.int b3])
 let ρ0:Env:=[B0,Pa,Dd,none,none,none,none,none]
 let ρ1:Env:=[B2,Pa,Dd,At,Zz,none,none,none]
 let ρ2:Env:=[B2,Pa,Dd,At,Zz,Xx,none,none]
 let ρ3:Env:=[B2,Pa,Dd,At,Zz,Xx,some (.lst N7),none]
 let ρ4:Env:=[B2,Pa,Dd,At,Zz,Xx,some (.lst N7),some (.lst (n.map nD))]
 let ρ5:Env:=[B2,Pa,Dd,At,Zz,Xx,some (.lst N7),some (.lst (sw.map nD))]
 let ρ6:Env:=[B2,Pa,Dd,At,Zz,Xx,some (.lst N13),some (.lst (sw.map nD))]
 let ρ7:Env:=[B3,Pa,Dd,At,Zz,Xx,some (.lst N13),some (.lst (sw.map nD))]
 have hL:(2:Nat) ^ 200=1606938044258990275541962092341162602522202993782792835301376:=by decide +kernel
 have s0:(qfR (jO (qa (qy ql 0 (qa (qw uk (qa (dv 1) (ret []))) (ret []))) (qa (qy ql 0 (qa (qw uk (qa (dv 1) (ret []))) (ret []))) (ret [])))) (vK 2 (qL (qm 3) (qL (qm 4) vJ)))) ρ0=.ok (.nx ρ1):=by
  have c1:qy ql 0 (qa (qw uk (qa (dv 1) (ret []))) (ret [])) ρ0=.ok (.int (a:Nat),[some (.lst [.int b1]),Pa,Dd,none,none,none,none,none]):=by
   rw[io1 (i:=0) (ρ:=ρ0) (ds:=[.int b]) (a:=.int (n.length:Nat)) rfl (zD (a:=cD true n) rfl hlen) (yX (by omega) (by omega)),ha]
   rfl
  have c2:qy ql 0 (qa (qw uk (qa (dv 1) (ret []))) (ret [])) [some (.lst [.int b1]),Pa,Dd,none,none,none,none,none]=.ok (.int (z:Nat),[B2,Pa,Dd,none,none,none,none,none]):=by
   rw[io1 (i:=0) (ρ:=[some (.lst [.int b1]),Pa,Dd,none,none,none,none,none]) (ds:=[.int b1]) (a:=.int (n.length:Nat)) rfl (zD (a:=cD true n) rfl hlen) (yX (by omega) (by omega)),hz]
   rfl
  have c:(jO (qa (qy ql 0 (qa (qw uk (qa (dv 1) (ret []))) (ret []))) (qa (qy ql 0 (qa (qw uk (qa (dv 1) (ret []))) (ret []))) (ret [])))) ρ0=.ok (.tup [.int (a:Nat),.int (z:Nat)],[B2,Pa,Dd,none,none,none,none,none]):=by
   rw[w6,zW,c1]
   simp only[zW,c2,qbP,lC_,lN_,ybc,yd1,ye (show 2<=1000000 by omega),if_true]
  rw[qcH,c]
  rfl
 have s1:(zp 5 (d2 ixD (dv 1) (dv 3))) ρ1=.ok (.nx ρ2):=yf (qk rfl rfl (qdQ true hal))
 have s2:(zp 6 (z7 1 [1,3] none (jD (jO (qa (d2 zb (dv 5) (ret (.int 1))) (qa (d2 qbg (dv 5) (ret (.int 1))) (qa (ret (.int 0)) (qa (ret (.bl true)) (qa (qw qlA (qa (dv 5) (ret []))) (qa (dv 2) (qa (d2 j9 (dv 5) (ret (.int 2))) (ret [])))))))))) (qm 0) (ret true) (d2 zb (d2 zb (qha (dv 1) (ret none) (qac (dv 2))) (jO (qa (dv 0) (ret [])))) (qha (dv 1) (qac (d2 zb (dv 2) (ret (.int 1)))) (ret none))))) ρ2=.ok (.nx ρ3):=by
  have es:qlA [nD x]=some (.str (ybm ((x:Nat):Int))):=by
   have hlg:(((x:Nat):Int).natAbs).log2<1920:=by
    rw[ycl]
    by_cases h0:x=0
    ·rw[h0];decide
    ·exact(yc1 h0).mpr (ybN hx (by decide +kernel))
   show(if decide ((((x:Nat):Int).natAbs).log2<1920)then _ else _)=_
   rw[decide_eq_true hlg]
   rfl
  have c1:d2 zb (dv 5) (ret (.int 1)) ρ2=.ok (.int ((x:Int)+1),ρ2):=qk rfl rfl (yr _ _)
  have c2:d2 qbg (dv 5) (ret (.int 1)) ρ2=.ok (.int ((x:Int)-1),ρ2):=qk rfl rfl (ww _ _)
  have c3:qw qlA (qa (dv 5) (ret [])) ρ2=.ok (.str (ybm ((x:Nat):Int)),ρ2):=zD rfl es
  have c4:dv 2 ρ2=.ok (d,ρ2):=rfl
  have c5:d2 j9 (dv 5) (ret (.int 2)) ρ2=.ok (.int ((x:Int)/2),ρ2):=qk rfl rfl (ud (by omega) (by omega))
  have lx:(jD (jO (qa (d2 zb (dv 5) (ret (.int 1))) (qa (d2 qbg (dv 5) (ret (.int 1))) (qa (ret (.int 0)) (qa (ret (.bl true)) (qa (qw qlA (qa (dv 5) (ret []))) (qa (dv 2) (qa (d2 j9 (dv 5) (ret (.int 2))) (ret [])))))))))) ρ2=.ok ((qc3 x d).map λd=>d,ρ2):=by
   rw[yeA,qcI,w6,zW,c1]
   simp only[zW,c2,c3,c4,c5,qbP,lC_,lN_,ybc,yd1,ye (show 7<=1000000 by omega),if_true]
   rfl
  exact yf (uJ (r:=[Pa,At]) (k:=λd:D=>d) (qc3 x d) (qo6 n a) lx rfl (by show 7<=1000000;omega) λc _=>by
   have er:∀c:D,dv 1 [some c,Pa,At]=.ok (.tup (n.map nD),[some c,Pa,At]):=λ_=>rfl
   have c1:=qo4 (p:=ret none) (er c) rfl (pt1 (g:=dv 2) (j:=(a:Nat)) rfl) (show slB (.tup (n.map nD)) none (some ((a:Nat):Int))=some (.tup ((n.take a).map nD)) by rw[slB,qjc _ a (by rw[lM_];omega),List.map_take])
   have c2:=qo4 (q:=ret none) (er c) (pt1 (g:=d2 zb (dv 2) (ret (.int 1))) (j:=((a+1:Nat):Int)) (qk rfl rfl rfl)) rfl (show slB (.tup (n.map nD)) (some ((a+1:Nat):Int)) none=some (.tup ((n.drop (a+1)).map nD)) by rw[slB,qe2,List.map_drop])
   exact qk (qk c1 (qo5 rfl) (qbX (by rw[lM_,ybK,yaM];omega))) c2 (qbX (by simp only[lA_,lM_,ybK,yb6,yaM];omega)))
 have s3:(vN 7 (qfw (dv 1))) ρ3=.ok (.nx ρ4):=by
  have c:qfw (dv 1) ρ3=.ok (n.map nD,ρ3):=by
   show lift (if immL (n.map nD)then some (n.map nD)else none) ρ3=_
   rw[qeX]
   rfl
  show vN 7 _ ρ3=_
  rw[qaJ,c]
  rfl
 have s4:(qhx 7 3 4 (jO (qa (qc9 7 (dv 4)) (qa (qc9 7 (dv 3)) (ret []))))) ρ4=.ok (.nx ρ5):=by
  have m1:n[z]? = some (n.getD z 0):=by rw[List.getD_eq_getElem?_getD,gG hzl];rfl
  have m2:n[a]? = some (n.getD a 0):=by rw[List.getD_eq_getElem?_getD,gG hal];rfl
  have c:jO (qa (qc9 7 (dv 4)) (qa (qc9 7 (dv 3)) (ret []))) ρ4=.ok (.tup [nD (n.getD z 0),nD (n.getD a 0)],ρ4):=ql0 (qhO (L:=n) rfl rfl m1) (qhO (L:=n) rfl rfl m2)
  exact qlT (i:=7) (j1:=3) (j2:=4) (ρ:=ρ4) (L:=n) c rfl rfl rfl hal hzl
 have s5:(zp 6 (d2 zb (dv 6) (wE (qa (qbM 7) (qa (qha (dv 1) (qac (ret (.int 1))) (ret none)) (qa (d2 zb (dv 1) (jO (qa (ret (.int 0)) (ret [])))) (qa (qw qdl (qa (dv 1) (ret []))) (qa (qdD (dv 1)) (qa (qw v3 (qa (z7 1 [] none (jD (dv 1)) (qm 0) (ret true) (d2 j9 (dv 0) (ret (.int 2)))) (ret []))) (ret [])))))))))) ρ5=.ok (.nx ρ6):=by
  have er:dv 1 ρ5=.ok (.tup (n.map nD),ρ5):=rfl
  have c0:qbM 7 ρ5=.ok (.tup (sw.map nD),ρ5):=rfl
  have c1:=qo4 (q:=ret none) er (pt1 (g:=ret (.int 1)) (j:=((1:Nat):Int)) rfl) rfl (show slB (.tup (n.map nD)) (some ((1:Nat):Int)) none=some (.tup ((n.drop 1).map nD)) by rw[slB,qe2,List.map_drop])
  have c2:d2 zb (dv 1) (jO (qa (ret (.int 0)) (ret []))) ρ5=.ok (.tup (n.map nD++[.int 0]),ρ5):=qk er (qo5 rfl) (qbX (by rw[lM_,yaM];omega))
  have c3:qw qdl (qa (dv 1) (ret [])) ρ5=.ok (.lst (n.map nD),ρ5):=zD er (qhF _)
  have c4:qdD (dv 1) ρ5=.ok (.tup (n.map nD).reverse,ρ5):=by
   rw[qle,er]
   rfl
  have c5:qw v3 (qa (z7 1 [] none (jD (dv 1)) (qm 0) (ret true) (d2 j9 (dv 0) (ret (.int 2)))) (ret [])) ρ5=.ok (.tup (n.map λx=>nD (x/2)),ρ5):=by
   have:=uJ (e:=d2 j9 (dv 0) (ret (.int 2))) (xs:=jD (dv 1)) (fr:=[]) (ρ:=ρ5) (r:=[]) (k:=nD) n (λx=>nD (x/2)) rfl rfl (by omega) λy _=>qk rfl rfl (by
    show j9 (.int ((y:Nat):Int)) (.int 2)=_
    rw[ud (by omega) (by omega)]
    rfl)
   exact zD this (qbx _)
  have c:(wE (qa (qbM 7) (qa (qha (dv 1) (qac (ret (.int 1))) (ret none)) (qa (d2 zb (dv 1) (jO (qa (ret (.int 0)) (ret [])))) (qa (qw qdl (qa (dv 1) (ret []))) (qa (qdD (dv 1)) (qa (qw v3 (qa (z7 1 [] none (jD (dv 1)) (qm 0) (ret true) (d2 j9 (dv 0) (ret (.int 2)))) (ret []))) (ret [])))))))) ρ5=.ok (.lst (qjn n a z),ρ5):=by
   rw[qcG,zW,c0]
   simp only[zW,c1,c2,c3,c4,c5,qbP,lC_,lN_,ybc,yd1,ye (show 6<=1000000 by omega),if_true]
   rfl
  exact yf (qk rfl c (qbW (by show 7+6<=1000000;omega)))
 obtain⟨y,hy,ey⟩:=qhD (ds:=N13) (k:=kd) k0 (by show kd<13;omega)
 have ny:=qh0 hb hl hd a z y hy
 refine⟨y,b3,?_,ny.mono (by omega) (by omega)⟩
 unfold qK uy
 refine qeh (ρ:=ρ7) rfl ?_ rfl
 refine(qp s0).trans ((qp s1).trans ((qp s2).trans ((qp s3).trans ((qp s4).trans ((qp s5).trans ?_)))))
 have cl:qy ql 0 (qa (ret (.int 13)) (ret [])) ρ6=.ok (.int kd,ρ7):=io1 (i:=0) (ρ:=ρ6) (ds:=[.int b2]) (a:=.int 13) rfl rfl (yX (by omega) (by omega))
 have cr:d2 ixD (dv 6) (qy ql 0 (qa (ret (.int 13)) (ret []))) ρ6=.ok (y,ρ7):=by
  have e6:dv 6 ρ6=.ok (.lst N13,ρ6):=rfl
  rw[qmZ,e6]
  simp only[cl,ey]
 rw[qaI,cr]
def qh1:List D:=[.non,.bl true,.bl false,.int (-1),.int 2,.str "",.str "1",.tup [.int 0],.lst [.int 1],.dic [(.inr "a",1)],.tup [.int (-1)],.tup [.bl true],.tup [.tup [.int 1]],.tup [.non],.int 100000000000000000000000000000,.lst []]
theorem qfO:qh1.all qlD=true:=by decide +kernel
theorem qo7:qda (.int 10) (.int 29)=some (.int 100000000000000000000000000000):=by
 have h:qgE 10 29=true:=by decide +kernel
 have e:(10:Int) ^ (29:Int).toNat=100000000000000000000000000000:=by decide +kernel
 simp only[qda,qfe,h,if_true,e]
theorem qo8:qda (.int 10) (.int 28)=some (.int 10000000000000000000000000000):=by
 have h:qgE 10 28=true:=by decide +kernel
 have e:(10:Int) ^ (28:Int).toNat=10000000000000000000000000000:=by decide +kernel
 simp only[qda,qfe,h,if_true,e]
theorem qo9 (n:Int):∃d n',j6 [.int n] []=.ok (d,[.int n'])/\wx 130 5 d:=by
 obtain⟨d,hd,e⟩:=qhD (ds:=qh1) (k:=n%16) (by omega) (by show n%16<16;omega)
 have hn:=List.all_eq_true.mp qfO d hd
 refine⟨d,n/16,?_,wN hn⟩
 unfold j6
 refine qeh (ρ:=[some (.lst [.int (n/16)]),some (.lst qh1)]) rfl ?_ rfl
 unfold vx
 refine(qp (ρ':=[some (.lst [.int n]),some (.lst qh1)]) ?_).trans ?_
 ·push_cast [neg_int,qo7,ye (show 0<=1000000 by omega),ye (show 1<=1000000 by omega),ye (show 16<=1000000 by omega),qh1]
 ·have k1:ql [.int n] [.int 16]=.ok (.int (n%16),[.int (n/16)]):=yX (by decide) (by decide)
  push_cast [k1,e]
theorem qnS (n:Nat):(yau n [D.int 0]).flatten=(yau n 0).map nD:=by
 induction n with
 |zero=>rfl
 |succ n ih=>rw[rS_,ybG,ih,rS_,mC_];rfl
theorem qqc (n:Nat) (h:n<=20):qhn (.tup [.int 0]) (.int (n:Nat))=some (cD true (yau n 0)):=by
 match n with
 |0=>rfl
 |1=>rfl
 |n+2=>
  have h1:¬(((n+2:Nat):Int)=0):=by omega
  have h2:¬(((n+2:Nat):Int)=1):=by omega
  have e1:([D.int 0]:List D).isEmpty=false:=rfl
  have e2:decide (2<=((n+2:Nat):Int))=true:=decide_eq_true (by omega)
  have e3:qW (([D.int 0]:List D).length*((n+2:Nat):Int).toNat)=true:=ye (by show 1*((n+2:Nat):Int).toNat<=1000000;omega)
  show(if([D.int 0]:List D).isEmpty then none else if((n+2:Nat):Int)=0 then some (.tup [])else if((n+2:Nat):Int)=1 then some (.tup [.int 0])else ym (.tup [.int 0]) (.int ((n+2:Nat):Int)))=_
  rw[if_neg (by rw[e1];simp),if_neg h1,if_neg h2]
  show(if(!([D.int 0]:List D).isEmpty&&decide (2<=((n+2:Nat):Int)))&&qW (([D.int 0]:List D).length*((n+2:Nat):Int).toNat)then some (D.tup (yau ((n+2:Nat):Int).toNat [.int 0]).flatten)else none)=_
  rw[e1,e2,e3,yaW,qnS]
  rfl
theorem qc5 {n:List Nat} (hb:∀x∈n,x<=10 ^ 24) (hl:n.length<=20):wx 26210 7 (cD true n):=(uv (w:=130) (e:=5) (n:=21) (λd hd=>by
 obtain⟨v,hv,rfl⟩:=mP_.mp hd
 exact vz (hb v hv)) (by rw[lM_];omega)).mono (by omega) (by omega)
theorem qe3 {st:List (Nat×Nat)} {n:List Nat} {g:Nat} (hk:ju st n=true) (h0:n.getD 0 0=0) (hs:(1,g)∈st):∀i,i<n.length->n.getD i 0<=i*g
 |0,_=>by rw[h0];exact yaF _
 |i+1,hi=>by
  have ih:=qe3 hk h0 hs i (by omega)
  have:=vt hk (i:=i) (by omega) hs
  have this:n.getD ((i+1)%n.length) 0<=n.getD i 0+g:=this
  rw[Nat.mod_eq_of_lt hi]at this
  rw[ycQ]
  omega
section
variable(ks:List Kd)(h:∀k∈ks,vG k)(hl:ks.length<=12)(hne:0<ks.length)
include h hl hne
theorem qa9 (S I B Md Pp Od:Option D) (Ts:List D) (hT:∀t∈Ts,wx 26210 7 t) (hr:Ts.length<=20):∀(rs:List Nat),(∀r∈rs,r<=10 ^ 31)->∀(o10 o11 o12 o13:Option D),∃p10 p11 p12 p13,jR (qm 10) (uO (jD (dv 9)) (qm 11) (qN (zp 12 (qw zB (qa (dv 11) (ret [])))) (qN (zp 13 (dif (tst (qh qZ (qa (dv 11) (qa (dv 3) (ret []))))) (d2 j9 (d2 qbg (d2 qdb (dv 10) (dv 5)) (d2 ixD (dv 11) (d2 jM (dv 10) (dv 4)))) (dv 4)) (ret .non))) (sif (tor (tst (d2 neB (qw zB (qa (qh qS (qa (dv 11) (qa (dv 3) (qa (dv 10) (ret []))))) (ret []))) (qw zB (qa (dv 13) (ret []))))) (tst (d2 neB (qw zB (qa (dv 11) (ret []))) (dv 12)))) (ji (ret (.bl false))) yq)))) (rs.map nD) [S,I,B,some (.tup (ks.map kD)),some (.int (ld ks).1),some (.int (ld ks).2.1),Md,Pp,Od,some (.lst Ts),o10,o11,o12,o13]=.ok (.nx [S,I,B,some (.tup (ks.map kD)),some (.int (ld ks).1),some (.int (ld ks).2.1),Md,Pp,Od,some (.lst Ts),p10,p11,p12,p13])
 | [],_,o10,o11,o12,o13=>⟨o10,o11,o12,o13,rfl⟩
 | r::rs,hb,o10,o11,o12,o13=>by
  let T:Option D:=some (.tup (ks.map kD))
  let A4:Option D:=some (.int (ld ks).1)
  let A5:Option D:=some (.int (ld ks).2.1)
  let Th:Option D:=some (.lst Ts)
  obtain ⟨ρr,qr,p11,p12,p13,rfl⟩:=ue (G:=qm 11) (b:=(qN (zp 12 (qw zB (qa (dv 11) (ret [])))) (qN (zp 13 (dif (tst (qh qZ (qa (dv 11) (qa (dv 3) (ret []))))) (d2 j9 (d2 qbg (d2 qdb (dv 10) (dv 5)) (d2 ixD (dv 11) (d2 jM (dv 10) (dv 4)))) (dv 4)) (ret .non))) (sif (tor (tst (d2 neB (qw zB (qa (qh qS (qa (dv 11) (qa (dv 3) (qa (dv 10) (ret []))))) (ret []))) (qw zB (qa (dv 13) (ret []))))) (tst (d2 neB (qw zB (qa (dv 11) (ret []))) (dv 12)))) (ji (ret (.bl false))) yq)))) (k:=λx:D=>x) (step:=λ(s:Unit) (_:D)=>s) (Inv:=λ_ _ ρ=>∃o11 o12 o13,ρ=[S,I,B,T,A4,A5,Md,Pp,Od,Th,some (.int (r:Nat)),o11,o12,o13]) Ts 0 () [S,I,B,T,A4,A5,Md,Pp,Od,Th,some (.int (r:Nat)),o11,o12,o13] ⟨o11,o12,o13,rfl⟩ (λx hx k _ ρ _ _=>by
   rintro⟨o11,o12,o13,rfl⟩
   obtain⟨q12,q13,e⟩:=qfN ks h hl hne (hT x hx) r (hb r mS_) S I B Md Pp Od Th o12 o13
   exact⟨[S,I,B,T,A4,A5,Md,Pp,Od,Th,some (.int (r:Nat)),some x,o12,o13],_,rfl,e,some x,q12,q13,rfl⟩)
  rw[yeA]at qr
  obtain⟨q10,q11,q12,q13,q⟩:=qa9 S I B Md Pp Od Ts hT hr rs (λx hx=>hb x (mM _ hx)) (some (nD r)) p11 p12 p13
  refine⟨q10,q11,q12,q13,?_⟩
  rw[mC_]
  have e:(uO (jD (dv 9)) (qm 11) (qN (zp 12 (qw zB (qa (dv 11) (ret [])))) (qN (zp 13 (dif (tst (qh qZ (qa (dv 11) (qa (dv 3) (ret []))))) (d2 j9 (d2 qbg (d2 qdb (dv 10) (dv 5)) (d2 ixD (dv 11) (d2 jM (dv 10) (dv 4)))) (dv 4)) (ret .non))) (sif (tor (tst (d2 neB (qw zB (qa (qh qS (qa (dv 11) (qa (dv 3) (qa (dv 10) (ret []))))) (ret []))) (qw zB (qa (dv 13) (ret []))))) (tst (d2 neB (qw zB (qa (dv 11) (ret []))) (dv 12)))) (ji (ret (.bl false))) yq)))) [S,I,B,T,A4,A5,Md,Pp,Od,Th,some (nD r),o11,o12,o13]=.ok (.nx [S,I,B,T,A4,A5,Md,Pp,Od,Th,some (nD r),p11,p12,p13]):=by
   rw[yd]
   exact qr
  exact(yH (ρ1:=[S,I,B,T,A4,A5,Md,Pp,Od,Th,some (nD r),o11,o12,o13]) rfl e).trans q
end
theorem qjo (ns:List Int) (i:Int) (h0:0<=i) (r:Env) (hr:r.length=12):∃r',r'.length=12/\(qN (vN 2 (qcD jB (qa (dv 0) (qa (dv 1) (ret []))))) (qN (zp 3 (qy zF 2 (qa (ret (.int 5)) (qa (ret (.int 9)) (ret []))))) (qN (qfR (d2 ixD (dv 3) (qh qV (qa (dv 3) (ret [])))) (vK 3 (qL (qm 4) (qL (qm 5) (qL (qm 6) vJ))))) (qN (zp 7 (qh zx (qa (dv 3) (ret [])))) (qN (zp 8 (qy j6 2 (ret []))) (qN (sif (tst (d2 neB (qw zB (qa (qh ja (qa (dv 3) (ret []))) (ret []))) (qw zB (qa (dv 7) (ret []))))) (ji (ret (.bl false))) yq) (qN (zp 9 (d2 zb (wE (qa (dv 7) (qa (d2 qhn (jO (qa (ret (.int 0)) (ret []))) (dv 4)) (qa (dv 8) (qa (jO (ret [])) (ret [])))))) (z7 1 [2,7,8] (some (1,2)) (yC (qa (ret (.int 5)) (ret []))) (qm 0) (ret true) (qy qK 1 (qa (dv 2) (qa (dv 3) (ret []))))))) (uO (jD (wE (qa (qy ql 2 (qa (ret (.int 40)) (ret []))) (qa (d2 zb (d2 qda (ret (.int 10)) (ret (.int 28))) (qy ql 2 (qa (ret (.int 99)) (ret [])))) (qa (ret (.int 0)) (ret [])))))) (qm 10) (uO (jD (dv 9)) (qm 11) (qN (zp 12 (qw zB (qa (dv 11) (ret [])))) (qN (zp 13 (dif (tst (qh qZ (qa (dv 11) (qa (dv 3) (ret []))))) (d2 j9 (d2 qbg (d2 qdb (dv 10) (dv 5)) (d2 ixD (dv 11) (d2 jM (dv 10) (dv 4)))) (dv 4)) (ret .non))) (sif (tor (tst (d2 neB (qw zB (qa (qh qS (qa (dv 11) (qa (dv 3) (qa (dv 10) (ret []))))) (ret []))) (qw zB (qa (dv 13) (ret []))))) (tst (d2 neB (qw zB (qa (dv 11) (ret []))) (dv 12)))) (ji (ret (.bl false))) yq)))))))))))) ([some (.fz ns),some (.int i)]++r)=.ok (.nx ([some (.fz ns),some (.int i)]++r')):=by
 match r,hr with
 | [o2,o3,o4,o5,o6,o7,o8,o9,o10,o11,o12,o13],_=>
  obtain⟨n,eb⟩:=qnM ns i h0
  obtain⟨ks,n1,e1,hk0,hl5,hne⟩:=qfM 5 (by omega) 9 (by omega) n
  have h:∀k∈ks,vG k:=λk hx=>(hk0 k hx).1
  have hl:ks.length<=12:=by omega
  obtain⟨p,ok,hk,ep⟩:=qa7 ks h hl hne
  have eg:=wA ks h hl hne ok hk
  have hw:=w20 ks h hl hne
  have gl:=yL h hne
  have g1:=kn1 gl
  have g2:=kn2 gl
  have hp0:0<p.length:=by rw[ok.len];omega
  have hp20:p.length<=20:=by rw[ok.len];omega
  have hpb:∀x∈p,x<=10 ^ 24:=λx hx=>by
   obtain⟨j,hj,rfl⟩:=List.getElem_of_mem hx
   have:=qe3 hk ok.fst (show(1,(kn (ld ks)).2)∈stL ks from mS_) j hj
   rw[List.getD_eq_getElem?_getD,gG hj]at this
   have this:p[j]<=j*(kn (ld ks)).2:=this
   have h2:(kn (ld ks)).2<=10 ^ 21:=by
    have:=gl.2.2.2.1
    have c:(10:Nat) ^ 21=1000000000000000000000:=by decide +kernel
    omega
   have h3:j*(kn (ld ks)).2<=20*10 ^ 21:=Nat.mul_le_mul (by omega) h2
   exact yay this (yay h3 (by decide +kernel))
  obtain⟨d,n2,eo,hd⟩:=qo9 n1
  obtain⟨t1,m1,b1,u1⟩:=qc4 hp0 hpb hp20 hd n2
  obtain⟨t2,m2,b2,u2⟩:=qc4 hp0 hpb hp20 hd m1
  obtain⟨t3,m3,b3,u3⟩:=qc4 hp0 hpb hp20 hd m2
  obtain⟨t4,m4,b4,u4⟩:=qc4 hp0 hpb hp20 hd m3
  obtain⟨t5,m5,b5,u5⟩:=qc4 hp0 hpb hp20 hd m4
  let S:Option D:=some (.fz ns)
  let I:Option D:=some (.int i)
  let T:Option D:=some (.tup (ks.map kD))
  let A4:Option D:=some (.int (ld ks).1)
  let A5:Option D:=some (.int (ld ks).2.1)
  let Pd:D:=cD true p
  let Pp:Option D:=some Pd
  let Od:Option D:=some d
  let Zd:D:=cD true (yau (kn (ld ks)).1 0)
  have nP:wx 26210 7 Pd:=qc5 hpb hp20
  have okP':jS Pd=true:=qb9 nP (by omega) (by omega)
  have nZ:wx 26210 7 Zd:=qc5 (λx hx=>by rw[List.eq_of_mem_replicate hx];exact yaF _) (by rw[ybl];omega)
  have nE:wx 26210 7 (.tup []):=(wN (d:=.tup []) (by decide +kernel)).mono (by omega) (by omega)
  let Ts:List D:=[Pd,Zd,d,.tup []]++[t1,t2,t3,t4,t5]
  have hT:∀x∈Ts,wx 26210 7 x:=λx hx=>by
   simp only[Ts,mA_,yax,nN_,or_false]at hx
   rcases hx with(rfl|rfl|rfl|rfl)|rfl|rfl|rfl|rfl|rfl
   ·exact nP
   ·exact nZ
   ·exact hd.mono (by omega) (by omega)
   ·exact nE
   ·exact u1
   ·exact u2
   ·exact u3
   ·exact u4
   ·exact u5
  let m6:=m5/40
  let m7:=m6/99
  let rs:List Nat:=[(m5%40).toNat,(10000000000000000000000000000+m6%99).toNat,0]
  let B7:Option D:=some (.lst [.int m7])
  obtain ⟨p10,p11,p12,p13,q⟩:=qa9 ks h hl hne S I B7 (some .non) Pp Od Ts hT (by show 9<=20;omega) rs (λx hx=>by
   have c:(10:Nat) ^ 31=10000000000000000000000000000000:=by decide +kernel
   simp only[rs,yax,nN_,or_false]at hx
   rw[c]
   rcases hx with rfl|rfl|rfl<;>omega) o10 o11 o12 o13
  refine⟨[B7,T,A4,A5,some .non,Pp,Od,some (.lst Ts),p10,p11,p12,p13],rfl,?_⟩
  show(qN (vN 2 (qcD jB (qa (dv 0) (qa (dv 1) (ret []))))) (qN (zp 3 (qy zF 2 (qa (ret (.int 5)) (qa (ret (.int 9)) (ret []))))) (qN (qfR (d2 ixD (dv 3) (qh qV (qa (dv 3) (ret [])))) (vK 3 (qL (qm 4) (qL (qm 5) (qL (qm 6) vJ))))) (qN (zp 7 (qh zx (qa (dv 3) (ret [])))) (qN (zp 8 (qy j6 2 (ret []))) (qN (sif (tst (d2 neB (qw zB (qa (qh ja (qa (dv 3) (ret []))) (ret []))) (qw zB (qa (dv 7) (ret []))))) (ji (ret (.bl false))) yq) (qN (zp 9 (d2 zb (wE (qa (dv 7) (qa (d2 qhn (jO (qa (ret (.int 0)) (ret []))) (dv 4)) (qa (dv 8) (qa (jO (ret [])) (ret [])))))) (z7 1 [2,7,8] (some (1,2)) (yC (qa (ret (.int 5)) (ret []))) (qm 0) (ret true) (qy qK 1 (qa (dv 2) (qa (dv 3) (ret []))))))) (uO (jD (wE (qa (qy ql 2 (qa (ret (.int 40)) (ret []))) (qa (d2 zb (d2 qda (ret (.int 10)) (ret (.int 28))) (qy ql 2 (qa (ret (.int 99)) (ret [])))) (qa (ret (.int 0)) (ret [])))))) (qm 10) (uO (jD (dv 9)) (qm 11) (qN (zp 12 (qw zB (qa (dv 11) (ret [])))) (qN (zp 13 (dif (tst (qh qZ (qa (dv 11) (qa (dv 3) (ret []))))) (d2 j9 (d2 qbg (d2 qdb (dv 10) (dv 5)) (d2 ixD (dv 11) (d2 jM (dv 10) (dv 4)))) (dv 4)) (ret .non))) (sif (tor (tst (d2 neB (qw zB (qa (qh qS (qa (dv 11) (qa (dv 3) (qa (dv 10) (ret []))))) (ret []))) (qw zB (qa (dv 13) (ret []))))) (tst (d2 neB (qw zB (qa (dv 11) (ret []))) (dv 12)))) (ji (ret (.bl false))) yq)))))))))))) [S,I,o2,o3,o4,o5,o6,o7,o8,o9,o10,o11,o12,o13]=_
  refine(qp (ρ':=[S,I,some (.lst [.int n]),o3,o4,o5,o6,o7,o8,o9,o10,o11,o12,o13]) ?_).trans ?_
  ·push_cast [S,I,eb,immFs,immF,immL,imm,yaR]
  refine(qp (ρ':=[S,I,some (.lst [.int n1]),T,o4,o5,o6,o7,o8,o9,o10,o11,o12,o13]) ?_).trans ?_
  ·push_cast [e1,T]
  refine(qp (ρ':=[S,I,some (.lst [.int n1]),T,A4,A5,some .non,o7,o8,o9,o10,o11,o12,o13]) ?_).trans ?_
  ·have c:=qa8 ks h hl hne (ρ:=[S,I,some (.lst [.int n1]),T,o4,o5,o6,o7,o8,o9,o10,o11,o12,o13]) (i:=3) rfl
   rw[qnO gl]at c
   rw[qcH,c]
   rfl
  refine(qp (ρ':=[S,I,some (.lst [.int n1]),T,A4,A5,some .non,Pp,o8,o9,o10,o11,o12,o13]) (yf (zJ rfl eg))).trans ?_
  refine(qp (ρ':=[S,I,some (.lst [.int n2]),T,A4,A5,some .non,Pp,Od,o9,o10,o11,o12,o13]) ?_).trans ?_
  ·push_cast [eo]
   rfl
  let ρ5:Env:=[S,I,some (.lst [.int n2]),T,A4,A5,some .non,Pp,Od,o9,o10,o11,o12,o13]
  refine(qp (ρ':=ρ5) ((qfJ (z8 (qk (ρ:=ρ5) (zD (zJ (f:=dv 3) rfl ep) (rE okP')) (zD (f:=dv 7) (a:=Pd) rfl (rE okP')) (qdK _)))).trans rfl)).trans ?_
  let ρ6:Env:=[S,I,some (.lst [.int m5]),T,A4,A5,some .non,Pp,Od,o9,o10,o11,o12,o13]
  let ρ7:Env:=[S,I,some (.lst [.int m5]),T,A4,A5,some .non,Pp,Od,some (.lst Ts),o10,o11,o12,o13]
  refine(qp (ρ':=ρ7) ?_).trans ?_
  ·have io:∀(j a b:Int)(t:D),qK [.int a] [Pd,d]=.ok (t,[.int b])->qy qK 1 (qa (dv 2) (qa (dv 3) (ret []))) [some (.int j),some (.lst [.int a]),Pp,Od]=.ok (t,[some (.int j),some (.lst [.int b]),Pp,Od]):=λj a b t e=>by
    rw[wj]
    have g:zH 1 [some (.int j),some (.lst [.int a]),Pp,Od]=some [.int a]:=rfl
    simp only[g,qcS (ρ:=[some (.int j),some (.lst [.int a]),Pp,Od]) (f:=dv 2) (g:=dv 3) (a:=Pd) (b:=d) rfl rfl,e]
    rfl
   have cl:∀(j a b:Int)(t:D)(ds acc:List D)(o:Option D),qK [.int a] [Pd,d]=.ok (t,[.int b])->acc.length<=100->zS (qm 0) (ret true) (qy qK 1 (qa (dv 2) (qa (dv 3) (ret [])))) (.int j::ds) acc [o,some (.lst [.int a]),Pp,Od]=zS (qm 0) (ret true) (qy qK 1 (qa (dv 2) (qa (dv 3) (ret [])))) ds (acc++[t]) [some (.int j),some (.lst [.int b]),Pp,Od]:=λj a b t ds acc o e ha=>by
    rw[zS]
    simp only[qm,ybP,qbP,io j a b t e,ye (show acc.length+1<=1000000 by omega),if_true]
   have cc:(z7 1 [2,7,8] (some (1,2)) (yC (qa (ret (.int 5)) (ret []))) (qm 0) (ret true) (qy qK 1 (qa (dv 2) (qa (dv 3) (ret []))))) ρ5=.ok (.lst [t1,t2,t3,t4,t5],ρ6):=by
    rw[qds]
    have rg:yC (qa (ret (.int 5)) (ret [])) ρ5=.ok ([.int 0,.int 1,.int 2,.int 3,.int 4],ρ5):=by
     rw[ut (qae rfl) (by omega) (by omega)]
     rfl
    rw[rg]
    have el:zS (qm 0) (ret true) (qy qK 1 (qa (dv 2) (qa (dv 3) (ret [])))) [.int 0,.int 1,.int 2,.int 3,.int 4] [] [none,some (.lst [.int n2]),Pp,Od]=.ok ([t1,t2,t3,t4,t5],[some (.int 4),some (.lst [.int m5]),Pp,Od]):=by
     rw[cl 0 n2 m1 t1 _ _ _ b1 (by simp),cl 1 m1 m2 t2 _ _ _ b2 (by simp),cl 2 m2 m3 t3 _ _ _ b3 (by simp),cl 3 m3 m4 t4 _ _ _ b4 (by simp),cl 4 m4 m5 t5 _ _ _ b5 (by simp)]
     rfl
    show(match zS (qm 0) (ret true) (qy qK 1 (qa (dv 2) (qa (dv 3) (ret [])))) [.int 0,.int 1,.int 2,.int 3,.int 4] [] [none,some (.lst [.int n2]),Pp,Od] with|.ok (ys,ρe)=>R.ok (D.lst ys,qkJ (some (1,2)) ρe _)|_ => .bad)=_
    rw[el]
    rfl
   have l4:(wE (qa (dv 7) (qa (d2 qhn (jO (qa (ret (.int 0)) (ret []))) (dv 4)) (qa (dv 8) (qa (jO (ret [])) (ret [])))))) ρ5=.ok (.lst [Pd,Zd,d,.tup []],ρ5):=by
    have z0:jO (ret []) ρ5=.ok (.tup [],ρ5):=by
     rw[w6]
     simp only[qbP,lN_,ye (show 0<=1000000 by omega),if_true]
    have z1:d2 qhn (jO (qa (ret (.int 0)) (ret []))) (dv 4) ρ5=.ok (Zd,ρ5):=qk (qo5 rfl) rfl (by
     show qhn (.tup [.int 0]) (.int (ld ks).1)=_
     rw[<-g1]
     exact qqc _ (by omega))
    have e7:dv 7 ρ5=.ok (Pd,ρ5):=rfl
    have e8:dv 8 ρ5=.ok (d,ρ5):=rfl
    rw[qcG,zW,e7]
    simp only[zW,z1,e8,z0,qbP,lC_,lN_,ybc,yd1,ye (show 4<=1000000 by omega),if_true]
   have c:(d2 zb (wE (qa (dv 7) (qa (d2 qhn (jO (qa (ret (.int 0)) (ret []))) (dv 4)) (qa (dv 8) (qa (jO (ret [])) (ret [])))))) (z7 1 [2,7,8] (some (1,2)) (yC (qa (ret (.int 5)) (ret []))) (qm 0) (ret true) (qy qK 1 (qa (dv 2) (qa (dv 3) (ret [])))))) ρ5=.ok (.lst Ts,ρ6):=by
    rw[qmZ,l4]
    simp only[cc,qbW (show([Pd,Zd,d,.tup []]:List D).length+[t1,t2,t3,t4,t5].length<=1000000 by simp)]
    rfl
   rw[yf c]
   rfl
  ·have b1:0<=m5%40/\m5%40<40:=by omega
   have b2:0<=m6%99/\m6%99<99:=by omega
   have er:(jD (wE (qa (qy ql 2 (qa (ret (.int 40)) (ret []))) (qa (d2 zb (d2 qda (ret (.int 10)) (ret (.int 28))) (qy ql 2 (qa (ret (.int 99)) (ret [])))) (qa (ret (.int 0)) (ret [])))))) ρ7=.ok ([.int (m5%40),.int (10000000000000000000000000000+m6%99),.int 0],[S,I,B7,T,A4,A5,some .non,Pp,Od,some (.lst Ts),o10,o11,o12,o13]):=by
    have k1:ql [.int m5] [.int 40]=.ok (.int (m5%40),[.int (m5/40)]):=yX (by decide) (by decide)
    have k2:ql [.int m6] [.int 99]=.ok (.int (m6%99),[.int (m6/99)]):=yX (by decide) (by decide)
    push_cast [k1,k2,qo8,yr,ye (show 3<=1000000 by omega),S,I,qmO,ρ7,m6,B7,m7]
   have em:rs.map nD=[.int (m5%40),.int (10000000000000000000000000000+m6%99),.int 0]:=by
    have a1:(((m5%40).toNat:Nat):Int)=m5%40:=ycB b1.1
    have a2:(((10000000000000000000000000000+m6%99).toNat:Nat):Int)=10000000000000000000000000000+m6%99:=ycB (by omega)
    simp only[rs,mC_,ycP,nD,a1,a2]
    rfl
   rw[yd,er,<-em]
   exact q
theorem qe4 (ns:List Int):∀(ds:List D)(o1:Option D)(r:Env),r.length=12->(∀d∈ds,∃i:Int,d=.int i/\0<=i)->∃ρ,jR (qm 1) (qN (vN 2 (qcD jB (qa (dv 0) (qa (dv 1) (ret []))))) (qN (zp 3 (qy zF 2 (qa (ret (.int 5)) (qa (ret (.int 9)) (ret []))))) (qN (qfR (d2 ixD (dv 3) (qh qV (qa (dv 3) (ret [])))) (vK 3 (qL (qm 4) (qL (qm 5) (qL (qm 6) vJ))))) (qN (zp 7 (qh zx (qa (dv 3) (ret [])))) (qN (zp 8 (qy j6 2 (ret []))) (qN (sif (tst (d2 neB (qw zB (qa (qh ja (qa (dv 3) (ret []))) (ret []))) (qw zB (qa (dv 7) (ret []))))) (ji (ret (.bl false))) yq) (qN (zp 9 (d2 zb (wE (qa (dv 7) (qa (d2 qhn (jO (qa (ret (.int 0)) (ret []))) (dv 4)) (qa (dv 8) (qa (jO (ret [])) (ret [])))))) (z7 1 [2,7,8] (some (1,2)) (yC (qa (ret (.int 5)) (ret []))) (qm 0) (ret true) (qy qK 1 (qa (dv 2) (qa (dv 3) (ret []))))))) (uO (jD (wE (qa (qy ql 2 (qa (ret (.int 40)) (ret []))) (qa (d2 zb (d2 qda (ret (.int 10)) (ret (.int 28))) (qy ql 2 (qa (ret (.int 99)) (ret [])))) (qa (ret (.int 0)) (ret [])))))) (qm 10) (uO (jD (dv 9)) (qm 11) (qN (zp 12 (qw zB (qa (dv 11) (ret [])))) (qN (zp 13 (dif (tst (qh qZ (qa (dv 11) (qa (dv 3) (ret []))))) (d2 j9 (d2 qbg (d2 qdb (dv 10) (dv 5)) (d2 ixD (dv 11) (d2 jM (dv 10) (dv 4)))) (dv 4)) (ret .non))) (sif (tor (tst (d2 neB (qw zB (qa (qh qS (qa (dv 11) (qa (dv 3) (qa (dv 10) (ret []))))) (ret []))) (qw zB (qa (dv 13) (ret []))))) (tst (d2 neB (qw zB (qa (dv 11) (ret []))) (dv 12)))) (ji (ret (.bl false))) yq)))))))))))) ds ([some (.fz ns),o1]++r)=.ok (.nx ρ)
 | [],o1,r,_,_=>⟨_,rfl⟩
 |d::ds,o1,r,hr,h=>by
  obtain⟨i,rfl,h0⟩:=h d mS_
  obtain⟨r',hr',e⟩:=qjo ns i h0 r hr
  obtain⟨ρ,q⟩:=qe4 ns ds (some (.int i)) r' hr' λy hy=>h y (mM _ hy)
  refine⟨ρ,?_⟩
  unfold jR
  simp only[qm,List.cons_append,ycf,ybP,ydQ]at e |-
  simp only[e]
  exact q
theorem law_true (ns:List Int) (hn:ns.length<=63):qdP [.fz ns]=.ok (.bl true):=by
 let j:Int:=if(if(3:Int)<(ns.length:Int) then(3:Int) else(ns.length:Int))>1 then(if(3:Int)<(ns.length:Int) then(3:Int) else(ns.length:Int))else 1
 have hj0:0<=j:=by simp only[j];split<;>split<;>omega
 have hj1:j<=6:=by simp only[j];split<;>split<;>omega
 obtain ⟨ρ,q⟩:=qe4 ns (wZ 0 j.toNat) none [none,none,none,none,none,none,none,none,none,none,none,none] rfl λd hd=>by
  unfold wZ at hd
  obtain⟨k,hk,rfl⟩:=mP_.mp hd
  exact⟨_,rfl,by omega⟩
 unfold qdP
 refine uZ rfl ⟨ρ,?_⟩
 unfold qlM
 refine(qp (ρ':=ρ) ?_).trans rfl
 rw[yd,ut (j:=j) (ρ1:=[some (.fz ns),none,none,none,none,none,none,none,none,none,none,none,none,none]) ?_ hj0 (by omega)]
 ·exact q
 ·rfl
section
variable{P:yan}{w:World}{K:yal}{mg:Str->Option Value}{base:Heap}
variable{f:Addr}{fd:yaZ}
set_option maxHeartbeats 4000000
theorem vi:qH ["box","many","left","digit"] ["box","many"] (qd jV):=⟨rfl,rfl,rfl,by decide +kernel,rfl,by decide +kernel,by decide +kernel⟩
section
variable(P:yan)(w:World)(K:Fr0)(mg:Str->Option Value)(base:Heap)
abbrev Q0:Prop:=zd P w K mg base 1 "_law_take" ["box","many"] (qfT K ql)
abbrev Q1:Prop:=zd P w K mg base 1 "weights_product" ["store"] (spD K jf)
abbrev Q2:Prop:=zd P w K mg base 2 "lead_place" ["store"] (spD K yO)
abbrev Q3:Prop:=zd P w K mg base 3 "lead_kind" ["store"] (spD K zP)
abbrev Q4:Prop:=zd P w K mg base 1 "keeps_steps" ["numbers","steps"] (spD K zQ)
abbrev Q5:Prop:=zd P w K mg base 1 "loss" ["kind","first"] (spD K qcV)
abbrev Q6:Prop:=zd P w K mg base 4 "all_steps" ["store"] (spD K yJ)
abbrev Q7:Prop:=zd P w K mg base 1 "is_whole" ["thing"] (spD K vv)
abbrev Q8:Prop:=zd P w K mg base 2 "is_count" ["thing"] (spD K zU)
abbrev Q9:Prop:=zd P w K mg base 5 "is_rest_paper" ["thing","store"] (spD K qY)
abbrev Q10:Prop:=zd P w K mg base 1 "heaviest" ["store"] (spD K uh)
abbrev Q11:Prop:=zd P w K mg base 2 "need_light" ["store"] (spD K u8)
abbrev Q12:Prop:=zd P w K mg base 1 "need_endless" ["store"] (spD K yW)
abbrev Q13:Prop:=zd P w K mg base 3 "is_kind" ["thing"] (spD K u9)
abbrev Q14:Prop:=zd P w K mg base 4 "is_store" ["thing"] (spD K vw)
abbrev Q15:Prop:=zd P w K mg base 5 "need_store" ["thing"] (spD K yP)
abbrev Q16:Prop:=zd P w K mg base 6 "need_light_endless" ["store"] (spD K zk)
abbrev Q17:Prop:=zd P w K mg base 3 "need_count" ["thing"] (spD K va)
abbrev Q18:Prop:=zd P w K mg base 7 "need_endless_asked" ["store","room"] (spD K zG)
abbrev Q19:Prop:=zd P w K mg base 8 "rest_bound" ["thing","store","room"] (spD K qS)
abbrev Q20:Prop:=zd P w K mg base 1 "_law_lead" ["store"] (spD K qV)
abbrev Q21:Prop:=zd P w K mg base 2 "_law_steps" ["store"] (spD K qF)
abbrev Q22:Prop:=zd P w K mg base 1 "_law_whole" ["thing"] (spD K z9)
abbrev Q23:Prop:=zd P w K mg base 3 "_law_is" ["thing","store"] (spD K qZ)
abbrev Q24:Prop:=zd P w K mg base 2 "_law_bent" ["box","paper","odd"] (qfT K qK)
abbrev Q25:Prop:=zd P w K mg base 1 "lowered" ["numbers","steps"] (spD K ui)
abbrev Q26:Prop:=zd P w K mg base 7 "rest_paper" ["store"] (spD K ja)
abbrev Q27:Prop:=zd P w K mg base 2 "_law_odd" ["box"] (qfT K j6)
abbrev Q28:Prop:=zd P w K mg base 3 "_law_greatest" ["store"] (spD K zx)
abbrev Q29:Prop:=zd P w K mg base 2 "_law_endless" ["box","most","heaviest_v"] (qfT K zF)
abbrev Q30:Prop:=zd P w K mg base 1 "_law_box" ["script","k"] (spD K jB)
end
theorem q0 (F:Fun K "_law_take" "_law_take" jV f fd) (m:mg "_law_take"=some (.ref f)) (T:Txt K mg):Q0 P w K mg base:=by
 refine⟨f,fd,?_,m,F.kp,F.binds λ_ _ _ _ _ _ us hl=>match us,hl with | [_,_],_=>rfl⟩
 show qbd P w K mg base CX0 1 f fd ["box","many"] (qfT K (wH (["box","many","left","digit"]:List Str).length (["box","many"]:List Str).length uw))
 refine qis (N:=["box","many","left","digit"]) (ps:=["box","many"]) (k:=0) (O:=[0]) (body:=uw) F vi ?a ?a0 ?b
 case a=>decide
 case a0=>decide
 intro cdv A outer s H E B Io S hr
 exact (qg (qd3 (qJ qdh qcz rfl T.b_divmod qgF (qb (qd9 (i:=0) qt) (qb (qc 1) qf))) (v0 (n:=2) rfl (zc (qB (i:=2) vi.nd) (zc (qB (i:=3) vi.nd) um))))
   (qg (qgw (i:=0) (qc 2) qt)
   (qo (qU (qc 3)))))
theorem zX:qH ["store","product","kind"] ["store"] (qd zq):=⟨rfl,rfl,rfl,by decide +kernel,rfl,by decide +kernel,by decide +kernel⟩
theorem q1 (F:Fun K "weights_product" "weights_product" zq f fd) (m:mg "weights_product"=some (.ref f)) (T:Txt K mg):Q1 P w K mg base:=by
 refine⟨f,fd,?_,m,F.kp,F.binds λ_ _ _ _ _ _ us hl=>match us,hl with | [_],_=>rfl⟩
 exact qT (N:=["store","product","kind"]) (O:=[]) (body:=j4) F zX (by decide) λcdv A outer s H E B hr=>(qg (zg (i:=1) zX.nd qt)
   (qg (yD yaH rfl (yb (qc 0)) (qB (i:=2) zX.nd) (qo (zg (i:=1) zX.nd (qz zV zm (qc 1) (qX qE qD (qc 2) (gI T.c_WEIGHT))))))
   (qo (qU (qc 1)))))
theorem uC:qH ["store","product","ranks"] ["store"] (qd zK):=⟨rfl,rfl,rfl,by decide +kernel,rfl,by decide +kernel,by decide +kernel⟩
theorem q2 (F:Fun K "lead_place" "lead_place" zK f fd) (m:mg "lead_place"=some (.ref f)) (T:Txt K mg) (C_weights_product:Q1 P w K mg base):Q2 P w K mg base:=by
 refine⟨f,fd,?_,m,F.kp,F.binds λ_ _ _ _ _ _ us hl=>match us,hl with | [_],_=>rfl⟩
 exact qT (N:=["store","product","ranks"]) (O:=[]) (body:=u7) F uC (by decide) λcdv A outer s H E B hr=>(qg (zg (i:=1) uC.nd (dC C_weights_product hr (qb (qc 0) qf)))
   (qg (qdx (i:=2) uC.nd (qdw (fo:=none) rfl (yb (qc 0)) (cs ["store","product","ranks"] ["kind","product"] 1 [1] (qd zK)) (f0 [1] []) (λ_ _ _ _ _ _ _ _ _ _ _=>⟨(qB (i:=0) (nd ["kind","product"])),uI,(jr (qb (qz zV zm (qeb (qX qE qD (qc 0) (gI T.c_WORTH))) (qz wC vo (qc 1) (qX qE qD (qc 0) (gI T.c_WEIGHT)))) (qb (qX qE qD (qc 0) (gI T.c_WEIGHT)) qf)))⟩)) rfl (cs ["store","product","ranks"] ["kind","product"] 1 [1] (qd zK)))
   (qo (qU (qk7 yeE qiG (qg9 hr) qcK (qc 2) (qb (qJ (qg7 hr rfl) qft rfl T.b_min qcE (qb (qc 2) qf)) qf))))))
theorem qc6:qH ["store"] ["store"] (qd jW):=⟨rfl,rfl,rfl,by decide +kernel,rfl,by decide +kernel,by decide +kernel⟩
theorem q3 (F:Fun K "lead_kind" "lead_kind" jW f fd) (m:mg "lead_kind"=some (.ref f)) (T:Txt K mg) (C_lead_place:Q2 P w K mg base):Q3 P w K mg base:=by
 refine⟨f,fd,?_,m,F.kp,F.binds λ_ _ _ _ _ _ us hl=>match us,hl with | [_],_=>rfl⟩
 exact qT (N:=["store"]) (O:=[]) (body:=vT) F qc6 (by decide) λcdv A outer s H E B hr=>(qo (qU (qX qE qD (qc 0) (dC C_lead_place hr (qb (qc 0) qf)))))
theorem jo:qH ["numbers","steps","place","number","far","more"] ["numbers","steps"] (qd je):=⟨rfl,rfl,rfl,by decide +kernel,rfl,by decide +kernel,by decide +kernel⟩
theorem q4 (F:Fun K "keeps_steps" "keeps_steps" je f fd) (m:mg "keeps_steps"=some (.ref f)) (T:Txt K mg):Q4 P w K mg base:=by
 refine⟨f,fd,?_,m,F.kp,F.binds λ_ _ _ _ _ _ us hl=>match us,hl with | [_,_],_=>rfl⟩
 exact qT (N:=["numbers","steps","place","number","far","more"]) (O:=[]) (body:=ux) F jo (by decide) λcdv A outer s H E B hr=>(qg (yD yaH rfl (qeq rfl T.b_enumerate (qb (qc 0) qf)) (v0 (n:=2) rfl (zc (qB (i:=2) jo.nd) (zc (qB (i:=3) jo.nd) um))) (qo (yD yaH rfl (yb (qc 1)) (v0 (n:=2) rfl (zc (qB (i:=4) jo.nd) (zc (qB (i:=5) jo.nd) um))) (qo (ul (js qga qcx (qX qE qD (qc 0) (qz uD yj (qz ze zf (qc 2) (qc 4)) (qJ z5 z6 rfl T.b_len uU (qb (qc 0) qf)))) (qz ze zf (qc 3) (qc 5)) (zZ _)) (qo (qU uK)) zn)))))
   (qo (qU uK)))
theorem qlU:qH ["kind","first"] ["kind","first"] (qd qbz):=⟨rfl,rfl,rfl,by decide +kernel,rfl,by decide +kernel,by decide +kernel⟩
theorem q5 (F:Fun K "loss" "loss" qbz f fd) (m:mg "loss"=some (.ref f)) (T:Txt K mg):Q5 P w K mg base:=by
 refine⟨f,fd,?_,m,F.kp,F.binds λ_ _ _ _ _ _ us hl=>match us,hl with | [_,_],_=>rfl⟩
 exact qT (N:=["kind","first"]) (O:=[]) (body:=qhN) F qlU (by decide) λcdv A outer s H E B hr=>(qo (qU (qz qcj qaA (qz zV zm (qX qE qD (qc 0) (gI T.c_WEIGHT)) (qX qE qD (qc 1) (gI T.c_WORTH))) (qz zV zm (qX qE qD (qc 0) (gI T.c_WORTH)) (qX qE qD (qc 1) (gI T.c_WEIGHT))))))
theorem qaa:qH ["store","first"] ["store"] (qd jq):=⟨rfl,rfl,rfl,by decide +kernel,rfl,by decide +kernel,by decide +kernel⟩
theorem q6 (F:Fun K "all_steps" "all_steps" jq f fd) (m:mg "all_steps"=some (.ref f)) (T:Txt K mg) (C_loss:Q5 P w K mg base) (C_lead_kind:Q3 P w K mg base):Q6 P w K mg base:=by
 refine⟨f,fd,?_,m,F.kp,F.binds λ_ _ _ _ _ _ us hl=>match us,hl with | [_],_=>rfl⟩
 exact qT (N:=["store","first"]) (O:=[]) (body:=vU) F qaa (by decide) λcdv A outer s H E B hr=>(qg (zg (i:=1) qaa.nd (dC C_lead_kind hr (qb (qc 0) qf)))
   (qo (qU (qz ze zf (vC (qb (jr (qb qt (qb (qX qE qD (qc 1) (gI T.c_WORTH)) qf))) qf)) (uo (fo:=none) rfl (yb (qc 0)) (cs ["store","first"] ["kind","first"] 1 [1] (qd jq)) (f0 [1] []) (λ_ _ _ _ _ _ _ _ _ _ _=>⟨(qB (i:=0) (nd ["kind","first"])),uI,(jr (qb (qX qE qD (qc 0) (gI T.c_WEIGHT)) (qb (dC C_loss hr (qb (qc 0) (qb (qc 1) qf))) qf)))⟩))))))
theorem qdT:qH ["thing"] ["thing"] (qd yx):=⟨rfl,rfl,rfl,by decide +kernel,rfl,by decide +kernel,by decide +kernel⟩
theorem q7 (F:Fun K "is_whole" "is_whole" yx f fd) (m:mg "is_whole"=some (.ref f)) (T:Txt K mg):Q7 P w K mg base:=by
 refine⟨f,fd,?_,m,F.kp,F.binds λ_ _ _ _ _ _ us hl=>match us,hl with | [_],_=>rfl⟩
 exact qT (N:=["thing"]) (O:=[]) (body:=wO) F qdT (by decide) λcdv A outer s H E B hr=>(qo (qU (qd2 (wY qgt rfl T.b_isinstance rfl T.b_int qjG (qc 0) zC) (qcv (qjw (wY qd7 rfl T.b_isinstance rfl T.b_bool qgG (qc 0) zC))))))
theorem qdU:qH ["thing"] ["thing"] (qd yy):=⟨rfl,rfl,rfl,by decide +kernel,rfl,by decide +kernel,by decide +kernel⟩
theorem q8 (F:Fun K "is_count" "is_count" yy f fd) (m:mg "is_count"=some (.ref f)) (T:Txt K mg) (C_is_whole:Q7 P w K mg base):Q8 P w K mg base:=by
 refine⟨f,fd,?_,m,F.kp,F.binds λ_ _ _ _ _ _ us hl=>match us,hl with | [_],_=>rfl⟩
 exact qT (N:=["thing"]) (O:=[]) (body:=wP) F qdU (by decide) λcdv A outer s H E B hr=>(qo (qU (qd2 (dC C_is_whole hr (qb (qc 0) qf)) (qcv (qgo qoi qmH (qc 0) qt (zZ _))))))
theorem qag:qH ["thing","store"] ["thing","store"] (qd zv):=⟨rfl,rfl,rfl,by decide +kernel,rfl,by decide +kernel,by decide +kernel⟩
theorem q9 (F:Fun K "is_rest_paper" "is_rest_paper" zv f fd) (m:mg "is_rest_paper"=some (.ref f)) (T:Txt K mg) (C_keeps_steps:Q4 P w K mg base) (C_all_steps:Q6 P w K mg base) (C_is_count:Q8 P w K mg base) (C_lead_kind:Q3 P w K mg base):Q9 P w K mg base:=by
 refine⟨f,fd,?_,m,F.kp,F.binds λ_ _ _ _ _ _ us hl=>match us,hl with | [_,_],_=>rfl⟩
 exact qT (N:=["thing","store"]) (O:=[]) (body:=jI) F qag (by decide) λcdv A outer s H E B hr=>(qg (ul (DW.dt (qaz (uG (yZ (wY v4 rfl T.b_isinstance rfl T.b_tuple yp (qc 0) zC))) (vE (js (w5 hr) uV (qJ z5 z6 rfl T.b_len uU (qb (qc 0) qf)) (qX qE qD (dC C_lead_kind hr (qb (qc 1) qf)) (gI T.c_WEIGHT)) (zZ _))))) (qo (qU uK)) zn)
   (qg (ul (DW.dt (qaz (uG (yZ (qJ (qaj rfl) v5 rfl T.b_all qed (qb (uo (fo:=none) rfl (yb (qc 0)) (cs ["thing","store"] ["number"] 1 [] (qd zv)) (f0 [] []) (λ_ _ _ _ _ _ _ _ _ _ _=>⟨(qB (i:=0) (nd ["number"])),uI,(dC C_is_count hr (qb (qc 0) qf))⟩)) qf)))) (vE (js (w5 hr) uV (qX qE qD (qc 0) qt) qt (zZ _))))) (qo (qU uK)) zn)
   (qo (qU (dC C_keeps_steps hr (qb (qc 0) (qb (dC C_all_steps hr (qb (qc 1) qf)) qf)))))))
theorem qdV:qH ["store"] ["store"] (qd jX):=⟨rfl,rfl,rfl,by decide +kernel,rfl,by decide +kernel,by decide +kernel⟩
theorem q10 (F:Fun K "heaviest" "heaviest" jX f fd) (m:mg "heaviest"=some (.ref f)) (T:Txt K mg):Q10 P w K mg base:=by
 refine⟨f,fd,?_,m,F.kp,F.binds λ_ _ _ _ _ _ us hl=>match us,hl with | [_],_=>rfl⟩
 exact qT (N:=["store"]) (O:=[]) (body:=wQ) F qdV (by decide) λcdv A outer s H E B hr=>(qo (qU (qJ (qgY rfl) qfm rfl T.b_max qjF (qb (uo (fo:=none) rfl (yb (qc 0)) (cs ["store"] ["kind"] 1 [] (qd jX)) (f0 [] []) (λ_ _ _ _ _ _ _ _ _ _ _=>⟨(qB (i:=0) (nd ["kind"])),uI,(qX qE qD (qc 0) (gI T.c_WEIGHT))⟩)) qf))))
theorem qca:qH ["store"] ["store"] (qd jv):=⟨rfl,rfl,rfl,by decide +kernel,rfl,by decide +kernel,by decide +kernel⟩
theorem q11 (F:Fun K "need_light" "need_light" jv f fd) (m:mg "need_light"=some (.ref f)) (T:Txt K mg) (C_heaviest:Q10 P w K mg base):Q11 P w K mg base:=by
 refine⟨f,fd,?_,m,F.kp,F.binds λ_ _ _ _ _ _ us hl=>match us,hl with | [_],_=>rfl⟩
 exact qT (N:=["store"]) (O:=[]) (body:=yg) F qca (by decide) λcdv A outer s H E B hr=>(qo (ul (js qga qcx (dC C_heaviest hr (qb (qc 0) qf)) (gI T.c_WEIGHT_AT_MOST) (zZ _)) (qo wd) zn))
theorem qba:qH ["store"] ["store"] (qd zE):=⟨rfl,rfl,rfl,by decide +kernel,rfl,by decide +kernel,by decide +kernel⟩
theorem q12 (F:Fun K "need_endless" "need_endless" zE f fd) (m:mg "need_endless"=some (.ref f)) (T:Txt K mg):Q12 P w K mg base:=by
 refine⟨f,fd,?_,m,F.kp,F.binds λ_ _ _ _ _ _ us hl=>match us,hl with | [_],_=>rfl⟩
 exact qT (N:=["store"]) (O:=[]) (body:=jm) F qba (by decide) λcdv A outer s H E B hr=>(qo (ul (DW.dt (qaz (js (qee hr) qbO (qc 0) (jr qf) (zZ _)) (vE (uG (yZ (qJ (qaj rfl) v5 rfl T.b_all qed (qb (uo (fo:=none) rfl (yb (qc 0)) (cs ["store"] ["kind"] 1 [] (qd zE)) (f0 [] []) (λ_ _ _ _ _ _ _ _ _ _ _=>⟨(qB (i:=0) (nd ["kind"])),uI,(qgo qjs qgr (qX qE qD (qc 0) (gI T.c_MOST)) qax (zZ _))⟩)) qf))))))) (qo wd) zn))
theorem qfP:qH ["thing"] ["thing"] (qd uf):=⟨rfl,rfl,rfl,by decide +kernel,rfl,by decide +kernel,by decide +kernel⟩
theorem q13 (F:Fun K "is_kind" "is_kind" uf f fd) (m:mg "is_kind"=some (.ref f)) (T:Txt K mg) (C_is_count:Q8 P w K mg base):Q13 P w K mg base:=by
 refine⟨f,fd,?_,m,F.kp,F.binds λ_ _ _ _ _ _ us hl=>match us,hl with | [_],_=>rfl⟩
 exact qT (N:=["thing"]) (O:=[]) (body:=qa1) F qfP (by decide) λcdv A outer s H E B hr=>(qg (ul (DW.dt (qaz (uG (yZ (wY v4 rfl T.b_isinstance rfl T.b_tuple yp (qc 0) zC))) (vE (js (w5 hr) uV (qJ z5 z6 rfl T.b_len uU (qb (qc 0) qf)) qt (zZ _))))) (qo (qU uK)) zn)
   (qg (ul (DW.dt (qaz (uG (yZ (dC C_is_count hr (qb (qX qE qD (qc 0) (gI T.c_WEIGHT)) qf)))) (vE (js (qee hr) qbO (qX qE qD (qc 0) (gI T.c_WEIGHT)) qt (zZ _))))) (qo (qU uK)) zn)
   (qo (qU (qd2 (dC C_is_count hr (qb (qX qE qD (qc 0) (gI T.c_WORTH)) qf)) (qcv (qos (qgo qjs qgr (qX qE qD (qc 0) (gI T.c_MOST)) qax (zZ _)) (qcv (dC C_is_count hr (qb (qX qE qD (qc 0) (gI T.c_MOST)) qf))))))))))
theorem qdW:qH ["thing"] ["thing"] (qd jY):=⟨rfl,rfl,rfl,by decide +kernel,rfl,by decide +kernel,by decide +kernel⟩
theorem q14 (F:Fun K "is_store" "is_store" jY f fd) (m:mg "is_store"=some (.ref f)) (T:Txt K mg) (C_is_kind:Q13 P w K mg base):Q14 P w K mg base:=by
 refine⟨f,fd,?_,m,F.kp,F.binds λ_ _ _ _ _ _ us hl=>match us,hl with | [_],_=>rfl⟩
 exact qT (N:=["thing"]) (O:=[]) (body:=wR) F qdW (by decide) λcdv A outer s H E B hr=>(qg (ul (DW.dt (qaz (uG (yZ (wY v4 rfl T.b_isinstance rfl T.b_tuple yp (qc 0) zC))) (vE (js qga qcx (qJ z5 z6 rfl T.b_len uU (qb (qc 0) qf)) (gI T.c_KINDS_AT_MOST) (zZ _))))) (qo (qU uK)) zn)
   (qo (qU (qJ (qaj rfl) v5 rfl T.b_all qed (qb (uo (fo:=none) rfl (yb (qc 0)) (cs ["thing"] ["part"] 1 [] (qd jY)) (f0 [] []) (λ_ _ _ _ _ _ _ _ _ _ _=>⟨(qB (i:=0) (nd ["part"])),uI,(dC C_is_kind hr (qb (qc 0) qf))⟩)) qf)))))
theorem qcb:qH ["thing"] ["thing"] (qd jw):=⟨rfl,rfl,rfl,by decide +kernel,rfl,by decide +kernel,by decide +kernel⟩
theorem q15 (F:Fun K "need_store" "need_store" jw f fd) (m:mg "need_store"=some (.ref f)) (T:Txt K mg) (C_is_store:Q14 P w K mg base):Q15 P w K mg base:=by
 refine⟨f,fd,?_,m,F.kp,F.binds λ_ _ _ _ _ _ us hl=>match us,hl with | [_],_=>rfl⟩
 exact qT (N:=["thing"]) (O:=[]) (body:=yh) F qcb (by decide) λcdv A outer s H E B hr=>(qo (ul (uG (yZ (dC C_is_store hr (qb (qc 0) qf)))) (qo wd) zn))
theorem vj:qH ["store"] ["store"] (qd qQ):=⟨rfl,rfl,rfl,by decide +kernel,rfl,by decide +kernel,by decide +kernel⟩
theorem q16 (F:Fun K "need_light_endless" "need_light_endless" qQ f fd) (m:mg "need_light_endless"=some (.ref f)) (T:Txt K mg) (C_need_light:Q11 P w K mg base) (C_need_endless:Q12 P w K mg base) (C_need_store:Q15 P w K mg base):Q16 P w K mg base:=by
 refine⟨f,fd,?_,m,F.kp,F.binds λ_ _ _ _ _ _ us hl=>match us,hl with | [_],_=>rfl⟩
 exact qT (N:=["store"]) (O:=[]) (body:=zj) F vj (by decide) λcdv A outer s H E B hr=>(qg (yT (dC C_need_store hr (qb (qc 0) qf)))
   (qg (yT (dC C_need_endless hr (qb (qc 0) qf)))
   (qo (yT (dC C_need_light hr (qb (qc 0) qf))))))
theorem qcc:qH ["thing"] ["thing"] (qd jx):=⟨rfl,rfl,rfl,by decide +kernel,rfl,by decide +kernel,by decide +kernel⟩
theorem q17 (F:Fun K "need_count" "need_count" jx f fd) (m:mg "need_count"=some (.ref f)) (T:Txt K mg) (C_is_count:Q8 P w K mg base):Q17 P w K mg base:=by
 refine⟨f,fd,?_,m,F.kp,F.binds λ_ _ _ _ _ _ us hl=>match us,hl with | [_],_=>rfl⟩
 exact qT (N:=["thing"]) (O:=[]) (body:=yi) F qcc (by decide) λcdv A outer s H E B hr=>(qo (ul (uG (yZ (dC C_is_count hr (qb (qc 0) qf)))) (qo wd) zn))
theorem vm:qH ["store","room"] ["store","room"] (qd qR):=⟨rfl,rfl,rfl,by decide +kernel,rfl,by decide +kernel,by decide +kernel⟩
theorem q18 (F:Fun K "need_endless_asked" "need_endless_asked" qR f fd) (m:mg "need_endless_asked"=some (.ref f)) (T:Txt K mg) (C_need_light_endless:Q16 P w K mg base) (C_need_count:Q17 P w K mg base) (C_need_store:Q15 P w K mg base):Q18 P w K mg base:=by
 refine⟨f,fd,?_,m,F.kp,F.binds λ_ _ _ _ _ _ us hl=>match us,hl with | [_,_],_=>rfl⟩
 exact qT (N:=["store","room"]) (O:=[]) (body:=zl) F vm (by decide) λcdv A outer s H E B hr=>(qg (yT (dC C_need_store hr (qb (qc 0) qf)))
   (qg (yT (dC C_need_count hr (qb (qc 1) qf)))
   (qo (yT (dC C_need_light_endless hr (qb (qc 0) qf))))))
theorem wB:qH ["thing","store","room","first"] ["thing","store","room"] (qd jy):=⟨rfl,rfl,rfl,by decide +kernel,rfl,by decide +kernel,by decide +kernel⟩
theorem q19 (F:Fun K "rest_bound" "rest_bound" jy f fd) (m:mg "rest_bound"=some (.ref f)) (T:Txt K mg) (C_lead_kind:Q3 P w K mg base) (C_is_rest_paper:Q9 P w K mg base) (C_need_endless_asked:Q18 P w K mg base):Q19 P w K mg base:=by
 refine⟨f,fd,?_,m,F.kp,F.binds λ_ _ _ _ _ _ us hl=>match us,hl with | [_,_,_],_=>rfl⟩
 exact qT (N:=["thing","store","room","first"]) (O:=[]) (body:=yQ) F wB (by decide) λcdv A outer s H E B hr=>(qg (yT (dC C_need_endless_asked hr (qb (qc 1) (qb (qc 2) qf))))
   (qg (ul (uG (yZ (dC C_is_rest_paper hr (qb (qc 0) (qb (qc 1) qf))))) (qo (qU qax)) zn)
   (qg (zg (i:=3) wB.nd (dC C_lead_kind hr (qb (qc 1) qf)))
   (qo (qU (qz wC vo (qz qcj qaA (qz qhe qer (qc 2) (qX qE qD (qc 3) (gI T.c_WORTH))) (qX qE qD (qc 0) (qz uD yj (qc 2) (qX qE qD (qc 3) (gI T.c_WEIGHT))))) (qX qE qD (qc 3) (gI T.c_WEIGHT))))))))
theorem jC:qH ["store","best","place","one","other","here","there"] ["store"] (qd jZ):=⟨rfl,rfl,rfl,by decide +kernel,rfl,by decide +kernel,by decide +kernel⟩
theorem q20 (F:Fun K "_law_lead" "_law_lead" jZ f fd) (m:mg "_law_lead"=some (.ref f)) (T:Txt K mg):Q20 P w K mg base:=by
 refine⟨f,fd,?_,m,F.kp,F.binds λ_ _ _ _ _ _ us hl=>match us,hl with | [_],_=>rfl⟩
 exact qT (N:=["store","best","place","one","other","here","there"]) (O:=[]) (body:=vV) F jC (by decide) λcdv A outer s H E B hr=>(qg (zg (i:=1) jC.nd qt)
   (qg (yD yaH rfl (qg3 rfl T.b_range (qb qt (qb (qJ z5 z6 rfl T.b_len uU (qb (qc 0) qf)) qf))) (qB (i:=2) jC.nd) (qg (qjE (i:=3) (j:=4) jC.nd (qb (qX qE qD (qc 0) (qc 2)) (qb (qX qE qD (qc 0) (qc 1)) qf)) rfl)
   (qg (qjE (i:=5) (j:=6) jC.nd (qb (qz zV zm (qX qE qD (qc 3) qt) (qX qE qD (qc 4) qt)) (qb (qz zV zm (qX qE qD (qc 4) qt) (qX qE qD (qc 3) qt)) qf)) rfl)
   (qo (ul (DW.dt (qaz (js qga qcx (qc 5) (qc 6) (zZ _)) (vE (DW.dt (qmE (js (qee hr) qbO (qc 5) (qc 6) (zZ _)) (qkz (js qkm qgq (qX qE qD (qc 3) qt) (qX qE qD (qc 4) qt) (zZ _)))))))) (qo (zg (i:=1) jC.nd (qc 2))) zn)))))
   (qo (qU (qc 1)))))
theorem jh:qH ["store","heft","gain","most","found","kind"] ["store"] (qd jz):=⟨rfl,rfl,rfl,by decide +kernel,rfl,by decide +kernel,by decide +kernel⟩
theorem q21 (F:Fun K "_law_steps" "_law_steps" jz f fd) (m:mg "_law_steps"=some (.ref f)) (T:Txt K mg) (C__law_lead:Q20 P w K mg base):Q21 P w K mg base:=by
 refine⟨f,fd,?_,m,F.kp,F.binds λ_ _ _ _ _ _ us hl=>match us,hl with | [_],_=>rfl⟩
 exact qT (N:=["store","heft","gain","most","found","kind"]) (O:=[4]) (body:=vb) F jh (by decide) λcdv A outer s H E B hr=>(qg (qd3 (qX qE qD (qc 0) (dC C__law_lead hr (qb (qc 0) qf))) (v0 (n:=3) rfl (zc (qB (i:=1) jh.nd) (zc (qB (i:=2) jh.nd) (zc (qB (i:=3) jh.nd) um)))))
   (qg (qaF (i:=4) jh.nd (qjC (qb (jr (qb qt (qb (qc 2) qf))) qf)))
   (qg (yD yaH rfl (yb (qc 0)) (qB (i:=5) jh.nd) (qo (yT (qcB (i:=4) (jr (qb (qX qE qD (qc 5) qt) (qb (qz qcj qaA (qz zV zm (qX qE qD (qc 5) qt) (qc 2)) (qz zV zm (qX qE qD (qc 5) qt) (qc 1))) qf)))))))
   (qo (qgy (i:=4))))))
theorem qcd:qH ["thing"] ["thing"] (qd jA):=⟨rfl,rfl,rfl,by decide +kernel,rfl,by decide +kernel,by decide +kernel⟩
theorem q22 (F:Fun K "_law_whole" "_law_whole" jA f fd) (m:mg "_law_whole"=some (.ref f)) (T:Txt K mg):Q22 P w K mg base:=by
 refine⟨f,fd,?_,m,F.kp,F.binds λ_ _ _ _ _ _ us hl=>match us,hl with | [_],_=>rfl⟩
 exact qT (N:=["thing"]) (O:=[]) (body:=vc) F qcd (by decide) λcdv A outer s H E B hr=>(qo (qU (qd2 (wY qgt rfl T.b_isinstance rfl T.b_int qjG (qc 0) zC) (qcv (qjw (wY qd7 rfl T.b_isinstance rfl T.b_bool qgG (qc 0) zC))))))
theorem uj:qH ["thing","store","heft","place","far","loss_v"] ["thing","store"] (qd yI):=⟨rfl,rfl,rfl,by decide +kernel,rfl,by decide +kernel,by decide +kernel⟩
theorem q23 (F:Fun K "_law_is" "_law_is" yI f fd) (m:mg "_law_is"=some (.ref f)) (T:Txt K mg) (C__law_steps:Q21 P w K mg base) (C__law_whole:Q22 P w K mg base) (C__law_lead:Q20 P w K mg base):Q23 P w K mg base:=by
 refine⟨f,fd,?_,m,F.kp,F.binds λ_ _ _ _ _ _ us hl=>match us,hl with | [_,_],_=>rfl⟩
 exact qT (N:=["thing","store","heft","place","far","loss_v"]) (O:=[]) (body:=wz) F uj (by decide) λcdv A outer s H E B hr=>(qg (zg (i:=2) uj.nd (qX qE qD (qX qE qD (qc 1) (dC C__law_lead hr (qb (qc 1) qf))) qt))
   (qg (ul (DW.dt (qaz (uG (yZ (wY v4 rfl T.b_isinstance rfl T.b_tuple yp (qc 0) zC))) (qaz (js (w5 hr) uV (qJ z5 z6 rfl T.b_len uU (qb (qc 0) qf)) (qc 2) (zZ _)) (vE (uG (yZ (qJ (qaj rfl) v5 rfl T.b_all qed (qb (uo (fo:=none) rfl (yb (qc 0)) (cs ["thing","store","heft","place","far","loss_v"] ["one"] 1 [] (qd yI)) (f0 [] []) (λ_ _ _ _ _ _ _ _ _ _ _=>⟨(qB (i:=0) (nd ["one"])),uI,(dC C__law_whole hr (qb (qc 0) qf))⟩)) qf)))))))) (qo (qU uK)) zn)
   (qg (ul (DW.dt (qaz (js qkm qgq (qJ (qhy rfl) qfG rfl T.b_min qcE (qb (qc 0) qf)) qt (zZ _)) (vE (js (w5 hr) uV (qX qE qD (qc 0) qt) qt (zZ _))))) (qo (qU uK)) zn)
   (qg (yD yaH rfl (yc rfl T.b_range (qb (qc 2) qf)) (qB (i:=3) uj.nd) (qo (yD yaH rfl (yb (dC C__law_steps hr (qb (qc 1) qf))) (v0 (n:=2) rfl (zc (qB (i:=4) uj.nd) (zc (qB (i:=5) uj.nd) um))) (qo (ul (js qga qcx (qX qE qD (qc 0) (qz uD yj (qz ze zf (qc 3) (qc 4)) (qc 2))) (qz ze zf (qX qE qD (qc 0) (qc 3)) (qc 5)) (zZ _)) (qo (qU uK)) zn)))))
   (qo (qU uK))))))
theorem jb:qH ["box","paper","odd","at","to","one","rows","other"] ["box","paper","odd"] (qd zN):=⟨rfl,rfl,rfl,by decide +kernel,rfl,by decide +kernel,by decide +kernel⟩
theorem q24 (F:Fun K "_law_bent" "_law_bent" zN f fd) (m:mg "_law_bent"=some (.ref f)) (T:Txt K mg) (C__law_take:Q0 P w K mg base):Q24 P w K mg base:=by
 refine⟨f,fd,?_,m,F.kp,F.binds λ_ _ _ _ _ _ us hl=>match us,hl with | [_,_,_],_=>rfl⟩
 show qbd P w K mg base CX0 2 f fd ["box","paper","odd"] (qfT K (wH (["box","paper","odd","at","to","one","rows","other"]:List Str).length (["box","paper","odd"]:List Str).length uy))
 refine qis (N:=["box","paper","odd","at","to","one","rows","other"]) (ps:=["box","paper","odd"]) (k:=1) (O:=[0,7]) (body:=uy) F jb ?a ?a0 ?b
 case a=>decide
 case a0=>decide
 intro cdv A outer s H E B Io S hr
 exact (qg (qd3 (jr (qb (iC (i:=0) C__law_take hr (qb (qJ z5 z6 rfl T.b_len uU (qb (qc 1) qf)) qf)) (qb (iC (i:=0) C__law_take hr (qb (qJ z5 z6 rfl T.b_len uU (qb (qc 1) qf)) qf)) qf))) (v0 (n:=2) rfl (zc (qB (i:=3) jb.nd) (zc (qB (i:=4) jb.nd) um))))
   (qg (zg (i:=5) jb.nd (qX qE qD (qc 1) (qc 3)))
   (qg (qdx (i:=6) jb.nd (qdw (fo:=none) rfl (yb (jr (qb (qz ze zf (qc 5) qt) (qb (qz qcj qaA (qc 5) qt) (qb qt (qb uK (qb (uQ qcl qfF rfl T.b_str qmY (qb (qc 5) qf)) (qb (qc 2) (qb (qz wC vo (qc 5) qt) qf))))))))) (cs ["box","paper","odd","at","to","one","rows","other"] ["new","paper","at"] 1 [1,3] (qd zN)) (f0 [1,3] [0,7]) (λ_ _ _ _ _ _ _ _ _ _ _=>⟨(qB (i:=0) (nd ["new","paper","at"])),uI,(qz ze zf (qz ze zf (qaM (qc 1) qdn (qdo (qc 2))) (jr (qb (qc 0) qf))) (qaM (qc 1) (qdo (qz ze zf (qc 2) qt)) qdn))⟩)) rfl (cs ["box","paper","odd","at","to","one","rows","other"] ["new","paper","at"] 1 [1,3] (qd zN)))
   (qg (qaF (i:=7) jb.nd (qhb rfl T.b_list (qc 1)))
   (qg (qlB (i:=7) (j1:=3) (j2:=4) rfl (jr (qb (qd9 (i:=7) (qc 4)) (qb (qd9 (i:=7) (qc 3)) qf))))
   (qg (zg (i:=6) jb.nd (qz ze zf (qc 6) (vC (qb (qgx (i:=7) rfl T.b_tuple yp) (qb (qaM (qc 1) (qdo qt) qdn) (qb (qz ze zf (qc 1) (jr (qb qt qf))) (qb (uQ wX qfg rfl T.b_list qkW (qb (qc 1) qf)) (qb (qld (qc 1)) (qb (uQ yo vL rfl T.b_tuple yp (qb (uo (fo:=none) rfl (yb (qc 1)) (cs ["box","paper","odd","at","to","one","rows","other"] ["n"] 1 [] (qd zN)) (f0 [] [0,7]) (λ_ _ _ _ _ _ _ _ _ _ _=>⟨(qB (i:=0) (nd ["n"])),uI,(qz wC vo (qc 0) qt)⟩)) qf)) qf)))))))))
   (qo (qU (qX qE qD (qc 6) (iC (i:=0) C__law_take hr (qb qt qf)))))))))))
theorem j7:qH ["numbers","steps","lower","place","number","far","more","to"] ["numbers","steps"] (qd ug):=⟨rfl,rfl,rfl,by decide +kernel,rfl,by decide +kernel,by decide +kernel⟩
theorem q25 (F:Fun K "lowered" "lowered" ug f fd) (m:mg "lowered"=some (.ref f)) (T:Txt K mg):Q25 P w K mg base:=by
 refine⟨f,fd,?_,m,F.kp,F.binds λ_ _ _ _ _ _ us hl=>match us,hl with | [_,_],_=>rfl⟩
 exact qT (N:=["numbers","steps","lower","place","number","far","more","to"]) (O:=[2]) (body:=qa2) F j7 (by decide) λcdv A outer s H E B hr=>(qg (qaF (i:=2) j7.nd (qhb rfl T.b_list (qc 0)))
   (qg (yD yaH rfl (qeq rfl T.b_enumerate (qb (qc 0) qf)) (v0 (n:=2) rfl (zc (qB (i:=3) j7.nd) (zc (qB (i:=4) j7.nd) um))) (qo (yD yaH rfl (yb (qc 1)) (v0 (n:=2) rfl (zc (qB (i:=5) j7.nd) (zc (qB (i:=6) j7.nd) um))) (qg (zg (i:=7) j7.nd (qz uD yj (qz ze zf (qc 3) (qc 5)) (qJ z5 z6 rfl T.b_len uU (qb (qc 0) qf))))
   (qo (qgw (i:=2) (qJ (qaq rfl) qcy rfl T.b_min qcE (qb (qd9 (i:=2) (qc 7)) (qb (qz ze zf (qc 4) (qc 6)) qf))) (qc 7)))))))
   (qo (qgy (i:=2)))))
theorem jK:qH ["store","first","steps","numbers"] ["store"] (qd zL):=⟨rfl,rfl,rfl,by decide +kernel,rfl,by decide +kernel,by decide +kernel⟩
theorem q26 (F:Fun K "rest_paper" "rest_paper" zL f fd) (m:mg "rest_paper"=some (.ref f)) (T:Txt K mg) (C_keeps_steps:Q4 P w K mg base) (C_lowered:Q25 P w K mg base) (C_all_steps:Q6 P w K mg base) (C_lead_kind:Q3 P w K mg base) (C_need_light_endless:Q16 P w K mg base):Q26 P w K mg base:=by
 refine⟨f,fd,?_,m,F.kp,F.binds λ_ _ _ _ _ _ us hl=>match us,hl with | [_],_=>rfl⟩
 exact qT (N:=["store","first","steps","numbers"]) (O:=[]) (body:=vd) F jK (by decide) λcdv A outer s H E B hr=>(qg (yT (dC C_need_light_endless hr (qb (qc 0) qf)))
   (qg (zg (i:=1) jK.nd (dC C_lead_kind hr (qb (qc 0) qf)))
   (qg (zg (i:=2) jK.nd (dC C_all_steps hr (qb (qc 0) qf)))
   (qg (qdx (i:=3) jK.nd (qdw (fo:=none) rfl (yc rfl T.b_range (qb (qX qE qD (qc 1) (gI T.c_WEIGHT)) qf)) (cs ["store","first","steps","numbers"] ["place","first"] 1 [1] (qd zL)) (f0 [1] []) (λ_ _ _ _ _ _ _ _ _ _ _=>⟨(qB (i:=0) (nd ["place","first"])),uI,(qz zV zm (qc 0) (qX qE qD (qc 1) (gI T.c_WORTH)))⟩)) rfl (cs ["store","first","steps","numbers"] ["place","first"] 1 [1] (qd zL)))
   (qg (qiA yaH (uG (yZ (dC C_keeps_steps hr (qb (qc 3) (qb (qc 2) qf))))) (qo (zg (i:=3) jK.nd (dC C_lowered hr (qb (qc 3) (qb (qc 2) qf))))))
   (qo (qU (uQ yo vL rfl T.b_tuple yp (qb (qc 3) qf)))))))))
theorem qbb:qH ["box","some"] ["box"] (qd yz):=⟨rfl,rfl,rfl,by decide +kernel,rfl,by decide +kernel,by decide +kernel⟩
theorem q27 (F:Fun K "_law_odd" "_law_odd" yz f fd) (m:mg "_law_odd"=some (.ref f)) (T:Txt K mg) (C__law_take:Q0 P w K mg base):Q27 P w K mg base:=by
 refine⟨f,fd,?_,m,F.kp,F.binds λ_ _ _ _ _ _ us hl=>match us,hl with | [_],_=>rfl⟩
 show qbd P w K mg base CX0 2 f fd ["box"] (qfT K (wH (["box","some"]:List Str).length (["box"]:List Str).length vx))
 refine qis (N:=["box","some"]) (ps:=["box"]) (k:=1) (O:=[0]) (body:=vx) F qbb ?a ?a0 ?b
 case a=>decide
 case a0=>decide
 intro cdv A outer s H E B Io S hr
 exact (qg (zg (i:=1) qbb.nd (vC (qb qax (qb uK (qb uK (qb (qeb qt) (qb qt (qb qjv (qb qjv (qb (jr (qb qt qf)) (qb (vC (qb qt qf)) (qb qix (qb (jr (qb (qeb qt) qf)) (qb (jr (qb uK qf)) (qb (jr (qb (jr (qb qt qf)) qf)) (qb (jr (qb qax qf)) (qb (qz qf6 qdq qt qt) (qb (vC qf) qf))))))))))))))))))
   (qo (qU (qX qE qD (qc 1) (iC (i:=0) C__law_take hr (qb qt qf))))))
theorem qG:qH ["store","heft","found","lap","later","place","far","loss_v","there","here"] ["store"] (qd zw):=⟨rfl,rfl,rfl,by decide +kernel,rfl,by decide +kernel,by decide +kernel⟩
theorem q28 (F:Fun K "_law_greatest" "_law_greatest" zw f fd) (m:mg "_law_greatest"=some (.ref f)) (T:Txt K mg) (C__law_steps:Q21 P w K mg base) (C__law_lead:Q20 P w K mg base):Q28 P w K mg base:=by
 refine⟨f,fd,?_,m,F.kp,F.binds λ_ _ _ _ _ _ us hl=>match us,hl with | [_],_=>rfl⟩
 exact qT (N:=["store","heft","found","lap","later","place","far","loss_v","there","here"]) (O:=[]) (body:=yK) F qG (by decide) λcdv A outer s H E B hr=>(qg (zg (i:=1) qG.nd (qX qE qD (qX qE qD (qc 0) (dC C__law_lead hr (qb (qc 0) qf))) qt))
   (qg (zg (i:=2) qG.nd qiw)
   (qg (yD yaH rfl (yc rfl T.b_range (qb (qc 1) qf)) (qB (i:=3) qG.nd) (qi7 (i:=4) (iF:=2) (jP:=5) (jF:=6) (jL:=7) (jT:=8) (jH:=9) (h0:=(qbl qG.nd rfl (by first|exact ya7 rfl|exact yaN rfl) (vZ qfD rfl T.b_dict qkX (yS (pv 2) qar)))) (hF:=qlr (pv 2)) (hgP:=qbB qG.nd rfl (by first|exact ya7 rfl|exact yaN rfl)) (hg2:=qfY (n:=2) rfl (vY (qbB qG.nd rfl (by first|exact ya7 rfl|exact yaN rfl)) (vY (qbB qG.nd rfl (by first|exact ya7 rfl|exact yaN rfl)) qdg))) (hI:=λ_ _ _ _ _=>(yb (dC C__law_steps hr (qb (qc 0) qf)))) (hE:=λ_ _ _ _ _=>(qz uD yj (qz ze zf (qc 5) (qc 6)) (qc 1))) (b1:=λ_ q=>(qbl qG.nd rfl (by first|exact ya7 rfl|exact yaN rfl) q)) (b2:=(qbl qG.nd rfl (by first|exact ya7 rfl|exact yaN rfl) (qmk qjq (qht (qif hr) (pv 2) (pv 5) (λ_ _=>rfl)) (pv 7)))) (b3:=qlq (qif hr) (pv 4) (pv 8) (qbD (qaq rfl) rfl T.b_min qcE (yS (qi0 (qif hr) (pv 4) (pv 8) (pv 9) ⟨rfl,rfl,rfl,rfl⟩) (yS (pv 9) qar))) rfl) (h4:=(qbl qG.nd rfl (by first|exact ya7 rfl|exact yaN rfl) (pv 4))) (hp:=yaH) (hc:=rfl)))
   (qo (qU (uQ yo vL rfl T.b_tuple yp (qb (uo (fo:=none) rfl (yc rfl T.b_range (qb (qc 1) qf)) (cs ["store","heft","found","lap","later","place","far","loss_v","there","here"] ["place","found"] 1 [2] (qd zw)) (f0 [2] []) (λ_ _ _ _ _ _ _ _ _ _ _=>⟨(qB (i:=0) (nd ["place","found"])),uI,(qlv hr (qc 1) (qc 0))⟩)) qf)))))))
theorem zy:qH ["box","most","heaviest_v","kind","found","k","heft","given","gain"] ["box","most","heaviest_v"] (qd zT):=⟨rfl,rfl,rfl,by decide +kernel,rfl,by decide +kernel,by decide +kernel⟩
theorem q29 (F:Fun K "_law_endless" "_law_endless" zT f fd) (m:mg "_law_endless"=some (.ref f)) (T:Txt K mg) (C__law_take:Q0 P w K mg base):Q29 P w K mg base:=by
 refine⟨f,fd,?_,m,F.kp,F.binds λ_ _ _ _ _ _ us hl=>match us,hl with | [_,_,_],_=>rfl⟩
 show qbd P w K mg base CX0 2 f fd ["box","most","heaviest_v"] (qfT K (wH (["box","most","heaviest_v","kind","found","k","heft","given","gain"]:List Str).length (["box","most","heaviest_v"]:List Str).length j8))
 refine qis (N:=["box","most","heaviest_v","kind","found","k","heft","given","gain"]) (ps:=["box","most","heaviest_v"]) (k:=1) (O:=[0,4]) (body:=j8) F zy ?a ?a0 ?b
 case a=>decide
 case a0=>decide
 intro cdv A outer s H E B Io S hr
 exact (qg (zg (i:=3) zy.nd (iC (i:=0) C__law_take hr (qb qt qf)))
   (qg (qaF (i:=4) zy.nd (qjC qf))
   (qg (yD yaH rfl (yc rfl T.b_range (qb (qz ze zf qt (iC (i:=0) C__law_take hr (qb (qc 1) qf))) qf)) (qB (i:=5) zy.nd) (qg (zg (i:=6) zy.nd (qz ze zf qt (iC (i:=0) C__law_take hr (qb (qc 2) qf))))
   (qg (zg (i:=7) zy.nd (iC (i:=0) C__law_take hr (qb qt qf)))
   (qg (zg (i:=8) zy.nd (qX qE qD (vC (qb (qc 7) (qb (qc 6) (qb (qz ze zf (qz zV zm qt (qc 6)) (qz uD yj (qc 7) qt)) (qb qt (qb (qz ze zf (qz qf6 qdq qt qt) (qc 7)) qf)))))) (qc 3)))
   (qo (yT (qcB (i:=4) (jr (qb (qc 6) (qb (qc 8) (qb qax qf)))))))))))
   (qo (qU (qgx (i:=4) rfl T.b_tuple yp))))))
theorem jc:qH ["script","k","here","number","j","part"] ["script","k"] (qd yA):=⟨rfl,rfl,rfl,by decide +kernel,rfl,by decide +kernel,by decide +kernel⟩
theorem q30 (F:Fun K "_law_box" "_law_box" yA f fd) (m:mg "_law_box"=some (.ref f)) (T:Txt K mg):Q30 P w K mg base:=by
 refine⟨f,fd,?_,m,F.kp,F.binds λ_ _ _ _ _ _ us hl=>match us,hl with | [_,_],_=>rfl⟩
 exact qT (N:=["script","k","here","number","j","part"]) (O:=[]) (body:=vy) F jc (by decide) λcdv A outer s H E B hr=>(qg (zg (i:=2) jc.nd (qz ze zf (qz zV zm qt (qc 1)) qt))
   (qg (ul (js qkm qgq (qc 1) (qJ z5 z6 rfl T.b_len uU (qb (qc 0) qf)) (zZ _)) (qo (zg (i:=2) jc.nd (qX qE qD (qc 0) (qc 1)))) zn)
   (qg (ul (js (qee hr) qbO (qz uD yj (qc 2) qt) qt (zZ _)) (qo (qU (vC (qb (qz wC vo (qc 2) qt) qf)))) zn)
   (qg (zg (i:=3) jc.nd qt)
   (qg (yD yaH rfl (yc rfl T.b_range (qb qt qf)) (qB (i:=4) jc.nd) (qg (zg (i:=5) jc.nd (qz uD yj (qz ze zf (qz ze zf (qz zV zm (qz uD yj (qc 2) qt) qt) (qz zV zm qt (qc 4))) qt) qt))
   (qg (zg (i:=5) jc.nd (qz uD yj (qz zV zm (qc 5) (qc 5)) qt))
   (qo (zg (i:=3) jc.nd (qz ze zf (qz zV zm (qc 3) qt) (qz uD yj (qz zV zm (qc 5) (qz ze zf (qc 5) qt)) qt)))))))
   (qo (qU (vC (qb (qc 3) qf)))))))))
theorem yR:qH ["script","k","box","store","heft","gain","most","paper","odd","things","room","thing","held","due"] ["script"] (qd qbj):=⟨rfl,rfl,rfl,by decide +kernel,rfl,by decide +kernel,by decide +kernel⟩
theorem qnT (F:Fun K "law" "law" qbj f fd) (T:Txt K mg) (C__law_take:Q0 P w K mg base) (C_rest_bound:Q19 P w K mg base) (C__law_is:Q23 P w K mg base) (C__law_bent:Q24 P w K mg base) (C_rest_paper:Q26 P w K mg base) (C__law_odd:Q27 P w K mg base) (C__law_greatest:Q28 P w K mg base) (C__law_lead:Q20 P w K mg base) (C__law_endless:Q29 P w K mg base) (C__law_box:Q30 P w K mg base):qbd P w K mg base CX0 9 f fd ["script"] (spD K qdP):=by
 exact qT (N:=["script","k","box","store","heft","gain","most","paper","odd","things","room","thing","held","due"]) (O:=[2]) (body:=qlM) F yR (by decide) λcdv A outer s H E B hr=>(qg (yD yaH rfl (yc rfl T.b_range (qb (qJ (qgc rfl) qgs rfl T.b_max qjF (qb qt (qb (qJ (qaq rfl) qcy rfl T.b_min qcE (qb (qJ z5 z6 rfl T.b_len uU (qb (qc 0) qf)) (qb qt qf))) qf))) qf)) (qB (i:=1) yR.nd) (qg (qaF (i:=2) yR.nd (nC C__law_box hr (qb (qc 0) (qb (qc 1) qf))))
   (qg (zg (i:=3) yR.nd (iC (i:=2) C__law_endless hr (qb qt (qb qt qf))))
   (qg (qd3 (qX qE qD (qc 3) (dC C__law_lead hr (qb (qc 3) qf))) (v0 (n:=3) rfl (zc (qB (i:=4) yR.nd) (zc (qB (i:=5) yR.nd) (zc (qB (i:=6) yR.nd) um)))))
   (qg (zg (i:=7) yR.nd (dC C__law_greatest hr (qb (qc 3) qf)))
   (qg (zg (i:=8) yR.nd (iC (i:=2) C__law_odd hr qf))
   (qg (ul (js (w5 hr) uV (qJ (yw hr) jU rfl T.b_repr wK (qb (dC C_rest_paper hr (qb (qc 3) qf)) qf)) (qJ (yw hr) jU rfl T.b_repr wK (qb (qc 7) qf)) (zZ _)) (qo (qU uK)) zn)
   (qg (zg (i:=9) yR.nd (qz ze zf (vC (qb (qc 7) (qb (qz qln qiV (jr (qb qt qf)) (qc 4)) (qb (qc 8) (qb (jr qf) qf))))) (uo (fo:=(some (1,2))) rfl (yc rfl T.b_range (qb qt qf)) (cs ["script","k","box","store","heft","gain","most","paper","odd","things","room","thing","held","due"] ["lap","box","paper","odd"] 1 [2,7,8] (qd qbj)) (f1 1 [2,7,8] [2] 1 2) (λ_ _ _ _ _ _ _ _ _ _ _=>⟨(qB (i:=0) (nd ["lap","box","paper","odd"])),uI,(iC (i:=1) C__law_bent hr (qb (qc 2) (qb (qc 3) qf)))⟩))))
   (qo (yD yaH rfl (yb (vC (qb (iC (i:=2) C__law_take hr (qb qt qf)) (qb (qz ze zf (qz qf6 qdq qt qt) (iC (i:=2) C__law_take hr (qb qt qf))) (qb qt qf))))) (qB (i:=10) yR.nd) (qo (yD yaH rfl (yb (qc 9)) (qB (i:=11) yR.nd) (qg (zg (i:=12) yR.nd (qJ (yw hr) jU rfl T.b_repr wK (qb (qc 11) qf)))
   (qg (zg (i:=13) yR.nd (qot (yZ (dC C__law_is hr (qb (qc 11) (qb (qc 3) qf)))) (qz wC vo (qz qcj qaA (qz qhe qer (qc 10) (qc 5)) (qX qE qD (qc 11) (qz uD yj (qc 10) (qc 4)))) (qc 4)) qax))
   (qo (ul (DW.dt (qaz (js (w5 hr) uV (qJ (yw hr) jU rfl T.b_repr wK (qb (dC C_rest_bound hr (qb (qc 11) (qb (qc 3) (qb (qc 10) qf)))) qf)) (qJ (yw hr) jU rfl T.b_repr wK (qb (qc 13) qf)) (zZ _)) (vE (js (w5 hr) uV (qJ (yw hr) jU rfl T.b_repr wK (qb (qc 11) qf)) (qc 12) (zZ _))))) (qo (qU uK)) zn))))))))))))))))
   (qo (qU uK)))
end
theorem all_mk {l:yeL} {w:World} {K:yal} {h:Heap} {mg:Str->Option Value} {fa f0 f1 f2 f3 f4 f5 f6 f7 f8 f9 f10 f11 f12 f13 f14 f15 f16 f17 f18 f19 f20 f21 f22 f23 f24 f25 f26 f27 f28 f29 f30 f31:Addr} (X:K.In h) (G:h.Ns yaf mg) (hfa:mg "law"=some (.ref fa))
  {od0 an0 od1 an1 od2 an2 od3 an3 od4 an4 od5 an5 od6 an6 od7 an7 od8 an8 od9 an9 od10 an10 od11 an11 od12 an12 od13 an13 od14 an14 od15 an15 od16 an16 od17 an17 od18 an18 od19 an19 od20 an20 od21 an21 od22 an22 od23 an23 od24 an24 od25 an25 od26 an26 od27 an27 od28 an28 od29 an29 od30 an30 od31 an31:Option Addr} {sl0 sl1 sl2 sl3 sl4 sl5 sl6 sl7 sl8 sl9 sl10 sl11 sl12 sl13 sl14 sl15 sl16 sl17 sl18 sl19 sl20 sl21 sl22 sl23 sl24 sl25 sl26 sl27 sl28 sl29 sl30 sl31:Array (Option Value)} {oc0 kV0 dc0 pm0 cd0 ct0 oc1 kV1 dc1 pm1 cd1 ct1 oc2 kV2 dc2 pm2 cd2 ct2 oc3 kV3 dc3 pm3 cd3 ct3 oc4 kV4 dc4 pm4 cd4 ct4 oc5 kV5 dc5 pm5 cd5 ct5 oc6 kV6 dc6 pm6 cd6 ct6 oc7 kV7 dc7 pm7 cd7 ct7 oc8 kV8 dc8 pm8 cd8 ct8 oc9 kV9 dc9 pm9 cd9 ct9 oc10 kV10 dc10 pm10 cd10 ct10 oc11 kV11 dc11 pm11 cd11 ct11 oc12 kV12 dc12 pm12 cd12 ct12 oc13 kV13 dc13 pm13 cd13 ct13 oc14 kV14 dc14 pm14 cd14 ct14 oc15 kV15 dc15 pm15 cd15 ct15 oc16 kV16 dc16 pm16 cd16 ct16 oc17 kV17 dc17 pm17 cd17 ct17 oc18 kV18 dc18 pm18 cd18 ct18 oc19 kV19 dc19 pm19 cd19 ct19 oc20 kV20 dc20 pm20 cd20 ct20 oc21 kV21 dc21 pm21 cd21 ct21 oc22 kV22 dc22 pm22 cd22 ct22 oc23 kV23 dc23 pm23 cd23 ct23 oc24 kV24 dc24 pm24 cd24 ct24 oc25 kV25 dc25 pm25 cd25 ct25 oc26 kV26 dc26 pm26 cd26 ct26 oc27 kV27 dc27 pm27 cd27 ct27 oc28 kV28 dc28 pm28 cd28 ct28 oc29 kV29 dc29 pm29 cd29 ct29 oc30 kV30 dc30 pm30 cd30 ct30 oc31 kV31 dc31 pm31 cd31 ct31:Value} {tk_KINDS_AT_MOST:Tok} {tk_MOST:Tok} {tk_WEIGHT:Tok} {tk_WEIGHT_AT_MOST:Tok} {tk_WORTH:Tok}
  (a0:yaj K yaf "_law_take"=some (some (.ref f0))) (l0:K.lookup f0=some ⟨oc0,od0,.func (yat "_law_take" "_law_take" (qI jV) (qC jV) (qd jV) .none kV0 dc0 pm0 an0 cd0 ct0),sl0⟩) (c0:yar K cd0 "_law_take"=true) (k0:yak K (.ref f0)=true)
  (a1:yaj K yaf "weights_product"=some (some (.ref f1))) (l1:K.lookup f1=some ⟨oc1,od1,.func (yat "weights_product" "weights_product" (qI zq) (qC zq) (qd zq) .none kV1 dc1 pm1 an1 cd1 ct1),sl1⟩) (c1:yar K cd1 "weights_product"=true) (k1:yak K (.ref f1)=true)
  (a2:yaj K yaf "lead_place"=some (some (.ref f2))) (l2:K.lookup f2=some ⟨oc2,od2,.func (yat "lead_place" "lead_place" (qI zK) (qC zK) (qd zK) .none kV2 dc2 pm2 an2 cd2 ct2),sl2⟩) (c2:yar K cd2 "lead_place"=true) (k2:yak K (.ref f2)=true)
  (a3:yaj K yaf "lead_kind"=some (some (.ref f3))) (l3:K.lookup f3=some ⟨oc3,od3,.func (yat "lead_kind" "lead_kind" (qI jW) (qC jW) (qd jW) .none kV3 dc3 pm3 an3 cd3 ct3),sl3⟩) (c3:yar K cd3 "lead_kind"=true) (k3:yak K (.ref f3)=true)
  (a4:yaj K yaf "keeps_steps"=some (some (.ref f4))) (l4:K.lookup f4=some ⟨oc4,od4,.func (yat "keeps_steps" "keeps_steps" (qI je) (qC je) (qd je) .none kV4 dc4 pm4 an4 cd4 ct4),sl4⟩) (c4:yar K cd4 "keeps_steps"=true) (k4:yak K (.ref f4)=true)
  (a5:yaj K yaf "loss"=some (some (.ref f5))) (l5:K.lookup f5=some ⟨oc5,od5,.func (yat "loss" "loss" (qI qbz) (qC qbz) (qd qbz) .none kV5 dc5 pm5 an5 cd5 ct5),sl5⟩) (c5:yar K cd5 "loss"=true) (k5:yak K (.ref f5)=true)
  (a6:yaj K yaf "all_steps"=some (some (.ref f6))) (l6:K.lookup f6=some ⟨oc6,od6,.func (yat "all_steps" "all_steps" (qI jq) (qC jq) (qd jq) .none kV6 dc6 pm6 an6 cd6 ct6),sl6⟩) (c6:yar K cd6 "all_steps"=true) (k6:yak K (.ref f6)=true)
  (a7:yaj K yaf "is_whole"=some (some (.ref f7))) (l7:K.lookup f7=some ⟨oc7,od7,.func (yat "is_whole" "is_whole" (qI yx) (qC yx) (qd yx) .none kV7 dc7 pm7 an7 cd7 ct7),sl7⟩) (c7:yar K cd7 "is_whole"=true) (k7:yak K (.ref f7)=true)
  (a8:yaj K yaf "is_count"=some (some (.ref f8))) (l8:K.lookup f8=some ⟨oc8,od8,.func (yat "is_count" "is_count" (qI yy) (qC yy) (qd yy) .none kV8 dc8 pm8 an8 cd8 ct8),sl8⟩) (c8:yar K cd8 "is_count"=true) (k8:yak K (.ref f8)=true)
  (a9:yaj K yaf "is_rest_paper"=some (some (.ref f9))) (l9:K.lookup f9=some ⟨oc9,od9,.func (yat "is_rest_paper" "is_rest_paper" (qI zv) (qC zv) (qd zv) .none kV9 dc9 pm9 an9 cd9 ct9),sl9⟩) (c9:yar K cd9 "is_rest_paper"=true) (k9:yak K (.ref f9)=true)
  (a10:yaj K yaf "heaviest"=some (some (.ref f10))) (l10:K.lookup f10=some ⟨oc10,od10,.func (yat "heaviest" "heaviest" (qI jX) (qC jX) (qd jX) .none kV10 dc10 pm10 an10 cd10 ct10),sl10⟩) (c10:yar K cd10 "heaviest"=true) (k10:yak K (.ref f10)=true)
  (a11:yaj K yaf "need_light"=some (some (.ref f11))) (l11:K.lookup f11=some ⟨oc11,od11,.func (yat "need_light" "need_light" (qI jv) (qC jv) (qd jv) .none kV11 dc11 pm11 an11 cd11 ct11),sl11⟩) (c11:yar K cd11 "need_light"=true) (k11:yak K (.ref f11)=true)
  (a12:yaj K yaf "need_endless"=some (some (.ref f12))) (l12:K.lookup f12=some ⟨oc12,od12,.func (yat "need_endless" "need_endless" (qI zE) (qC zE) (qd zE) .none kV12 dc12 pm12 an12 cd12 ct12),sl12⟩) (c12:yar K cd12 "need_endless"=true) (k12:yak K (.ref f12)=true)
  (a13:yaj K yaf "is_kind"=some (some (.ref f13))) (l13:K.lookup f13=some ⟨oc13,od13,.func (yat "is_kind" "is_kind" (qI uf) (qC uf) (qd uf) .none kV13 dc13 pm13 an13 cd13 ct13),sl13⟩) (c13:yar K cd13 "is_kind"=true) (k13:yak K (.ref f13)=true)
  (a14:yaj K yaf "is_store"=some (some (.ref f14))) (l14:K.lookup f14=some ⟨oc14,od14,.func (yat "is_store" "is_store" (qI jY) (qC jY) (qd jY) .none kV14 dc14 pm14 an14 cd14 ct14),sl14⟩) (c14:yar K cd14 "is_store"=true) (k14:yak K (.ref f14)=true)
  (a15:yaj K yaf "need_store"=some (some (.ref f15))) (l15:K.lookup f15=some ⟨oc15,od15,.func (yat "need_store" "need_store" (qI jw) (qC jw) (qd jw) .none kV15 dc15 pm15 an15 cd15 ct15),sl15⟩) (c15:yar K cd15 "need_store"=true) (k15:yak K (.ref f15)=true)
  (a16:yaj K yaf "need_light_endless"=some (some (.ref f16))) (l16:K.lookup f16=some ⟨oc16,od16,.func (yat "need_light_endless" "need_light_endless" (qI qQ) (qC qQ) (qd qQ) .none kV16 dc16 pm16 an16 cd16 ct16),sl16⟩) (c16:yar K cd16 "need_light_endless"=true) (k16:yak K (.ref f16)=true)
  (a17:yaj K yaf "need_count"=some (some (.ref f17))) (l17:K.lookup f17=some ⟨oc17,od17,.func (yat "need_count" "need_count" (qI jx) (qC jx) (qd jx) .none kV17 dc17 pm17 an17 cd17 ct17),sl17⟩) (c17:yar K cd17 "need_count"=true) (k17:yak K (.ref f17)=true)
  (a18:yaj K yaf "need_endless_asked"=some (some (.ref f18))) (l18:K.lookup f18=some ⟨oc18,od18,.func (yat "need_endless_asked" "need_endless_asked" (qI qR) (qC qR) (qd qR) .none kV18 dc18 pm18 an18 cd18 ct18),sl18⟩) (c18:yar K cd18 "need_endless_asked"=true) (k18:yak K (.ref f18)=true)
  (a19:yaj K yaf "rest_bound"=some (some (.ref f19))) (l19:K.lookup f19=some ⟨oc19,od19,.func (yat "rest_bound" "rest_bound" (qI jy) (qC jy) (qd jy) .none kV19 dc19 pm19 an19 cd19 ct19),sl19⟩) (c19:yar K cd19 "rest_bound"=true) (k19:yak K (.ref f19)=true)
  (a20:yaj K yaf "_law_lead"=some (some (.ref f20))) (l20:K.lookup f20=some ⟨oc20,od20,.func (yat "_law_lead" "_law_lead" (qI jZ) (qC jZ) (qd jZ) .none kV20 dc20 pm20 an20 cd20 ct20),sl20⟩) (c20:yar K cd20 "_law_lead"=true) (k20:yak K (.ref f20)=true)
  (a21:yaj K yaf "_law_steps"=some (some (.ref f21))) (l21:K.lookup f21=some ⟨oc21,od21,.func (yat "_law_steps" "_law_steps" (qI jz) (qC jz) (qd jz) .none kV21 dc21 pm21 an21 cd21 ct21),sl21⟩) (c21:yar K cd21 "_law_steps"=true) (k21:yak K (.ref f21)=true)
  (a22:yaj K yaf "_law_whole"=some (some (.ref f22))) (l22:K.lookup f22=some ⟨oc22,od22,.func (yat "_law_whole" "_law_whole" (qI jA) (qC jA) (qd jA) .none kV22 dc22 pm22 an22 cd22 ct22),sl22⟩) (c22:yar K cd22 "_law_whole"=true) (k22:yak K (.ref f22)=true)
  (a23:yaj K yaf "_law_is"=some (some (.ref f23))) (l23:K.lookup f23=some ⟨oc23,od23,.func (yat "_law_is" "_law_is" (qI yI) (qC yI) (qd yI) .none kV23 dc23 pm23 an23 cd23 ct23),sl23⟩) (c23:yar K cd23 "_law_is"=true) (k23:yak K (.ref f23)=true)
  (a24:yaj K yaf "_law_bent"=some (some (.ref f24))) (l24:K.lookup f24=some ⟨oc24,od24,.func (yat "_law_bent" "_law_bent" (qI zN) (qC zN) (qd zN) .none kV24 dc24 pm24 an24 cd24 ct24),sl24⟩) (c24:yar K cd24 "_law_bent"=true) (k24:yak K (.ref f24)=true)
  (a25:yaj K yaf "lowered"=some (some (.ref f25))) (l25:K.lookup f25=some ⟨oc25,od25,.func (yat "lowered" "lowered" (qI ug) (qC ug) (qd ug) .none kV25 dc25 pm25 an25 cd25 ct25),sl25⟩) (c25:yar K cd25 "lowered"=true) (k25:yak K (.ref f25)=true)
  (a26:yaj K yaf "rest_paper"=some (some (.ref f26))) (l26:K.lookup f26=some ⟨oc26,od26,.func (yat "rest_paper" "rest_paper" (qI zL) (qC zL) (qd zL) .none kV26 dc26 pm26 an26 cd26 ct26),sl26⟩) (c26:yar K cd26 "rest_paper"=true) (k26:yak K (.ref f26)=true)
  (a27:yaj K yaf "_law_odd"=some (some (.ref f27))) (l27:K.lookup f27=some ⟨oc27,od27,.func (yat "_law_odd" "_law_odd" (qI yz) (qC yz) (qd yz) .none kV27 dc27 pm27 an27 cd27 ct27),sl27⟩) (c27:yar K cd27 "_law_odd"=true) (k27:yak K (.ref f27)=true)
  (a28:yaj K yaf "_law_greatest"=some (some (.ref f28))) (l28:K.lookup f28=some ⟨oc28,od28,.func (yat "_law_greatest" "_law_greatest" (qI zw) (qC zw) (qd zw) .none kV28 dc28 pm28 an28 cd28 ct28),sl28⟩) (c28:yar K cd28 "_law_greatest"=true) (k28:yak K (.ref f28)=true)
  (a29:yaj K yaf "_law_endless"=some (some (.ref f29))) (l29:K.lookup f29=some ⟨oc29,od29,.func (yat "_law_endless" "_law_endless" (qI zT) (qC zT) (qd zT) .none kV29 dc29 pm29 an29 cd29 ct29),sl29⟩) (c29:yar K cd29 "_law_endless"=true) (k29:yak K (.ref f29)=true)
  (a30:yaj K yaf "_law_box"=some (some (.ref f30))) (l30:K.lookup f30=some ⟨oc30,od30,.func (yat "_law_box" "_law_box" (qI yA) (qC yA) (qd yA) .none kV30 dc30 pm30 an30 cd30 ct30),sl30⟩) (c30:yar K cd30 "_law_box"=true) (k30:yak K (.ref f30)=true)
  (a31:yaj K yaf "law"=some (some (.ref f31))) (l31:K.lookup f31=some ⟨oc31,od31,.func (yat "law" "law" (qI qbj) (qC qbj) (qd qbj) .none kV31 dc31 pm31 an31 cd31 ct31),sl31⟩) (c31:yar K cd31 "law"=true) (k31:yak K (.ref f31)=true)
  (zb_all:yaj K yaf "all"=some none)
  (zb_bool:yaj K yaf "bool"=some none)
  (zb_dict:yaj K yaf "dict"=some none)
  (zb_divmod:yaj K yaf "divmod"=some none)
  (zb_enumerate:yaj K yaf "enumerate"=some none)
  (zb_int:yaj K yaf "int"=some none)
  (zb_isinstance:yaj K yaf "isinstance"=some none)
  (zb_len:yaj K yaf "len"=some none)
  (zb_list:yaj K yaf "list"=some none)
  (zb_max:yaj K yaf "max"=some none)
  (zb_min:yaj K yaf "min"=some none)
  (zb_range:yaj K yaf "range"=some none)
  (zb_repr:yaj K yaf "repr"=some none)
  (zb_str:yaj K yaf "str"=some none)
  (zb_tuple:yaj K yaf "tuple"=some none)
  (zg_KINDS_AT_MOST:yaj K yaf "KINDS_AT_MOST"=some (some (.int 12 tk_KINDS_AT_MOST)))
  (zg_MOST:yaj K yaf "MOST"=some (some (.int 2 tk_MOST)))
  (zg_WEIGHT:yaj K yaf "WEIGHT"=some (some (.int 0 tk_WEIGHT)))
  (zg_WEIGHT_AT_MOST:yaj K yaf "WEIGHT_AT_MOST"=some (some (.int 20 tk_WEIGHT_AT_MOST)))
  (zg_WORTH:yaj K yaf "WORTH"=some (some (.int 1 tk_WORTH))) :
  ∃fd:yaZ,(∀(s:yab)(v:Value),yef s fd ⟨[v],[]⟩ [("script",v)])/\∀base:Heap,K.In base->base.Ns yaf mg->qbd l.prog w K mg base CX0 9 fa fd ["script"] (spD K qdP):=by
 have e:=hfa.symm.trans (yaq X G a31)
 cases e
 have T:Txt K mg:=⟨yaD X G zb_all,yaD X G zb_bool,yaD X G zb_dict,yaD X G zb_divmod,yaD X G zb_enumerate,yaD X G zb_int,yaD X G zb_isinstance,yaD X G zb_len,yaD X G zb_list,yaD X G zb_max,yaD X G zb_min,yaD X G zb_range,yaD X G zb_repr,yaD X G zb_str,yaD X G zb_tuple,⟨_,yaq X G zg_KINDS_AT_MOST⟩,⟨_,yaq X G zg_MOST⟩,⟨_,yaq X G zg_WEIGHT⟩,⟨_,yaq X G zg_WEIGHT_AT_MOST⟩,⟨_,yaq X G zg_WORTH⟩⟩
 refine⟨yat "law" "law" (qI qbj) (qC qbj) (qd qbj) .none kV31 dc31 pm31 an31 cd31 ct31,λs v => .of_eq rfl,λbase hB _=>?_⟩
 have C__law_take:=q0 (P:=l.prog) (w:=w) (base:=base) (zo (st:=jV) l0 c0 k0) (yaq X G a0) T
 have C_weights_product:=q1 (P:=l.prog) (w:=w) (base:=base) (zo (st:=zq) l1 c1 k1) (yaq X G a1) T
 have C_lead_place:=q2 (P:=l.prog) (w:=w) (base:=base) (zo (st:=zK) l2 c2 k2) (yaq X G a2) T C_weights_product
 have C_lead_kind:=q3 (P:=l.prog) (w:=w) (base:=base) (zo (st:=jW) l3 c3 k3) (yaq X G a3) T C_lead_place
 have C_keeps_steps:=q4 (P:=l.prog) (w:=w) (base:=base) (zo (st:=je) l4 c4 k4) (yaq X G a4) T
 have C_loss:=q5 (P:=l.prog) (w:=w) (base:=base) (zo (st:=qbz) l5 c5 k5) (yaq X G a5) T
 have C_all_steps:=q6 (P:=l.prog) (w:=w) (base:=base) (zo (st:=jq) l6 c6 k6) (yaq X G a6) T C_loss C_lead_kind
 have C_is_whole:=q7 (P:=l.prog) (w:=w) (base:=base) (zo (st:=yx) l7 c7 k7) (yaq X G a7) T
 have C_is_count:=q8 (P:=l.prog) (w:=w) (base:=base) (zo (st:=yy) l8 c8 k8) (yaq X G a8) T C_is_whole
 have C_is_rest_paper:=q9 (P:=l.prog) (w:=w) (base:=base) (zo (st:=zv) l9 c9 k9) (yaq X G a9) T C_keeps_steps C_all_steps C_is_count C_lead_kind
 have C_heaviest:=q10 (P:=l.prog) (w:=w) (base:=base) (zo (st:=jX) l10 c10 k10) (yaq X G a10) T
 have C_need_light:=q11 (P:=l.prog) (w:=w) (base:=base) (zo (st:=jv) l11 c11 k11) (yaq X G a11) T C_heaviest
 have C_need_endless:=q12 (P:=l.prog) (w:=w) (base:=base) (zo (st:=zE) l12 c12 k12) (yaq X G a12) T
 have C_is_kind:=q13 (P:=l.prog) (w:=w) (base:=base) (zo (st:=uf) l13 c13 k13) (yaq X G a13) T C_is_count
 have C_is_store:=q14 (P:=l.prog) (w:=w) (base:=base) (zo (st:=jY) l14 c14 k14) (yaq X G a14) T C_is_kind
 have C_need_store:=q15 (P:=l.prog) (w:=w) (base:=base) (zo (st:=jw) l15 c15 k15) (yaq X G a15) T C_is_store
 have C_need_light_endless:=q16 (P:=l.prog) (w:=w) (base:=base) (zo (st:=qQ) l16 c16 k16) (yaq X G a16) T C_need_light C_need_endless C_need_store
 have C_need_count:=q17 (P:=l.prog) (w:=w) (base:=base) (zo (st:=jx) l17 c17 k17) (yaq X G a17) T C_is_count
 have C_need_endless_asked:=q18 (P:=l.prog) (w:=w) (base:=base) (zo (st:=qR) l18 c18 k18) (yaq X G a18) T C_need_light_endless C_need_count C_need_store
 have C_rest_bound:=q19 (P:=l.prog) (w:=w) (base:=base) (zo (st:=jy) l19 c19 k19) (yaq X G a19) T C_lead_kind C_is_rest_paper C_need_endless_asked
 have C__law_lead:=q20 (P:=l.prog) (w:=w) (base:=base) (zo (st:=jZ) l20 c20 k20) (yaq X G a20) T
 have C__law_steps:=q21 (P:=l.prog) (w:=w) (base:=base) (zo (st:=jz) l21 c21 k21) (yaq X G a21) T C__law_lead
 have C__law_whole:=q22 (P:=l.prog) (w:=w) (base:=base) (zo (st:=jA) l22 c22 k22) (yaq X G a22) T
 have C__law_is:=q23 (P:=l.prog) (w:=w) (base:=base) (zo (st:=yI) l23 c23 k23) (yaq X G a23) T C__law_steps C__law_whole C__law_lead
 have C__law_bent:=q24 (P:=l.prog) (w:=w) (base:=base) (zo (st:=zN) l24 c24 k24) (yaq X G a24) T C__law_take
 have C_lowered:=q25 (P:=l.prog) (w:=w) (base:=base) (zo (st:=ug) l25 c25 k25) (yaq X G a25) T
 have C_rest_paper:=q26 (P:=l.prog) (w:=w) (base:=base) (zo (st:=zL) l26 c26 k26) (yaq X G a26) T C_keeps_steps C_lowered C_all_steps C_lead_kind C_need_light_endless
 have C__law_odd:=q27 (P:=l.prog) (w:=w) (base:=base) (zo (st:=yz) l27 c27 k27) (yaq X G a27) T C__law_take
 have C__law_greatest:=q28 (P:=l.prog) (w:=w) (base:=base) (zo (st:=zw) l28 c28 k28) (yaq X G a28) T C__law_steps C__law_lead
 have C__law_endless:=q29 (P:=l.prog) (w:=w) (base:=base) (zo (st:=zT) l29 c29 k29) (yaq X G a29) T C__law_take
 have C__law_box:=q30 (P:=l.prog) (w:=w) (base:=base) (zo (st:=yA) l30 c30 k30) (yaq X G a30) T
 exact qnT (P:=l.prog) (w:=w) (base:=base) (zo (st:=qbj) l31 c31 k31) T C__law_take C_rest_bound C__law_is C__law_bent C_rest_paper C__law_odd C__law_greatest C__law_lead C__law_endless C__law_box
theorem qpa {K:Fr0} {H:Hp} {a:Addr} {ns:List Int} (hO:qnU H) (hS:SqL K H a (ns.map V.int)):qmD K H a (ns.map V.int):=by
 rcases hS with(h|h)|h
 ·rcases hO a with z|z
  ·rw[h]at z;cases z
  ·rcases z with⟨_,_,z⟩|⟨_,_,z⟩<;>(rw[h]at z;cases z)
 ·exact .inl h
 ·exact .inr h
theorem walk {l:yeL} {q:yan} {loose:List Str} {XP:(Str->Option Value)->Heap->Prop} {YP:World->Heap->Prop} {d:DefRec} {K:Params->yal} (hn:l.most=some 63) (hdf:d.params.defaults=[])
  (hY:∀(w:World)(h:Heap),YP w h->(K w.params).In h) (hlm:∀(w:World)(mean:ExcName->Option Value)(mg mb:Str->Option Value)(h:Heap)(c Pt:Addr)(pos:Pos),Top q (PySem.W.looseW q loose) mean mg mb h->(K w.params).In h->lamOf (K w.params)=some (c,Pt,pos)->ye6 h c Pt/\h.get? Pt=some (ye7 #[])/\(K w.params).lookup Pt=none) (hlaw:∀ns:List Int,ns.length<=63->qdP [.fz ns]=.ok (.bl true))
  (F:∀(w:World)(mg:Str->Option Value)(fa:Addr)(h:Heap),(K w.params).In h->h.Ns yaf mg->mg d.name=some (.ref fa) ->
   ∃fd:yaZ,(∀(s:yab)(u:Value),yef s fd ⟨[u],[]⟩ [("script",u)])/\∀base:Heap,(K w.params).In base->base.Ns yaf mg->qbd l.prog w (K w.params) mg base CX0 9 fa fd ["script"] (spD (K w.params) qdP)) :
  PySem.W.WalkO q loose XP YP l.row.toRowW d [] (λf vs=>ygl f vs) :=
 L2.walk_lam (n:=63) (k:=9) (x:="script") (CX:=λ_=>CX0) (sp:=λw=>spD (K w.params) qdP) (lm:=λw=>(lamOf (K w.params)).map λz=>(z.1,z.2.1,z.2.2,qor)) hn (by decide) hdf ⟨rfl,by decide,by decide,rfl⟩ hY (λw mean mg mb h c Pt pos z T X e=>by
  cases el:lamOf (K w.params) with
  |none=>rw[el]at e;cases e
  |some p=>obtain⟨c',P',pos'⟩:=p;rw[el]at e;cases e;exact hlm w mean mg mb h _ _ _ T X el) F (λw H a ns hl hO hT hS=>by
  refine⟨[.fz ns],λ_=>False,⟨.ref a,[],rfl,⟨a,rfl,qpa hO hS⟩,rfl⟩,λc P pos e=>⟨hT c P pos qor (by rw[e];rfl),λz=>z⟩,?_⟩
  rw[hlaw ns hl]
  exact λv H' _ h=>h) λ_ _ _ _ _ z=>z
end Law
end L2.Sk
open PySem PySem.W PyProof.Rows
set_option maxRecDepth 100000 in
set_option maxHeartbeats 0 in
theorem PySem.Challenge.cw_sackloads_k44_rest_papers_holds : PySem.Challenge.rw_sackloads_k44_rest_papers.Holds := by
 w_on;o_law;k_head;(case hw=>w_witness2)
 k_fill
 refine L2.Sk.Law.walk (l:=PySem.Challenge.rw_sackloads_k44_rest_papers) rfl rfl (λw h Y=>by first|exact PySem.W.kIn_of Y|exact PySem.W.km_in_of Y) ?hlm0 L2.Sk.Law.law_true ?F
 case hlm0=>
  intro w mean mg mb h c Pt pos T X e
  exact absurd ((show L2.Sk.lamOf _=none by kernel_rfl).symm.trans e) (by simp)
 case F=>
  intro w mg fa h KX G hmg
  refine' L2.Sk.Law.all_mk KX G hmg ?a0 ?l0 ?c0 ?k0 ?a1 ?l1 ?c1 ?k1 ?a2 ?l2 ?c2 ?k2 ?a3 ?l3 ?c3 ?k3 ?a4 ?l4 ?c4 ?k4 ?a5 ?l5 ?c5 ?k5 ?a6 ?l6 ?c6 ?k6 ?a7 ?l7 ?c7 ?k7 ?a8 ?l8 ?c8 ?k8 ?a9 ?l9 ?c9 ?k9 ?a10 ?l10 ?c10 ?k10 ?a11 ?l11 ?c11 ?k11 ?a12 ?l12 ?c12 ?k12 ?a13 ?l13 ?c13 ?k13 ?a14 ?l14 ?c14 ?k14 ?a15 ?l15 ?c15 ?k15 ?a16 ?l16 ?c16 ?k16 ?a17 ?l17 ?c17 ?k17 ?a18 ?l18 ?c18 ?k18 ?a19 ?l19 ?c19 ?k19 ?a20 ?l20 ?c20 ?k20 ?a21 ?l21 ?c21 ?k21 ?a22 ?l22 ?c22 ?k22 ?a23 ?l23 ?c23 ?k23 ?a24 ?l24 ?c24 ?k24 ?a25 ?l25 ?c25 ?k25 ?a26 ?l26 ?c26 ?k26 ?a27 ?l27 ?c27 ?k27 ?a28 ?l28 ?c28 ?k28 ?a29 ?l29 ?c29 ?k29 ?a30 ?l30 ?c30 ?k30 ?a31 ?l31 ?c31 ?k31 ?zb_all ?zb_bool ?zb_dict ?zb_divmod ?zb_enumerate ?zb_int ?zb_isinstance ?zb_len ?zb_list ?zb_max ?zb_min ?zb_range ?zb_repr ?zb_str ?zb_tuple ?zg_KINDS_AT_MOST ?zg_MOST ?zg_WEIGHT ?zg_WEIGHT_AT_MOST ?zg_WORTH
  (case a0=>k_is)
  (case l0=>k_is)
  (case c0=>k_is)
  (case k0=>k_is)
  (case a1=>k_is)
  (case l1=>k_is)
  (case c1=>k_is)
  (case k1=>k_is)
  (case a2=>k_is)
  (case l2=>k_is)
  (case c2=>k_is)
  (case k2=>k_is)
  (case a3=>k_is)
  (case l3=>k_is)
  (case c3=>k_is)
  (case k3=>k_is)
  (case a4=>k_is)
  (case l4=>k_is)
  (case c4=>k_is)
  (case k4=>k_is)
  (case a5=>k_is)
  (case l5=>k_is)
  (case c5=>k_is)
  (case k5=>k_is)
  (case a6=>k_is)
  (case l6=>k_is)
  (case c6=>k_is)
  (case k6=>k_is)
  (case a7=>k_is)
  (case l7=>k_is)
  (case c7=>k_is)
  (case k7=>k_is)
  (case a8=>k_is)
  (case l8=>k_is)
  (case c8=>k_is)
  (case k8=>k_is)
  (case a9=>k_is)
  (case l9=>k_is)
  (case c9=>k_is)
  (case k9=>k_is)
  (case a10=>k_is)
  (case l10=>k_is)
  (case c10=>k_is)
  (case k10=>k_is)
  (case a11=>k_is)
  (case l11=>k_is)
  (case c11=>k_is)
  (case k11=>k_is)
  (case a12=>k_is)
  (case l12=>k_is)
  (case c12=>k_is)
  (case k12=>k_is)
  (case a13=>k_is)
  (case l13=>k_is)
  (case c13=>k_is)
  (case k13=>k_is)
  (case a14=>k_is)
  (case l14=>k_is)
  (case c14=>k_is)
  (case k14=>k_is)
  (case a15=>k_is)
  (case l15=>k_is)
  (case c15=>k_is)
  (case k15=>k_is)
  (case a16=>k_is)
  (case l16=>k_is)
  (case c16=>k_is)
  (case k16=>k_is)
  (case a17=>k_is)
  (case l17=>k_is)
  (case c17=>k_is)
  (case k17=>k_is)
  (case a18=>k_is)
  (case l18=>k_is)
  (case c18=>k_is)
  (case k18=>k_is)
  (case a19=>k_is)
  (case l19=>k_is)
  (case c19=>k_is)
  (case k19=>k_is)
  (case a20=>k_is)
  (case l20=>k_is)
  (case c20=>k_is)
  (case k20=>k_is)
  (case a21=>k_is)
  (case l21=>k_is)
  (case c21=>k_is)
  (case k21=>k_is)
  (case a22=>k_is)
  (case l22=>k_is)
  (case c22=>k_is)
  (case k22=>k_is)
  (case a23=>k_is)
  (case l23=>k_is)
  (case c23=>k_is)
  (case k23=>k_is)
  (case a24=>k_is)
  (case l24=>k_is)
  (case c24=>k_is)
  (case k24=>k_is)
  (case a25=>k_is)
  (case l25=>k_is)
  (case c25=>k_is)
  (case k25=>k_is)
  (case a26=>k_is)
  (case l26=>k_is)
  (case c26=>k_is)
  (case k26=>k_is)
  (case a27=>k_is)
  (case l27=>k_is)
  (case c27=>k_is)
  (case k27=>k_is)
  (case a28=>k_is)
  (case l28=>k_is)
  (case c28=>k_is)
  (case k28=>k_is)
  (case a29=>k_is)
  (case l29=>k_is)
  (case c29=>k_is)
  (case k29=>k_is)
  (case a30=>k_is)
  (case l30=>k_is)
  (case c30=>k_is)
  (case k30=>k_is)
  (case a31=>k_is)
  (case l31=>k_is)
  (case c31=>k_is)
  (case k31=>k_is)
  (case zb_all=>k_is)
  (case zb_bool=>k_is)
  (case zb_dict=>k_is)
  (case zb_divmod=>k_is)
  (case zb_enumerate=>k_is)
  (case zb_int=>k_is)
  (case zb_isinstance=>k_is)
  (case zb_len=>k_is)
  (case zb_list=>k_is)
  (case zb_max=>k_is)
  (case zb_min=>k_is)
  (case zb_range=>k_is)
  (case zb_repr=>k_is)
  (case zb_str=>k_is)
  (case zb_tuple=>k_is)
  (case zg_KINDS_AT_MOST=>k_is)
  (case zg_MOST=>k_is)
  (case zg_WEIGHT=>k_is)
  (case zg_WEIGHT_AT_MOST=>k_is)
  (case zg_WORTH=>k_is)
